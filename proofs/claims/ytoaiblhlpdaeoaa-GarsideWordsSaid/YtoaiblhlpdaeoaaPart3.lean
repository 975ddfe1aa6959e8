/- Several texts in one. -/
import Derived.Test.YtoaiblhlpdaeoaaPart2
import Derived.Test.YtoaiblhlpdaeoaaPart1
import Derived.BigRegion
import Derived.BigQuiet
import Derived.Test.YtoaiblhlpdaeoaaBase1
import Derived.Test.YtoaiblhlpdaeoaaProg
import Derived.WalkKit
import Derived.Deep.QuietTactic
import Derived.WalkSpells
import Derived.WalkLawsBesides
import Derived.Outline
import Derived.Maps.OwnOps
import Derived.Maps.Views
import Derived.Deep.DeepCutAuto
/- Words of normal forms: what they are worth, how long the images under their beginnings can be. -/
namespace Go.Proofs.Ytoaiblhlpdaeoaa
set_option linter.unusedVariables false
set_option linter.unusedSimpArgs false
open Gar

theorem wrd_ok {n : Nat} {p : List Nat} (hp : isP p) (hl : p.length = n) : ∀ i ∈ spl (p.length * p.length) p, i + 1 < n := fun i hi => (elt_spec hp hl).1.1 i hi
theorem map_up_ok {n : Nat} {u : List Nat} (h : ∀ i ∈ u, i + 1 < n) : okB n (u.map up) := fun x hx => by
  obtain ⟨i, hi, rfl⟩ := List.mem_map.1 hx
  have := h i hi
  unfold up
  omega
theorem okB_okl {n : Nat} {w : List Int} (h : okB n w) : ∀ x ∈ w, okl n x := fun x hx => h x hx
theorem gp_wrd {n : Nat} {p : List Nat} (hp : isP p) (hl : p.length = n) : gp n (wrd p) = pos n (elt p) := (pos_mk (wrd_ok hp hl)).symm
theorem okB_wrd {n : Nat} {p : List Nat} (hp : isP p) (hl : p.length = n) : okB n (wrd p) := map_up_ok (wrd_ok hp hl)
def facW (l : List (List Nat)) : List Int := l.flatMap wrd
def PL (n : Nat) (l : List (List Nat)) : Prop := ∀ p ∈ l, isP p ∧ p.length = n
theorem gp_facW {n : Nat} : ∀ {l : List (List Nat)}, PL n l → gp n (facW l) = pos n (prod (l.map elt)) ∧ In n (prod (l.map elt))
  | [], _ => ⟨by rw [show facW [] = [] from rfl, gp_one, show prod (([] : List (List Nat)).map elt) = (1 : M) from rfl, pos_one], In_one n⟩
  | p :: l, h => by
    obtain ⟨i1, i2⟩ := gp_facW (l := l) fun q hq => h q (by simp [hq])
    obtain ⟨h1, h2⟩ := h p (by simp)
    have h3 := (elt_spec h1 h2).1.1
    refine ⟨?_, In_mul.2 ⟨h3, i2⟩⟩
    show gp n (wrd p ++ facW l) = pos n (elt p * prod (l.map elt))
    rw [← gp_mul, i1, gp_wrd h1 h2, pos_mul h3 i2]
/-- The half twist. -/
theorem full_isP (n : Nat) : isP (fullL n) ∧ (fullL n).length = n := by
  refine ⟨isP_of (fun j hj => ?_) (fun i j hi hj e => ?_), by simp [fullL]⟩
  · rw [show (fullL n).length = n by simp [fullL]] at hj ⊢
    rw [fullL_getD hj]
    omega
  · rw [show (fullL n).length = n by simp [fullL]] at hi hj
    rw [fullL_getD hi, fullL_getD hj] at e
    omega
theorem gp_half (n : Nat) : gp n (halfW n) = dl n := by
  unfold halfW dl
  rw [gp_wrd (full_isP n).1 (full_isP n).2, (elt_full (full_isP n).1 (full_isP n).2).2 rfl]
theorem okB_half (n : Nat) : okB n (halfW n) := okB_wrd (full_isP n).1 (full_isP n).2
/-- The word of a power of the half twist. -/
def powW (n : Nat) (k : Int) : List Int := rep (if k < 0 then invw (halfW n) else halfW n) k.natAbs
theorem gp_rep {n : Nat} (d : List Int) : ∀ k, gp n (rep d k) = npow (gp n d) k
  | 0 => rfl
  | k + 1 => by rw [rep_succ, ← gp_mul, gp_rep d k]; rfl
theorem gp_pow (n : Nat) (k : Int) : gp n (powW n k) = zp n k := by
  unfold powW zp
  rw [gp_rep]
  by_cases h : k < 0
  · rw [if_pos h, if_neg (by omega), show k.natAbs = (-k).toNat by omega]
    congr 1
    rw [← gp_half]
    rfl
  · rw [if_neg h, if_pos (by omega), show k.natAbs = k.toNat by omega, gp_half]
/-- The word of a normal form. -/
def wriW (n : Nat) (k : Int) (l : List (List Nat)) : List Int := powW n k ++ facW l
theorem gp_wri {n : Nat} (k : Int) {l : List (List Nat)} (h : PL n l) : gp n (wriW n k l) = nfv n k (l.map elt) := by
  unfold wriW nfv
  rw [← gp_mul, gp_pow, (gp_facW h).1]
end Go.Proofs.Ytoaiblhlpdaeoaa
/- slices.Reverse; timbref1.Full, Tight; slices.Repeat of nothing. -/
namespace Go.Proofs.Ytoaiblhlpdaeoaa
set_option linter.unusedVariables false
set_option linter.unusedSimpArgs false
open Go.RowKit

/-- The outermost k pairs exchanged. -/
def rvK (xs : List Int) (n k : Nat) : List Int := (List.range n).map fun j => if j < k ∨ n ≤ j + k then xs.getD (n - 1 - j) 0 else xs.getD j 0
theorem rvK_zero {xs : List Int} {n : Nat} (h : xs.length = n) : rvK xs n 0 = xs := by
  unfold rvK
  refine List.ext_getElem (by simp [h]) fun j h1 h2 => ?_
  simp at h1
  simp [List.getD, h2, show ¬ n ≤ j by omega]
theorem rvK_end {xs : List Int} {n k : Nat} (h : xs.length = n) (hk : n ≤ 2 * k + 1) : rvK xs n k = xs.reverse := by
  unfold rvK
  refine List.ext_getElem (by simp [h]) fun j h1 h2 => ?_
  simp at h1
  rw [List.getElem_map, List.getElem_range, List.getElem_reverse]
  have e : xs.getD (n - 1 - j) 0 = xs[xs.length - 1 - j]'(by omega) := by
    rw [show n - 1 - j = xs.length - 1 - j by omega]
    simp [List.getD, show xs.length - 1 - j < xs.length by omega]
  by_cases hc : j < k ∨ n ≤ j + k
  · rw [if_pos hc, e]
  · rw [if_neg hc]
    have e2 : xs.length - 1 - j = j := by omega
    simp [List.getD, show j < xs.length by omega, e2]
theorem rvK_getD {xs : List Int} {n k j : Nat} (hj : j < n) : (rvK xs n k).getD j 0 = if j < k ∨ n ≤ j + k then xs.getD (n - 1 - j) 0 else xs.getD j 0 := by
  unfold rvK
  simp [List.getD, hj]
theorem rvK_get {xs : List Int} {n k j : Nat} (h : j < (rvK xs n k).length) : (rvK xs n k)[j] = if j < k ∨ n ≤ j + k then xs.getD (n - 1 - j) 0 else xs.getD j 0 := by
  have hj : j < n := by simpa [rvK] using h
  rw [← rvK_getD hj]
  simp [List.getD, h]
theorem rvK_step {xs : List Int} {n k : Nat} (hk : 2 * k + 1 < n) : ((rvK xs n k).set k (xs.getD (n - 1 - k) 0)).set (n - 1 - k) (xs.getD k 0) = rvK xs n (k + 1) := by
  refine List.ext_getElem (by simp [rvK]) fun j h1 h2 => ?_
  simp [rvK] at h1
  rw [List.getElem_set, List.getElem_set, rvK_get, rvK_get]
  by_cases e1 : n - 1 - k = j
  · rw [if_pos e1, if_pos (by omega)]
    congr 1
    omega
  · rw [if_neg e1]
    by_cases e2 : k = j
    · subst e2
      rw [if_pos rfl, if_pos (by omega)]
    · rw [if_neg e2]
      by_cases hc : j < k ∨ n ≤ j + k
      · rw [if_pos hc, if_pos (by omega)]
      · rw [if_neg hc, if_neg (by omega)]

set_option maxRecDepth 100000 in
set_option maxHeartbeats 4000000 in
theorem reverse_any (g n c base : Nat) (xs : List Int) (w : World) (ho : OwnI w base (some ⟨g, 0, none⟩) n c xs) (hn : n ≤ 1000) :
    Calls Try.prog 97 #[.slice (some ⟨g, 0, none⟩) n c] w fun e w' => e = .returned (.tuple #[]) ∧ OwnI w' base (some ⟨g, 0, none⟩) n c xs.reverse ∧ Below g w w' := by
  have HL := hide ho.len
  have HO0 : Hid (OwnI w base (some ⟨g, 0, none⟩) n c (rvK xs n 0)) := hide (by rw [rvK_zero HL.out]; exact ho)
  have hgb : Hid (Below g w w) := hide (Below.refl _ _)
  clear ho
  go_enter Try.func97, Try.ntmps97
  go_wp2_with fail
  go_loopw [2, 3] (fun iv jv wr => ∃ k : Nat, iv = .int .i64 k ∧ jv = .int .i64 ((n : Int) - 1 - k) ∧ 2 * k ≤ n + 1 ∧ Hid (OwnI wr base (some ⟨g, 0, none⟩) n c (rvK xs n k)) ∧ Hid (Below g w wr)) (fun iv _ _ => n + 2 - (intOf iv).toNat)
  case atStart => exact ⟨0, rfl, by simp, by omega, HO0, hgb⟩
  case round =>
    clear HO0 hgb
    obtain ⟨k, rfl, rfl, hk, HO, HB⟩ := hrel
    by_cases hlt : 2 * k + 1 < n
    · obtain ⟨q, hq⟩ : ∃ q : Nat, n - 1 - k = q := ⟨_, rfl⟩
      have hqi : (n : Int) - 1 - (k : Int) = (q : Int) := by omega
      have hkq : k < q := by omega
      have hqn : q < n := by omega
      have hck := HO.out.cell (j := k) (by omega)
      have hcq := HO.out.cell (j := q) hqn
      rw [rvK_getD (by omega), if_neg (by omega)] at hck
      rw [rvK_getD hqn, if_neg (by omega)] at hcq
      have hfk := HO.out.frozen k
      have hfq := HO.out.frozen q
      have hst := rvK_step (xs := xs) hlt
      rw [hq] at hst
      have HN := hide ((HO.out.set_ k (xs.getD q 0)).set_ q (xs.getD k 0))
      rw [hst] at HN
      have HBN := hide ((HB.out.setCell (p := ⟨g, k, none⟩) (Nat.le_refl _) (.int .i64 (xs.getD q 0))).setCell (p := ⟨g, q, none⟩) (Nat.le_refl _) (.int .i64 (xs.getD k 0)))
      have HQ : Hid ((q : Int) - 1 = (n : Int) - 1 - ((k + 1 : Nat) : Int)) := hide (by omega)
      have HK2 : Hid (2 * (k + 1) ≤ n + 1) := hide (by omega)
      have HNK : Hid (n + 2 - (k + 1) < n + 2 - k) := hide (by omega)
      have hqs : q < 1000 := by omega
      rw [hqi]
      clear hst hq hqi hlt hk HO HB
      generalize xs.getD q 0 = u at *
      generalize xs.getD k 0 = v at *
      have hwk : IntKind.i64.wrap (k : Int) = (k : Int) := by rw [IntKind.wrap_i64]; omega
      have hwq : IntKind.i64.wrap (q : Int) = (q : Int) := by rw [IntKind.wrap_i64]; omega
      go_wp2_with fail
      go_region
      go_wp2_with fail
      go_roundw
      case rel => exact ⟨k + 1, by go_num, by rw [← HQ.out], HK2.out, hide HN.out.drew, hide HBN.out.drew⟩
      case measure => simp [intOf]; omega
    · have HE : Hid (OwnI wr base (some ⟨g, 0, none⟩) n c xs.reverse) := hide (by rw [← rvK_end HL.out (show n ≤ 2 * k + 1 by omega)]; exact HO.out)
      have hnl : ¬ ((k : Int) < (n : Int) - 1 - (k : Int)) := by omega
      have hd : decide ((k : Int) < (n : Int) - 1 - (k : Int)) = false := decide_eq_false hnl
      clear HO
      go_wp2_with fail
      go_returns
      exact ⟨rfl, HE.out, HB.out⟩

set_option maxRecDepth 100000 in
set_option maxHeartbeats 2000000 in
theorem full_any (n : Nat) (w : World) (h1 : 1 ≤ n) (hn : n ≤ 6) : Calls Try.prog 55 #[.int .i64 n] w (GivesOwn w (zs (Gar.fullL n))) := by
  go_enter Try.func55, Try.ntmps55
  go_wp2_with fail
  refine (row_any n w (by omega)).mono ?_
  rintro e w1 ⟨A, m, c, rfl, ho, hb⟩
  have hm : m = n := by have := ho.len; rw [zs_length, List.length_range] at this; exact this.symm
  subst hm
  obtain ⟨g, rfl, hg, _⟩ := ho.form h1
  have HB := hide hb
  have HO := hide ho
  clear hb ho
  go_wp2_with fail
  refine (reverse_any g m c w.heap.size _ w1 HO.out (by omega)).mono ?_
  rintro e w2 ⟨rfl, ho, hb⟩
  have HO2 : Hid (OwnI w2 w.heap.size (some ⟨g, 0, none⟩) m c (zs (Gar.fullL m))) := hide (by
    rw [show (zs (List.range m)).reverse = zs (Gar.fullL m) by unfold zs Gar.fullL; rw [List.map_reverse]] at ho
    exact ho)
  have HB2 := hide (HB.out.trans (hb.mono hg))
  clear ho hb
  go_wp2_with fail
  go_ret
  exact ⟨_, _, _, rfl, HO2.out, HB2.out⟩
end Go.Proofs.Ytoaiblhlpdaeoaa
/- timbref1.Tight. -/
namespace Go.Proofs.Ytoaiblhlpdaeoaa
set_option linter.unusedVariables false
set_option linter.unusedSimpArgs false
open Go.RowKit

def tiB (a b c : List Nat) (i : Nat) : Bool := !(decide (b.getD (i + 1) 0 < b.getD i 0) && decide (c.getD i 0 < c.getD (i + 1) 0))
theorem tight_yes {a b c : List Nat} {n : Nat} (hl : a.length = n) (h : ∀ j, j + 1 < n → tiB a b c j = true) : Gar.tightB a b c = true := by
  unfold Gar.tightB
  rw [List.all_eq_true]
  exact fun i hi => h i (by rw [List.mem_range] at hi; omega)
theorem tight_no {a b c : List Nat} {n j : Nat} (hl : a.length = n) (hj : j + 1 < n) (h : tiB a b c j = false) : Gar.tightB a b c = false := by
  unfold Gar.tightB
  rw [List.all_eq_false]
  exact ⟨j, List.mem_range.2 (by omega), by unfold tiB at h; rw [h]; simp⟩

set_option maxRecDepth 100000 in
set_option maxHeartbeats 4000000 in
theorem tight_any (A B : Option Addr) (n ca cb : Nat) (a b : List Nat) (w : World) (ha : SL w A n ca (zs a)) (hb : SL w B n cb (zs b)) (pa : isP a) (pb : isP b) (hn : n ≤ 6) :
    Calls Try.prog 56 #[.slice A n ca, .slice B n cb] w fun e w' => e = .returned (.bool (Gar.tightB a b (inv a))) ∧ Below w.heap.size w w' := by
  have hla : a.length = n := by have := ha.il.len; rwa [zs_length] at this
  have HLA := hide hla
  have HB := hide hb.il
  have HBK := hide (back_any A n ca a w ha.il pa)
  have hlc : (inv a).length = n := by rw [inv_length]; exact hla
  obtain ⟨c, hc⟩ : ∃ c, inv a = c := ⟨_, rfl⟩
  rw [hc] at HBK hlc ⊢
  have HLC := hide hlc
  clear ha hb hc hla hlc pa pb
  go_enter Try.func56, Try.ntmps56
  go_wp2_with fail
  refine HBK.out.mono ?_
  rintro e w1 ⟨C, m, cc, rfl, ho, hbw⟩
  have hm : m = n := by have := ho.len; rw [zs_length, HLC.out] at this; exact this.symm
  subst hm
  have HC := hide ho.il
  replace HB := hide (HB.out.below hbw)
  have HW := hide hbw
  clear ho hbw HBK
  go_wp2_with fail
  go_loopw [6] (fun iv wr => ∃ k i : Nat, k ≤ m ∧ i = k + 1 ∧ iv = .int .i64 (i : Int) ∧ Hid (∀ j, j < k → j + 1 < m → tiB a b c j = true) ∧ Hid (Below w1.heap.size w1 wr)) (fun iv _ => m + 1 - (intOf iv).toNat)
  case atStart => exact ⟨0, 1, Nat.zero_le _, rfl, rfl, hide (fun j h => absurd h (by omega)), hide (Below.refl _ _)⟩
  case round =>
    obtain ⟨k, i, hk, hik, rfl, HT, HWR⟩ := hrel
    have HIK := hide hik
    by_cases hlt : i < m
    · obtain ⟨ad, rfl, hb0⟩ := (HB.out.below HWR.out).at_ (k := k) (by omega)
      obtain ⟨_, e1, hb1⟩ := (HB.out.below HWR.out).at_ (k := i) hlt
      injection e1 with e1
      subst e1
      obtain ⟨cd, rfl, hc0⟩ := (HC.out.below HWR.out).at_ (k := k) (by omega)
      obtain ⟨_, e1, hc1⟩ := (HC.out.below HWR.out).at_ (k := i) hlt
      injection e1 with e1
      subst e1
      rw [zs_getD] at hb0 hb1 hc0 hc1
      have HV : Hid (tiB a b c k = !(decide (b.getD i 0 < b.getD k 0) && decide (c.getD k 0 < c.getD i 0))) := hide (by rw [hik]; rfl)
      have HNO : Hid (tiB a b c k = false → Gar.tightB a b c = false) := hide (fun h => tight_no HLA.out (by rw [← hik]; exact hlt) h)
      have HYS : Hid (tiB a b c k = true → ∀ j, j < k + 1 → j + 1 < m → tiB a b c j = true) := hide (fun h j h1 h2 => by
        rcases Nat.lt_or_ge j k with h3 | h3
        · exact HT.out j h3 h2
        · rw [show j = k by omega]; exact h)
      clear HT
      generalize b.getD k 0 = x at *
      generalize b.getD i 0 = y at *
      generalize c.getD k 0 = u at *
      generalize c.getD i 0 = v at *
      generalize tiB a b c k = t at *
      have hw1 : IntKind.i64.wrap ((i : Int) - 1) = (k : Int) := by rw [IntKind.wrap_i64]; omega
      have hw2 : (i : Int) - 1 = (k : Int) := by omega
      have hk2 : k < m := by omega
      clear hik
      by_cases hxy : y < x
      · have hd : decide ((y : Int) < (x : Int)) = true := decide_eq_true (by omega)
        have hdn : decide (y < x) = true := decide_eq_true hxy
        by_cases huv : u < v
        · have hd2 : decide ((u : Int) < (v : Int)) = true := decide_eq_true (by omega)
          have hdn2 : decide (u < v) = true := decide_eq_true huv
          have HF := hide (HNO.out (by rw [HV.out, hdn, hdn2]; rfl))
          clear HV HNO HYS
          go_upto_region 5 with fail
          go_quiet (fail)
          have HBE := hide (HW.out.trans ((below_drewN HWR.out nq).mono HW.out.size))
          go_wp2_with fail
          go_ret
          exact ⟨by rw [HF.out]; rfl, HBE.out⟩
        · have hd2 : decide ((u : Int) < (v : Int)) = false := decide_eq_false (by omega)
          have hdn2 : decide (u < v) = false := decide_eq_false huv
          have HF := hide (HYS.out (by rw [HV.out, hdn, hdn2]; rfl))
          clear HV HNO HYS
          go_upto_region 5 with fail
          go_quiet (fail)
          have HBE := hide (below_drewN HWR.out nq)
          go_wp2_with fail
          go_roundw
          case rel => exact ⟨k + 1, i + 1, by omega, by rw [HIK.out], by go_num, HF, HBE⟩
          case measure => simp [intOf]; omega
      · have hd : decide ((y : Int) < (x : Int)) = false := decide_eq_false (by omega)
        have hdn : decide (y < x) = false := decide_eq_false hxy
        have HF := hide (HYS.out (by rw [HV.out, hdn]; rfl))
        clear HV HNO HYS
        go_upto_region 5 with fail
        go_quiet (fail)
        have HBE := hide (below_drewN HWR.out nq)
        go_wp2_with fail
        go_roundw
        case rel => exact ⟨k + 1, i + 1, by omega, by rw [HIK.out], by go_num, HF, HBE⟩
        case measure => simp [intOf]; omega
    · clear hik
      have HF := hide (tight_yes HLA.out (b := b) (c := c) (fun j hj => HT.out j (by have := HIK.out; omega) hj))
      have HBE := hide (HW.out.trans (HWR.out.mono HW.out.size))
      clear HT
      go_wp2_with fail
      go_ret
      exact ⟨by rw [HF.out]; rfl, HBE.out⟩
end Go.Proofs.Ytoaiblhlpdaeoaa
/- perm.Check. -/
namespace Go.Proofs.Ytoaiblhlpdaeoaa
set_option linter.unusedVariables false
set_option linter.unusedSimpArgs false
open Go.RowKit

/-- The array 'seen': which of 0 to 8 lie in xs. -/
def seenA (xs : List Int) : Array Value := ((List.range 9).map fun j : Nat => Value.bool (decide ((j : Int) ∈ xs))).toArray
theorem seenA_get (xs : List Int) (j : Nat) (hj : j < 9) : (seenA xs)[j]? = some (.bool (decide ((j : Int) ∈ xs))) := by
  simp [seenA, hj]
theorem seenA_set (xs : List Int) (j : Nat) : (seenA xs).setIfInBounds j (.bool true) = seenA (xs ++ [(j : Int)]) := by
  apply Array.ext_getElem?
  intro i
  by_cases hi : i < 9
  · rw [seenA_get _ i hi, Array.getElem?_setIfInBounds]
    by_cases hij : j = i
    · subst hij
      have : j < (seenA xs).size := by simp [seenA]; omega
      simp [this]
    · rw [if_neg hij, seenA_get _ i hi]
      have : ¬ ((i : Int) = (j : Int)) := by omega
      simp [this]
  · rw [Array.getElem?_eq_none (by simp [seenA]; omega), Array.getElem?_eq_none (by simp [seenA]; omega)]

theorem pf_big {xs : List Int} (h : 9 < xs.length) : pf xs = 2 := by unfold pf; rw [if_pos h]
theorem pf_small {xs : List Int} (h : xs.length ≤ 9) : pf xs = pfGo xs.length [] xs := by unfold pf; rw [if_neg (by omega)]
theorem take_snoc (xs : List Int) (k : Nat) (h : k < xs.length) : xs.take (k + 1) = xs.take k ++ [xs.getD k 0] := by
  rw [List.take_succ_eq_append_getElem h]
  simp [List.getD, List.getElem?_eq_getElem h]

set_option maxHeartbeats 1000000 in
theorem check_any (A : Option Addr) (n c : Nat) (xs : List Int) (w : World) (ha : IL w A n xs) :
    Calls Try.prog 63 #[.slice A n c] w fun e w' => e = .returned (.int .i64 (pf xs)) ∧ Below w.heap.size w w' := by
  have hna := ha.small
  have HL := hide ha.len
  by_cases h9 : 9 < n
  · have HE := hide (pf_big (xs := xs) (by have := HL.out; omega))
    clear ha
    go_enter Try.func63, Try.ntmps63
    go_wp2
    go_ret
    rw [HE.out]
    exact ⟨rfl, Below.refl _ _⟩
  · go_enter Try.func63, Try.ntmps63
    go_wp2
    go_loopw [11] (fun i wr => ∃ k : Nat, k ≤ n ∧ i = .int .i64 k ∧ Hid (pf xs = pfGo xs.length (xs.take k) (xs.drop k)) ∧ Blk wr w.heap.size 104 (seenA (xs.take k)) ∧ Below w.heap.size w wr) (fun i _ => n - (intOf i).toNat)
    case atStart => exact ⟨0, Nat.zero_le _, rfl, pf_small (by have := HL.out; omega), Blk.new _ _ _, (Below.refl _ _).alloc (Nat.le_refl _) _⟩
    case round =>
      obtain ⟨k, hk, rfl, hpf, hblk, hnx⟩ := hrel
      have ha' := ha.below hnx
      by_cases hlt : k < n
      · obtain ⟨ad, rfl, hca⟩ := ha'.at_ hlt
        have HT := hide (take_snoc xs k (by have := HL.out; omega))
        have HP := hide (pf_step (xs := xs) (k := k) (by have := HL.out; omega))
        clear ha ha'
        generalize xs.getD k 0 = x at *
        by_cases h1 : x < 0
        · have HE : Hid (pf xs = 1) := by rw [hpf.out, HP.out, if_pos (.inl h1)]; exact rfl
          go_wp2
          go_ret
          rw [HE.out]
          exact ⟨rfl, hnx⟩
        · by_cases h2 : (n : Int) ≤ x
          · have HE : Hid (pf xs = 1) := by rw [hpf.out, HP.out, if_pos (.inr (by rw [HL.out]; exact h2))]; exact rfl
            go_wp2
            go_ret
            rw [HE.out]
            exact ⟨rfl, hnx⟩
          · obtain ⟨u, rfl⟩ : ∃ u : Nat, x = (u : Int) := ⟨x.toNat, by omega⟩
            have hu9 : u < 9 := by omega
            have hun : u < n := by omega
            have hcell := (hblk.cell u).trans (seenA_get _ u hu9)
            have hfr := hblk.frozen u
            by_cases h3 : (u : Int) ∈ xs.take k
            · have HE : Hid (pf xs = 5) := by rw [hpf.out, HP.out, if_neg (by rw [HL.out]; omega), if_pos h3]; exact rfl
              rw [decide_eq_true h3] at hcell
              clear h3
              go_wp2
              go_ret
              rw [HE.out]
              exact ⟨rfl, hnx⟩
            · have HE : Hid (pf xs = pfGo xs.length (xs.take (k + 1)) (xs.drop (k + 1))) := by rw [hpf.out, HP.out, if_neg (by rw [HL.out]; omega), if_neg h3]; exact rfl
              rw [decide_eq_false h3] at hcell
              clear h3
              go_wp2
              go_roundw
              case rel => exact ⟨k + 1, by omega, by go_num, HE, by rw [HT.out, ← seenA_set]; exact hblk.set_ _ _, hnx.setCell (Nat.le_refl _) _⟩
              case measure => simp [intOf]; omega
      · have HE : Hid (pf xs = 0) := by rw [hpf.out, pf_end xs _ k (by rw [HL.out]; omega)]; exact rfl
        go_wp2
        go_ret
        rw [HE.out]
        exact ⟨rfl, hnx⟩
end Go.Proofs.Ytoaiblhlpdaeoaa
/- timbref1.PermFault: a map of booleans. -/
namespace Go.Proofs.Ytoaiblhlpdaeoaa
set_option linter.unusedVariables false
set_option linter.unusedSimpArgs false
open Go.RowKit Go.Maps

theorem plainElem_bool_inv {H : Type} {P : Program} {e : TypeId} (he : P.underlying e = some .bool) {v : Value} {z : DataW H × List MemPlace} (h : plainElem P e v = some z) : ∃ x, v = .bool x ∧ z = (.lit (.bool x), []) := by
  unfold plainElem at h
  rw [he] at h
  cases v <;> simp at h
  obtain rfl := h
  exact ⟨_, rfl, rfl⟩

theorem wpList_lookup_own_bool {H : Type} {P : Program} (w : World) {ops : Array Oper} {rest : List Oper} {o : Oper} {a : Act} {Q : Exit → Act → World → Prop}
    (hg : o.guard = none) (m x : Operand) (t : TypeId) (hop : o.op = Op.lookup t m x false)
    (k e : TypeId) (K : Keyed P k) (ht : P.underlying t = some (.map k e)) (he : P.underlying e = some .bool) (hz : (zeroValue e).run P w = .ok (.bool false) w) (b n : Nat) (D : DataW H)
    (hm : a.eval m = .map (some b)) (hown : w.ownsMap P k (plainElem P e) b n D) (key : Value) (kl : Lit) (hx : a.eval x = key) (hkey : keyOf P k key = some kl)
    (hK : ∀ c : Bool, D.atKey kl (.lit (.bool false)) = .lit (.bool c) → wpList P ops Q rest (a.put o.dst (.bool c)) w) :
    wpList P ops Q (o :: rest) a w := by
  refine wpList_plain hg fun K' hK' => ?_
  obtain ⟨v, ps, hrun, hv⟩ := hown.lookup K ht hz (plainElem_bool he false) hkey
  obtain ⟨c, rfl, hc⟩ := plainElem_bool_inv he hv
  simp only [Prod.mk.injEq] at hc
  unfold Oper.wp
  simp [execOp, hop, hm, hx, hrun, Result.andThen]
  exact hK' _ _ (hK c hc.1)

theorem wf_small {x : Nat} (h : x < 9) : (Lit.int .i64 (x : Int)).wf = true := by
  simp [Lit.wf, IntKind.min, IntKind.max, IntKind.signed, IntKind.bits]
  omega
theorem key3 : Keyed Try.prog 3 := int_keyed Try.underlying3
theorem zero4 (w : World) : (zeroValue 4).run Try.prog w = .ok (.bool false) w := by kernel_rfl
theorem key_is (x : Int) : WideAt.IsKeyLit (.int .i64 x) := by
  simp [WideAt.IsKeyLit]

/-- The map 'seen': true for what lies in xs. -/
structure SeenM (w : World) (b n : Nat) (xs : List Int) : Prop where
  own : ∃ D : DataW Unit, w.ownsMap Try.prog 3 (plainElem Try.prog 4) b n D ∧ IsMap D ∧ ∀ x : Int, D.atKey (.int .i64 x) (.lit (.bool false)) = .lit (.bool (decide (x ∈ xs)))
theorem SeenM.made (w : World) : SeenM (w.alloc (.map #[] 0)) w.heap.size 0 [] := ⟨⟨.map [], World.ownsMap_made _ _ _ _, ⟨[], rfl⟩, fun x => by simp; rfl⟩⟩
theorem SeenM.step {D : DataW Unit} {xs : List Int} (hD : IsMap D) (h : ∀ x : Int, D.atKey (.int .i64 x) (.lit (.bool false)) = .lit (.bool (decide (x ∈ xs)))) (y : Int) :
    IsMap (D.put (.int .i64 y) (.lit (.bool true))) ∧ ∀ x : Int, (D.put (.int .i64 y) (.lit (.bool true))).atKey (.int .i64 x) (.lit (.bool false)) = .lit (.bool (decide (x ∈ xs ++ [y]))) := by
  refine ⟨?_, fun x => ?_⟩
  · obtain ⟨es, rfl⟩ := hD
    exact ⟨_, rfl⟩
  · by_cases e : x = y
    · subst e
      rw [atKey_put_same hD (key_is x)]
      simp
    · rw [atKey_put_other (by simpa using e), h x]
      simp [e]

set_option maxRecDepth 100000 in
set_option maxHeartbeats 1000000 in
theorem fault_any (A : Option Addr) (n c : Nat) (xs : List Int) (w : World) (ha : IL w A n xs) :
    Calls Try.prog 53 #[.slice A n c] w fun e w' => e = .returned (.int .i64 (pf xs)) ∧ Below w.heap.size w w' := by
  have hna := ha.small
  have HL := hide ha.len
  have hmm := @run_makeMap Try.prog
  by_cases h9 : 9 < n
  · have HE := hide (pf_big (xs := xs) (by have := HL.out; omega))
    clear ha
    go_enter Try.func53, Try.ntmps53
    go_wp2
    go_ret
    rw [HE.out]
    exact ⟨rfl, Below.refl _ _⟩
  · go_enter Try.func53, Try.ntmps53
    go_wp2
    go_loopw [12] (fun i wr => ∃ k : Nat, k ≤ n ∧ i = .int .i64 k ∧ Hid (pf xs = pfGo xs.length (xs.take k) (xs.drop k)) ∧ SeenM wr w.heap.size k (xs.take k) ∧ Below w.heap.size w wr) (fun i _ => n - (intOf i).toNat)
    case atStart => exact ⟨0, Nat.zero_le _, rfl, pf_small (by have := HL.out; omega), SeenM.made w, (Below.refl _ _).alloc (Nat.le_refl _) _⟩
    case round =>
      obtain ⟨k, hk, rfl, hpf, hseen, hnx⟩ := hrel
      have ha' := ha.below hnx
      by_cases hlt : k < n
      · obtain ⟨ad, rfl, hca⟩ := ha'.at_ hlt
        have HT := hide (take_snoc xs k (by have := HL.out; omega))
        have HP := hide (pf_step (xs := xs) (k := k) (by have := HL.out; omega))
        clear ha ha'
        generalize xs.getD k 0 = x at *
        by_cases h1 : x < 0
        · have HE : Hid (pf xs = 1) := by rw [hpf.out, HP.out, if_pos (.inl h1)]; exact rfl
          go_wp2
          go_ret
          rw [HE.out]
          exact ⟨rfl, hnx⟩
        · by_cases h2 : (n : Int) ≤ x
          · have HE : Hid (pf xs = 1) := by rw [hpf.out, HP.out, if_pos (.inr (by rw [HL.out]; exact h2))]; exact rfl
            go_wp2
            go_ret
            rw [HE.out]
            exact ⟨rfl, hnx⟩
          · obtain ⟨u, rfl⟩ : ∃ u : Nat, x = (u : Int) := ⟨x.toNat, by omega⟩
            have hu9 : u < 9 := by omega
            have hun : u < n := by omega
            obtain ⟨D, hown, hD, hat⟩ := hseen.own
            have HAT := hide (hat u)
            have HST := hide (SeenM.step hD hat u)
            have hkey : keyOf Try.prog 3 (.int .i64 (u : Int)) = some (.int .i64 (u : Int)) := keyOf_int_mk Try.underlying3 (wf_small hu9)
            have HKEY := hide hkey
            clear hkey hat hD hseen
            by_cases h3 : (u : Int) ∈ xs.take k
            · have HE : Hid (pf xs = 5) := by rw [hpf.out, HP.out, if_neg (by rw [HL.out]; omega), if_pos h3]; exact rfl
              have HC : Hid (∀ c : Bool, D.atKey (.int .i64 (u : Int)) (.lit (.bool false)) = .lit (.bool c) → c = true) := by
                intro c hc
                rw [HAT.out, decide_eq_true h3] at hc
                injection hc with hc
                injection hc with hc
                exact hc.symm
              clear h3
              go_wp2_with (at_lookup; refine wpList_lookup_own_bool _ rfl _ _ 98 rfl 3 4 key3 Try.underlying98 Try.underlying4 (zero4 _) w.heap.size k _ rfl hown _ _ rfl HKEY.out ?_; intro c hc; have hct := HC.out c hc; clear hc; subst hct)
              go_ret
              rw [HE.out]
              exact ⟨rfl, hnx⟩
            · have HE : Hid (pf xs = pfGo xs.length (xs.take (k + 1)) (xs.drop (k + 1))) := by rw [hpf.out, HP.out, if_neg (by rw [HL.out]; omega), if_neg h3]; exact rfl
              have HC : Hid (∀ c : Bool, D.atKey (.int .i64 (u : Int)) (.lit (.bool false)) = .lit (.bool c) → c = false) := by
                intro c hc
                rw [HAT.out, decide_eq_false h3] at hc
                injection hc with hc
                injection hc with hc
                exact hc.symm
              clear h3
              go_wp2_with (first | (at_lookup; refine wpList_lookup_own_bool _ rfl _ _ 98 rfl 3 4 key3 Try.underlying98 Try.underlying4 (zero4 _) w.heap.size k _ rfl hown _ _ rfl HKEY.out ?_; intro c hc; have hct := HC.out c hc; clear hc; subst hct) | (at_mapUpdate; refine wpList_mapUpdate_own _ rfl _ _ _ 98 rfl 3 4 key3 Try.underlying98 _ w.heap.size k _ rfl hown (by unfold maxLen; omega) _ _ _ rfl rfl HKEY.out _ [] (plainElem_bool Try.underlying4 true) ?_; intro w1 hown1 hgrow1))
              go_roundw
              case rel => exact ⟨k + 1, by omega, by go_num, HE, ⟨⟨_, hown1, HST.out.1, by rw [HT.out]; exact HST.out.2⟩⟩, hnx.grown hgrow1 hnx.size (fun j hj => by cases hj; exact Nat.le_refl _)⟩
              case measure => simp [intOf]; omega
      · have HE : Hid (pf xs = 0) := by rw [hpf.out, pf_end xs _ k (by rw [HL.out]; omega)]; exact rfl
        go_wp2
        go_ret
        rw [HE.out]
        exact ⟨rfl, hnx⟩
end Go.Proofs.Ytoaiblhlpdaeoaa
/- timbref1.FactorsFault. -/
namespace Go.Proofs.Ytoaiblhlpdaeoaa
set_option linter.unusedVariables false
set_option linter.unusedSimpArgs false
open Go.RowKit

def tightI (q p : List Int) : Bool := Gar.tightB (q.map Int.toNat) (p.map Int.toNat) (inv (q.map Int.toNat))
theorem toNat_zs (a : List Nat) : (zs a).map Int.toNat = a := by
  unfold zs
  rw [List.map_map]
  conv => rhs; rw [← List.map_id a]
  rfl
theorem tightI_zs (a b : List Nat) : tightI (zs a) (zs b) = Gar.tightB a b (inv a) := by unfold tightI; rw [toNat_zs, toNat_zs]
def badF (N : Nat) (p : List Int) : Bool := decide (p.length ≠ N) || (eqB p (zs (List.range N)) || eqB p (zs (Gar.fullL N)))
def looseF (prev : Option (List Int)) (p : List Int) : Bool := match prev with
  | none => false
  | some q => !tightI q p
def ffGo (N : Nat) : Option (List Int) → List (List Int) → Int
  | _, [] => 0
  | prev, p :: ps => if pf p ≠ 0 then pf p else if (badF N p || looseF prev p) = true then 3 else ffGo N (some p) ps
def ffE (m : Int) (xss : List (List Int)) : Int := if m < 2 ∨ 6 < m then 1 else if 30 < xss.length then 2 else ffGo m.toNat none xss
def prevF (xss : List (List Int)) (k : Nat) : Option (List Int) := if k = 0 then none else some (xss.getD (k - 1) [])
theorem ffGo_drop {N k : Nat} {xss : List (List Int)} (hk : k < xss.length) : ffGo N (prevF xss k) (xss.drop k) = if pf (xss.getD k []) ≠ 0 then pf (xss.getD k []) else if (badF N (xss.getD k []) || looseF (prevF xss k) (xss.getD k [])) = true then 3 else ffGo N (prevF xss (k + 1)) (xss.drop (k + 1)) := by
  rw [List.drop_eq_getElem_cons hk, show xss.getD k [] = xss[k] by simp [List.getD, hk]]
  unfold prevF
  rw [if_neg (show ¬ k + 1 = 0 by omega), Nat.add_sub_cancel, show xss.getD k [] = xss[k] by simp [List.getD, hk]]
  rfl

set_option maxRecDepth 100000 in
set_option maxHeartbeats 8000000 in
theorem facF_any (m : Int) (A : Option Addr) (n c : Nat) (xss : List (List Int)) (w : World) (ha : SLL w A n c xss) (hm : (Lit.int .i64 m).wf = true) :
    Calls Try.prog 16 #[.int .i64 m, .slice A n c] w fun e w' => e = .returned (.int .i64 (ffE m xss)) ∧ Below w.heap.size w w' := by
  have HA := hide ha
  have HL := hide ha.len
  have hns := ha.small
  clear ha
  by_cases h1 : m < 2
  · have HE : Hid (ffE m xss = 1) := hide (by unfold ffE; rw [if_pos (by omega)])
    go_enter Try.func16, Try.ntmps16
    go_wp2_with fail
    go_ret
    exact ⟨by rw [HE.out]; rfl, Below.refl _ _⟩
  by_cases h6 : 6 < m
  · have HE : Hid (ffE m xss = 1) := hide (by unfold ffE; rw [if_pos (by omega)])
    go_enter Try.func16, Try.ntmps16
    go_wp2_with fail
    go_ret
    exact ⟨by rw [HE.out]; rfl, Below.refl _ _⟩
  by_cases h30 : 30 < n
  · have HE : Hid (ffE m xss = 2) := hide (by unfold ffE; rw [if_neg (by omega), if_pos (by rw [HL.out]; exact h30)])
    go_enter Try.func16, Try.ntmps16
    go_wp2_with fail
    go_ret
    exact ⟨by rw [HE.out]; rfl, Below.refl _ _⟩
  obtain ⟨N, rfl⟩ : ∃ N : Nat, m = (N : Int) := ⟨m.toNat, by omega⟩
  have hN2 : 2 ≤ N := by omega
  have hN6 : N ≤ 6 := by omega
  have HE0 : Hid (ffE (N : Int) xss = ffGo N (prevF xss 0) (xss.drop 0)) := hide (by
    unfold ffE
    rw [if_neg (by omega), if_neg (by rw [HL.out]; exact h30), Int.toNat_natCast, List.drop_zero]
    rfl)
  have HW0 := hide (Below.refl w.heap.size w)
  go_enter Try.func16, Try.ntmps16
  go_wp2_with fail
  go_loopw [19] (fun iv wr => ∃ k : Nat, k ≤ n ∧ iv = .int .i64 k ∧ Hid (ffE (N : Int) xss = ffGo N (prevF xss k) (xss.drop k)) ∧ Hid (0 < k → ∃ b : List Nat, isP b ∧ b.length = N ∧ xss.getD (k - 1) [] = zs b) ∧ Hid (Below w.heap.size w wr)) (fun iv _ => n - (intOf iv).toNat)
  case atStart => exact ⟨0, Nat.zero_le _, rfl, HE0, hide (fun h => absurd h (by omega)), HW0⟩
  case round =>
    clear HE0 HW0
    obtain ⟨k, hk, rfl, HE, HPV, HW⟩ := hrel
    by_cases hlt : k < n
    · have hst := ffGo_drop (N := N) (xss := xss) (k := k) (by rw [HL.out]; exact hlt)
      rw [← HE.out] at hst
      have HST := hide hst
      obtain ⟨ad, B, l, d, rfl, hcl, hr⟩ := (HA.out.below HW.out).at_ hlt
      have HP := hide hr
      have HFT := hide (fault_any B l d _ wr hr.il)
      obtain ⟨p, hp⟩ : ∃ p, xss.getD k [] = p := ⟨_, rfl⟩
      have HPK := hide hp
      rw [hp] at HST HP HFT
      clear hst hr hp HE
      go_wp2_with fail
      refine HFT.out.mono ?_
      rintro e w1 ⟨rfl, hb⟩
      replace HP := hide (HP.out.below hb)
      replace HW := hide (HW.out.trans (hb.mono HW.out.size))
      clear hb HFT hcl
      by_cases hf : pf p = 0
      case neg =>
        have HV : Hid (ffE (N : Int) xss = pf p) := hide (by rw [HST.out, if_pos hf])
        obtain ⟨f, hfe⟩ : ∃ f, pf p = f := ⟨_, rfl⟩
        rw [hfe] at HV hf ⊢
        have hne : (f != 0) = true := by simpa using hf
        clear hf hfe
        go_wp2_with fail
        go_ret
        exact ⟨by rw [HV.out]; rfl, HW.out⟩
      obtain ⟨h9, a, ha, pa⟩ := (pf_zero p).1 hf
      have HFZ := hide hf
      rw [hf]
      subst ha
      have hal := HP.out.il.len
      rw [zs_length] at hal
      have HPA := hide pa
      clear hf h9 pa
      by_cases hlN : l = N
      case neg =>
        have HV : Hid (ffE (N : Int) xss = 3) := hide (by
          rw [HST.out, if_neg (by rw [HFZ.out]; simp), if_pos]
          unfold badF
          rw [decide_eq_true (by rw [zs_length, hal]; exact hlN)]
          rfl)
        have hne : ((l : Int) != (N : Int)) = true := by simp; omega
        clear hlN
        go_wp2_with fail
        go_ret
        exact ⟨by rw [HV.out]; rfl, HW.out⟩
      subst hlN
      have HAL := hide hal
      have hne : ((l : Int) != (l : Int)) = false := by simp
      have HBAD : Hid (badF l (zs a) = (eqB (zs a) (zs (List.range l)) || eqB (zs a) (zs (Gar.fullL l)))) := hide (by
        unfold badF
        rw [decide_eq_false (by rw [zs_length, HAL.out]; simp), Bool.false_or])
      go_wp2_with fail
      refine (row_any l w1 (by omega)).mono ?_
      rintro e w2 ⟨R, rn, rc, rfl, ho, hb⟩
      replace HP := hide (HP.out.below hb)
      replace HW := hide (HW.out.trans (hb.mono HW.out.size))
      have HR := hide ho.il
      clear hb ho
      go_wp2_with fail
      refine (equal_any B R l rn d rc _ _ w2 HP.out.il HR.out).mono ?_
      rintro e w3 ⟨rfl, hb⟩
      replace HP := hide (HP.out.below hb)
      replace HW := hide (HW.out.trans (hb.mono HW.out.size))
      obtain ⟨e1, he1⟩ : ∃ e1, eqB (zs a) (zs (List.range l)) = e1 := ⟨_, rfl⟩
      rw [he1] at HBAD ⊢
      clear hb HR he1
      cases e1 with
      | true =>
        have HV : Hid (ffE (l : Int) xss = 3) := hide (by
          rw [HST.out, if_neg (by rw [HFZ.out]; simp), if_pos (by rw [HBAD.out]; rfl)])
        go_wp2_with fail
        go_ret
        exact ⟨by rw [HV.out]; rfl, HW.out⟩
      | false =>
        go_wp2_with fail
        refine (full_any l w3 (by omega) hN6).mono ?_
        rintro e w4 ⟨R2, rn2, rc2, rfl, ho, hb⟩
        replace HP := hide (HP.out.below hb)
        replace HW := hide (HW.out.trans (hb.mono HW.out.size))
        have HR := hide ho.il
        clear hb ho
        go_wp2_with fail
        refine (equal_any B R2 l rn2 d rc2 _ _ w4 HP.out.il HR.out).mono ?_
        rintro e w5 ⟨rfl, hb⟩
        replace HP := hide (HP.out.below hb)
        replace HW := hide (HW.out.trans (hb.mono HW.out.size))
        obtain ⟨e2, he2⟩ : ∃ e2, eqB (zs a) (zs (Gar.fullL l)) = e2 := ⟨_, rfl⟩
        rw [he2] at HBAD ⊢
        clear hb HR he2
        cases e2 with
        | true =>
          have HV : Hid (ffE (l : Int) xss = 3) := hide (by
            rw [HST.out, if_neg (by rw [HFZ.out]; simp), if_pos (by rw [HBAD.out]; rfl)])
          go_wp2_with fail
          go_ret
          exact ⟨by rw [HV.out]; rfl, HW.out⟩
        | false =>
          have HNX : Hid (0 < k + 1 → ∃ b : List Nat, isP b ∧ b.length = l ∧ xss.getD (k + 1 - 1) [] = zs b) := hide (fun _ => ⟨a, HPA.out, HAL.out, by rw [Nat.add_sub_cancel]; exact HPK.out⟩)
          by_cases hk0 : k = 0
          · have HV : Hid (ffE (l : Int) xss = ffGo l (prevF xss (k + 1)) (xss.drop (k + 1))) := hide (by
              rw [HST.out, if_neg (by rw [HFZ.out]; simp), if_neg (by rw [HBAD.out, hk0]; simp [prevF, looseF])])
            have hk1 : ((0 : Int) < (k : Int)) = False := by simp; omega
            clear HST HBAD
            go_wp2_with fail
            go_roundw
            case rel => exact ⟨k + 1, by omega, by go_num, HV, HNX, HW⟩
            case measure => simp [intOf]; omega
          · obtain ⟨b, pb, lb, eb⟩ := HPV.out (by omega)
            obtain ⟨q, hq⟩ : ∃ q, k - 1 = q := ⟨_, rfl⟩
            have hqk : (k : Int) - 1 = (q : Int) := by omega
            have hqn : q < n := by omega
            obtain ⟨ad', B', l', d', e1, hcl', hr'⟩ := (HA.out.below HW.out).at_ (k := q) hqn
            injection e1 with e1
            subst e1
            rw [← hq, eb] at hr'
            have hl' : l' = l := by have := hr'.il.len; rw [zs_length] at this; omega
            subst hl'
            have HLS : Hid (looseF (prevF xss k) (zs a) = !(Gar.tightB b a (inv b))) := hide (by
              unfold prevF looseF
              rw [if_neg hk0]
              show (!tightI (xss.getD (k - 1) []) (zs a)) = _
              rw [eb, tightI_zs])
            have HT := hide (tight_any B' B l' d' d b a w5 hr' HP.out pb HPA.out hN6)
            have hk1 : ((0 : Int) < (k : Int)) = True := by simp; omega
            have hw1 : IntKind.i64.wrap ((k : Int) - 1) = (q : Int) := by rw [IntKind.wrap_i64]; omega
            obtain ⟨t, ht⟩ : ∃ t, Gar.tightB b a (inv b) = t := ⟨_, rfl⟩
            rw [ht] at HLS HT
            have HQK := hide hqk
            clear ht hr' pb lb eb hq hqk
            go_wp2_with fail
            refine HT.out.mono ?_
            rintro e w6 ⟨rfl, hb⟩
            replace HW := hide (HW.out.trans (hb.mono HW.out.size))
            clear hb hcl'
            cases t with
            | true =>
              have HV : Hid (ffE (l' : Int) xss = ffGo l' (prevF xss (k + 1)) (xss.drop (k + 1))) := hide (by
                rw [HST.out, if_neg (by rw [HFZ.out]; simp), if_neg (by rw [HBAD.out, HLS.out]; simp)])
              clear HST HBAD HLS HT
              have hnt := Bool.not_true
              go_wp2_with fail
              go_roundw
              case rel => exact ⟨k + 1, by omega, by go_num, HV, HNX, HW⟩
              case measure => simp [intOf]; omega
            | false =>
              have HV : Hid (ffE (l' : Int) xss = 3) := hide (by
                rw [HST.out, if_neg (by rw [HFZ.out]; simp), if_pos (by rw [HBAD.out, HLS.out]; rfl)])
              clear HST HBAD HLS HT
              go_wp2_with fail
              go_ret
              exact ⟨by rw [HV.out]; rfl, HW.out⟩
    · have HV : Hid (ffE (N : Int) xss = 0) := hide (by
        rw [HE.out, List.drop_of_length_le (by rw [HL.out]; omega)]
        unfold ffGo
        rfl)
      clear HE HPV
      go_wp2_with fail
      go_ret
      exact ⟨by rw [HV.out]; rfl, HW.out⟩
end Go.Proofs.Ytoaiblhlpdaeoaa
/- Slices of polynomials, and slices of these (words on memory). -/
namespace Go.Proofs.Ytoaiblhlpdaeoaa
set_option linter.unusedVariables false
set_option linter.unusedSimpArgs false
open Go.RowKit

abbrev Po := Int × List Int
/-- A slice of polynomials that reads as ps. -/
structure SPo (w : World) (A : Option Addr) (n c : Nat) (ps : List Po) : Prop where
  len : ps.length = n
  small : n ≤ 17592186044416
  nil : A = none → n = 0 ∧ c = 0
  cap : n ≤ c
  mem : 0 < n → ∃ ad, A = some ad ∧ ad.block < w.heap.size ∧ ∀ j, j < n → ∃ B m d, w.cell? (ad.add (j * 2)) = some (.int .i64 (ps.getD j (0, [])).1) ∧ w.cell? ⟨(ad.add (j * 2)).block, (ad.add (j * 2)).off + 1, none⟩ = some (.slice B m d) ∧ SL w B m d (ps.getD j (0, [])).2 ∧ (Lit.int .i64 (ps.getD j (0, [])).1).wf = true
theorem SPo.below {w w' : World} {A : Option Addr} {n c : Nat} {ps : List Po} (h : SPo w A n c ps) (hb : Below w.heap.size w w') : SPo w' A n c ps :=
  ⟨h.len, h.small, h.nil, h.cap, fun hn => by
    obtain ⟨ad, e, hl, hc⟩ := h.mem hn
    refine ⟨ad, e, Nat.lt_of_lt_of_le hl hb.size, fun j hj => ?_⟩
    obtain ⟨B, m, d, h1, h2, h3, h4⟩ := hc j hj
    exact ⟨B, m, d, (hb.cell (p := ad.add (j * 2)) (by rw [block_of_add]; exact hl)).trans h1, (hb.cell (p := ⟨(ad.add (j * 2)).block, (ad.add (j * 2)).off + 1, none⟩) (by show (ad.add (j * 2)).block < _; rw [block_of_add]; exact hl)).trans h2, h3.below hb, h4⟩⟩
/-- A slice of slices of polynomials. -/
structure SPP (w : World) (A : Option Addr) (n c : Nat) (pss : List (List Po)) : Prop where
  len : pss.length = n
  small : n ≤ 17592186044416
  nil : A = none → n = 0 ∧ c = 0
  cap : n ≤ c
  mem : 0 < n → ∃ ad, A = some ad ∧ ad.block < w.heap.size ∧ ∀ j, j < n → ∃ B m d, w.cell? (ad.add j) = some (.slice B m d) ∧ SPo w B m d (pss.getD j [])
theorem SPP.below {w w' : World} {A : Option Addr} {n c : Nat} {pss : List (List Po)} (h : SPP w A n c pss) (hb : Below w.heap.size w w') : SPP w' A n c pss :=
  ⟨h.len, h.small, h.nil, h.cap, fun hn => by
    obtain ⟨ad, e, hl, hc⟩ := h.mem hn
    refine ⟨ad, e, Nat.lt_of_lt_of_le hl hb.size, fun j hj => ?_⟩
    obtain ⟨B, m, d, h1, h2⟩ := hc j hj
    exact ⟨B, m, d, (hb.cell (p := ad.add j) (by rw [block_of_add]; exact hl)).trans h1, h2.below hb⟩⟩
theorem SPP.at_ {w : World} {A : Option Addr} {n c k : Nat} {pss : List (List Po)} (h : SPP w A n c pss) (hk : k < n) : ∃ ad B m d, A = some ad ∧ w.cell? (ad.add k) = some (.slice B m d) ∧ SPo w B m d (pss.getD k []) := by
  obtain ⟨ad, e, _, hc⟩ := h.mem (by omega)
  obtain ⟨B, m, d, h1, h2⟩ := hc k hk
  exact ⟨ad, B, m, d, e, h1, h2⟩
theorem SPo.at_ {w : World} {A : Option Addr} {n c k : Nat} {ps : List Po} (h : SPo w A n c ps) (hk : k < n) : ∃ ad B m d, A = some ad ∧ w.cell? (ad.add (k * 2)) = some (.int .i64 (ps.getD k (0, [])).1) ∧ w.cell? ⟨(ad.add (k * 2)).block, (ad.add (k * 2)).off + 1, none⟩ = some (.slice B m d) ∧ SL w B m d (ps.getD k (0, [])).2 ∧ (Lit.int .i64 (ps.getD k (0, [])).1).wf = true := by
  obtain ⟨ad, e, _, hc⟩ := h.mem (by omega)
  obtain ⟨B, m, d, h1, h2, h3, h4⟩ := hc k hk
  exact ⟨ad, B, m, d, e, h1, h2, h3, h4⟩
end Go.Proofs.Ytoaiblhlpdaeoaa
/- What package braid's functions are to answer. -/
namespace Go.Proofs.Ytoaiblhlpdaeoaa
set_option linter.unusedVariables false
set_option linter.unusedSimpArgs false
open Go.RowKit

def permE (n : Int) (w : List Int) : List Int := if bfault n w = 0 then zs (endsL n.toNat w) else []
def invB (n : Int) (w : List Int) : List Int := if bfault n w = 0 then invw w else []
end Go.Proofs.Ytoaiblhlpdaeoaa
