/- timbref1.Determinant. -/
import Derived.Test.YtgjblcfcbohjdaaDoorPermRef
import Derived.Test.YtgjblcfcbohjdaaDoorParity
namespace Go.Proofs.YtgjblcfcbohjdaaDoor
set_option linter.unusedVariables false
set_option linter.unusedSimpArgs false
open Go.RowKit

/-- The entries of a matrix. -/
def matF (xss : List (List Int)) : Mtx Int := fun i j => (xss.getD i []).getD j 0
/-- The product of the first k entries. -/
def pTo (M : Mtx Int) (p : List Nat) : Nat → Int
  | 0 => 1
  | k + 1 => pTo M p k * M k (p.getD k 0)
theorem pTo_drop (M : Mtx Int) (p : List Nat) : ∀ k, k ≤ p.length → pTo M p k * prodP M k (p.drop k) = prodP M 0 p
  | 0, _ => by rw [List.drop_zero]; exact Int.one_mul _
  | k + 1, h => by
    rw [← pTo_drop M p k (by omega), List.drop_eq_getElem_cons (by omega : k < p.length)]
    show pTo M p k * M k (p.getD k 0) * _ = pTo M p k * (M k p[k] * _)
    rw [getD_eq (by omega), Int.mul_assoc]
theorem pTo_all (M : Mtx Int) (p : List Nat) : pTo M p p.length = prodP M 0 p := by
  have h := pTo_drop M p p.length (Nat.le_refl _)
  rw [List.drop_length] at h
  rw [← h]
  exact (Int.mul_one _).symm
theorem abs_mul_le {a b : Int} {x y : Nat} (ha : a.natAbs ≤ x) (hb : b.natAbs ≤ y) : (a * b).natAbs ≤ x * y := by
  rw [Int.natAbs_mul]
  exact Nat.mul_le_mul ha hb
theorem pTo_le {M : Mtx Int} {p : List Nat} {B : Nat} (h : ∀ k, k < p.length → (M k (p.getD k 0)).natAbs ≤ B) : ∀ k, k ≤ p.length → (pTo M p k).natAbs ≤ B ^ k
  | 0, _ => by simp [pTo]
  | k + 1, hk => by
    rw [Nat.pow_succ]
    exact abs_mul_le (pTo_le h k (by omega)) (h k (by omega))
theorem pow_small {B k n : Nat} (hB : B ≤ 100) (hk : k ≤ n) (hn : n ≤ 6) : B ^ k ≤ 1000000000000 := by
  calc B ^ k ≤ 100 ^ k := Nat.pow_le_pow_left hB k
    _ ≤ 100 ^ 6 := Nat.pow_le_pow_right (by omega) (by omega)
    _ = 1000000000000 := by decide
theorem wrap_wrap_add (a b : Int) : wrap64 (wrap64 a + b) = wrap64 (a + b) := by
  unfold wrap64
  omega
def termI (M : Mtx Int) (p : List Nat) : Int := sg (invL p) * prodP M 0 p
def stepI (M : Mtx Int) (s : Int) (p : List Nat) : Int := wrap64 (s + termI M p)
theorem foldl_stepI (M : Mtx Int) : ∀ (l : List (List Nat)) (s : Int), l.foldl (stepI M) (wrap64 s) = wrap64 (s + sumLR (l.map (termI M)))
  | [], s => by
    show wrap64 s = wrap64 (s + 0)
    rw [Int.add_zero]
  | p :: t, s => by
    show t.foldl (stepI M) (wrap64 (wrap64 s + termI M p)) = wrap64 (s + (termI M p + _))
    rw [wrap_wrap_add, foldl_stepI M t, Int.add_assoc]
theorem grownBy_set1 (w : World) (b i : Nat) (v : Value) : w.grownBy (w.setCell ⟨b, i, none⟩ v) (some b) :=
  ⟨rfl, rfl, rfl, by simp, fun k _ hk => Below.heap_setCell w _ v k (fun e => hk (by rw [e]))⟩
theorem natAbs_sum_le {B : Nat} {f : Nat → Int} : ∀ {n : Nat}, (∀ i, i < n → (f i).natAbs ≤ B) → (CR.sumN n f).natAbs ≤ n * B
  | 0, _ => by simp [CR.sumN_zero]
  | n + 1, h => by
    rw [CR.sumN_succ]
    have h1 := natAbs_sum_le (n := n) fun i hi => h i (by omega)
    have h2 := h n (by omega)
    have h3 := Int.natAbs_add_le (CR.sumN n f) (f n)
    rw [Nat.add_one_mul]
    exact Nat.le_trans h3 (by omega)
theorem detR_le {B : Nat} : ∀ (n : Nat) (M : Mtx Int), (∀ i, i < n → ∀ j, j < n → (M i j).natAbs ≤ B) → (detR n M).natAbs ≤ fct n * B ^ n
  | 0, M, _ => by simp [detR, fct]
  | n + 1, M, h => by
    have := natAbs_sum_le (B := B * (fct n * B ^ n)) (n := n + 1) (f := fun j => CR.sgR Int j * (M 0 j * detR n fun a b => M (a + 1) (CR.skip j b))) (fun j hj => by
      have h1 : (CR.sgR Int j).natAbs ≤ 1 := by unfold CR.sgR; split <;> decide
      have h2 := abs_mul_le (h 0 (by omega) j hj) (detR_le n (fun a b => M (a + 1) (CR.skip j b)) fun a ha b hb => h _ (by omega) _ (skip_lt hb))
      have h3 := abs_mul_le h1 h2
      rwa [Nat.one_mul] at h3)
    refine Nat.le_trans this (Nat.le_of_eq ?_)
    show _ = (n + 1) * fct n * B ^ (n + 1)
    rw [Nat.pow_succ]
    ac_rfl

/-- A square matrix that came in before w0 was as it is. -/
structure DJ (w0 : World) (g bm : Nat) (A : Option Addr) (n c : Nat) (s : Int) (w : World) : Prop where
  below : Below w0.heap.size w0 w
  sum : Blk w g 3 #[.int .i64 s]
  box : Blk w bm 22 #[.slice A n c]
  val : ∃ z, s = wrap64 z

set_option maxRecDepth 100000 in
set_option maxHeartbeats 2000000 in
theorem det_visit (w0 : World) (g bm : Nat) (A : Option Addr) (n c : Nat) (xss : List (List Int)) (hm : SLL w0 A n c xss) (hg : w0.heap.size ≤ g) (hne : bm ≠ g) (hsq : ∀ i, i < n → (xss.getD i []).length = n) (hB : ∀ i, i < n → ∀ j, j < n → ((matF xss) i j).natAbs ≤ 100) (hn : n ≤ 6) :
    Visit Tryd.prog 33 [.pointer (some ⟨bm, 0, none⟩), .pointer (some ⟨g, 0, none⟩)] g Int (DJ w0 g bm A n c) (fun p => p.Perm (List.range n)) (stepI (matF xss)) := by
  refine ⟨fun s w w' h hb => ⟨h.below.trans (hb.mono h.below.size), h.sum.below hb h.sum.lt, h.box.below hb h.box.lt, h.val⟩, fun s w h => h.sum.lt, ?_⟩
  intro p A1 n1 c1 s w hp _ hperm hJ
  have hlen := hp.il.len
  rw [zs_length] at hlen
  have hpn : p.length = n := by have := hperm.length_eq; simpa using this
  obtain rfl : n1 = n := by omega
  obtain ⟨hiP, _⟩ := isP_of_perm hperm
  have hpx : ∀ k, k < n1 → p.getD k 0 < n1 := fun k hk => by have := hiP.lt (j := k) (by omega); omega
  have HPX := hide hpx
  have HPAR := hide (parity_ok A1 n1 c1 p w hp.il (by omega))
  have HSG : Hid (parTo p n1 = sg (invL p)) := hide (by rw [← hlen]; exact par_sg p)
  have HLE : Hid (∀ k, k ≤ n1 → (pTo (matF xss) p k).natAbs ≤ 1000000000000) := hide (fun k hk => Nat.le_trans (pTo_le (B := 100) (fun k hk => hB k (by omega) _ (hpx k (by omega))) k (by omega)) (pow_small (Nat.le_refl _) hk hn))
  have HALL : Hid (pTo (matF xss) p n1 = prodP (matF xss) 0 p) := hide (by rw [← hlen]; exact pTo_all _ p)
  have HBB := hide hB
  have HM := hide hm
  have HSQ := hide hsq
  have HP := hide hp
  have HJ := hide hJ
  have HLEN := hide hlen
  have hbox := hJ.box.cell 0
  have hsum := hJ.sum.cell 0
  have hsf := hJ.sum.frozen 0
  simp at hbox hsum
  have hg' := hg
  clear hm hsq hB hp hJ hlen hpn hiP hpx hperm hsum hsf hbox
  go_enter Tryd.func33, Tryd.ntmps33
  go_wp2_with fail
  refine HPAR.out.mono ?_
  rintro e w1 ⟨rfl, hb1⟩
  rw [HSG.out]
  have HB1 := hide hb1
  clear hb1 HPAR
  go_wp2_with fail
  go_loopw [4, 11] (fun xv iv wr => ∃ k : Nat, iv = .int .i64 k ∧ k ≤ n1 ∧ xv = .int .i64 (sg (invL p) * pTo (matF xss) p k) ∧ Below w.heap.size w wr) (fun _ iv _ => n1 - (intOf iv).toNat)
  case atStart => exact ⟨0, rfl, Nat.zero_le _, by show _ = Value.int .i64 (sg (invL p) * 1); rw [Int.mul_one], HB1.out⟩
  case round =>
    clear HB1
    obtain ⟨k, rfl, hk, rfl, hb⟩ := hrel
    have hs1 : sg (invL p) = 1 ∨ sg (invL p) = -1 := by unfold sg; split <;> simp
    have HBW := hide hb
    by_cases hlt : k < n1
    · have HPW : Hid (SL wr A1 n1 c1 (zs p)) := hide (HP.out.below hb)
      have HB0 : Hid (Below w0.heap.size w0 wr) := hide (HJ.out.below.trans (hb.mono HJ.out.below.size))
      have hbx : wr.cell? ⟨bm, 0, none⟩ = some (.slice A n1 c) := by
        have h := (HJ.out.box.below hb HJ.out.box.lt).cell 0
        simpa using h
      obtain ⟨ad, B, m, d, rfl, hrow, hsl⟩ := (HM.out.below HB0.out).at_ hlt
      have hsl' := hsl.il.len
      rw [HSQ.out k hlt] at hsl'
      subst hsl'
      obtain ⟨pd, hA1, hpc⟩ := HPW.out.il.at_ hlt
      rw [zs_getD] at hpc
      have hq := HPX.out k hlt
      obtain ⟨bd, hB', hcl⟩ := hsl.il.at_ hq
      subst hA1
      subst hB'
      have hbound := HBB.out k hlt _ hq
      have hple := HLE.out k hk
      have hple2 := HLE.out (k + 1) (by omega)
      have HST : Hid (pTo (matF xss) p (k + 1) = pTo (matF xss) p k * (xss.getD k []).getD (p.getD k 0) 0) := rfl
      have hst2 : pTo (matF xss) p (k + 1) = pTo (matF xss) p k * (xss.getD k []).getD (p.getD k 0) 0 := rfl
      rw [hst2] at hple2
      unfold matF at hbound
      clear hst2 hb HPW hsl
      generalize p.getD k 0 = q at *
      generalize (xss.getD k []).getD q 0 = y at *
      generalize pTo (matF xss) p k = t at *
      obtain ⟨z, hz⟩ : ∃ z, z = sg (invL p) * t := ⟨_, rfl⟩
      have hzy : sg (invL p) * (t * y) = z * y := by rw [hz, Int.mul_assoc]
      have hzb : (z * y).natAbs ≤ 1000000000000 := by
        rw [← hzy]
        have := abs_mul_le (show (sg (invL p)).natAbs ≤ 1 by rcases hs1 with h | h <;> rw [h] <;> decide) hple2
        rwa [Nat.one_mul] at this
      have hwy : IntKind.i64.wrap (z * y) = z * y := by
        rw [IntKind.wrap_i64]
        omega
      rw [← hz]
      have HZ := hide hzy
      clear hs1 hz hzy hbound hple hple2 hzb
      go_wp2_with fail
      go_roundw
      case rel => exact ⟨k + 1, by go_num, by omega, by rw [HST.out, HZ.out], HBW.out⟩
      case measure => simp [intOf]; omega
    · have hkn : k = n1 := by omega
      have HT : Hid (sg (invL p) * pTo (matF xss) p k = termI (matF xss) p) := hide (by rw [hkn, HALL.out]; rfl)
      rw [HT.out]
      have hsum : wr.cell? ⟨g, 0, none⟩ = some (.int .i64 s) := by
        have h := (HJ.out.sum.below hb HJ.out.sum.lt).cell 0
        simpa using h
      have hsf := (HJ.out.sum.below hb HJ.out.sum.lt).frozen 0
      have hN : DJ w0 g bm A n1 c (stepI (matF xss) s p) (wr.setCell ⟨g, 0, none⟩ (.int .i64 (stepI (matF xss) s p))) := by
        refine ⟨(HJ.out.below.trans (hb.mono HJ.out.below.size)).setCell hg' _, ?_, (HJ.out.box.below hb HJ.out.box.lt).far hne _, ⟨s + termI (matF xss) p, rfl⟩⟩
        have h := (HJ.out.sum.below hb HJ.out.sum.lt).set_ 0 (.int .i64 (stepI (matF xss) s p))
        simpa using h
      have hG : w.grownBy (wr.setCell ⟨g, 0, none⟩ (.int .i64 (stepI (matF xss) s p))) (some g) := (grownBy_of_below hb (some g)).trans (grownBy_set1 wr g 0 _)
      have HN := hide hN
      have HGG := hide hG
      have HS : Hid (stepI (matF xss) s p = wrap64 (s + termI (matF xss) p)) := rfl
      rw [HS.out] at HN HGG
      clear hN hG hb hs1 HT
      generalize termI (matF xss) p = t at *
      go_wp2_with fail
      go_returns
      exact ⟨rfl, by rw [HS.out]; exact HN.out, HGG.out⟩
end Go.Proofs.YtgjblcfcbohjdaaDoor
