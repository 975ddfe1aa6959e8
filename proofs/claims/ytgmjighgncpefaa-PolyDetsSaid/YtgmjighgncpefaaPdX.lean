/- timbref1.PolyDet. -/
import Derived.Test.YtgmjighgncpefaaTv
import Derived.Test.YtgmjighgncpefaaVisit2
import Derived.Test.YtgmjighgncpefaaParity
import Derived.Test.YtgmjighgncpefaaDetRef
namespace Go.Proofs.Ytgmjighgncpefaa
set_option linter.unusedVariables false
set_option linter.unusedSimpArgs false
open Go.RowKit

def mtx (xss : List (List LP)) : Mtx LP := fun i j => (xss.getD i []).getD j 0
def pToP (M : Mtx LP) (p : List Nat) : Nat → LP
  | 0 => 1
  | k + 1 => pToP M p k * M k (p.getD k 0)
theorem pToP_drop (M : Mtx LP) (p : List Nat) : ∀ k, k ≤ p.length → pToP M p k * prodP M k (p.drop k) = prodP M 0 p
  | 0, _ => by rw [List.drop_zero]; exact CR.one_mul _
  | k + 1, h => by
    rw [← pToP_drop M p k (by omega), List.drop_eq_getElem_cons (by omega : k < p.length)]
    show pToP M p k * M k (p.getD k 0) * _ = pToP M p k * (M k p[k] * _)
    rw [getD_eq (by omega), CR.mul_assoc]
theorem pToP_all (M : Mtx LP) (p : List Nat) : pToP M p p.length = prodP M 0 p := by
  have h := pToP_drop M p p.length (Nat.le_refl _)
  rw [List.drop_length] at h
  rw [← h]
  exact (CR.mul_one _).symm
def termP (M : Mtx LP) (p : List Nat) : LP := CR.sgR LP (invL p) * prodP M 0 p
def stepP (M : Mtx LP) (s : LP × Nat) (p : List Nat) : LP × Nat := (s.1 + termP M p, s.2 + 1)
theorem foldl_stepP (M : Mtx LP) : ∀ (l : List (List Nat)) (s : LP × Nat), l.foldl (stepP M) s = (s.1 + sumLR (l.map (termP M)), s.2 + l.length)
  | [], s => by
    show s = (s.1 + 0, s.2 + 0)
    rw [CR.add_zero, Nat.add_zero]
  | p :: t, s => by
    show t.foldl (stepP M) (s.1 + termP M p, s.2 + 1) = (s.1 + (termP M p + _), s.2 + (t.length + 1))
    rw [foldl_stepP M t, CR.add_assoc, Nat.add_assoc, Nat.add_comm 1]
theorem sgR_term (k : Nat) : LP.term 0 (sg k) = CR.sgR LP k := by
  unfold sg CR.sgR
  split
  · rfl
  · refine LP.ext fun j => ?_
    rw [LP.co_neg, LP.co_one, LP.co_term]
    split <;> rfl
/-- The entries are small. -/
structure SmP (n : Nat) (M : Mtx LP) : Prop where
  n1 : ∀ i, i < n → ∀ j, j < n → LP.N1 (M i j) 40 20000
  cb : ∀ i, i < n → ∀ j, j < n → CB (M i j) 1000
theorem pow_le4 {k : Nat} (h : k ≤ 4) : 20000 ^ k ≤ 160000000000000000 := by
  calc 20000 ^ k ≤ 20000 ^ 4 := Nat.pow_le_pow_right (by omega) h
    _ = 160000000000000000 := by decide
theorem pow_le3 {k : Nat} (h : k ≤ 3) : 20000 ^ k ≤ 8000000000000 := by
  calc 20000 ^ k ≤ 20000 ^ 3 := Nat.pow_le_pow_right (by omega) h
    _ = 8000000000000 := by decide
theorem pToP_n1 {n : Nat} {M : Mtx LP} (h : SmP n M) {p : List Nat} (hp : ∀ k, k < n → p.getD k 0 < n) : ∀ k, k ≤ n → LP.N1 (pToP M p k) (40 * k) (20000 ^ k)
  | 0, _ => LP.N1.one
  | k + 1, hk => by
    have h1 := (pToP_n1 h hp k (by omega)).mul (h.n1 k (by omega) _ (hp k (by omega)))
    exact h1.mono (by omega) (by rw [Nat.pow_succ]; exact Nat.le_refl _)
theorem ePdX : ∀ args w, (callFunc 27 args).run Try.prog w = .ok (.enter 27 args) w := enters (fn := Try.f27) (by kernel_rfl) (by kernel_rfl) (by kernel_rfl)

/-- The matrix as it came in, and the sum of the terms so far. -/
structure PJ (w0 : World) (g bm : Nat) (A : Option Addr) (n c : Nat) (s : LP × Nat) (w : World) : Prop where
  below : Below w0.heap.size w0 w
  sum : ∃ b, Blk w g 35 #[.map (some b)] ∧ TV w b s.1 160 ∧ w0.heap.size ≤ b
  box : Blk w bm 32 #[.slice A n c]
  cb : CB s.1 (s.2 * 160000000000000000)

set_option maxRecDepth 100000 in
set_option maxHeartbeats 8000000 in
theorem pdet_visit (w0 : World) (g bm : Nat) (A : Option Addr) (n c : Nat) (xss : List (List LP)) (hm : Rd (QS (QT 40) 1) 1 w0 A n c xss) (hg : w0.heap.size ≤ g) (hne : bm ≠ g) (hsq : ∀ i, i < n → (xss.getD i []).length = n) (hS : SmP n (mtx xss)) (hn : n ≤ 4) :
    VisitL Try.prog 27 [.pointer (some ⟨bm, 0, none⟩), .pointer (some ⟨g, 0, none⟩)] g (LP × Nat) (PJ w0 g bm A n c) (fun p => p.Perm (List.range n)) (fun s => s.2 ≤ 24) (stepP (mtx xss)) := by
  refine ⟨fun s w w' h hb => ?_, fun s w h => ?_, fun s p h => Nat.le_of_succ_le h, ?_⟩
  · obtain ⟨b, h1, h2, h3⟩ := h.sum
    exact ⟨h.below.trans (hb.mono h.below.size), ⟨b, h1.below hb h1.lt, h2.below hb, h3⟩, h.box.below hb h.box.lt, h.cb⟩
  · obtain ⟨b, h1, h2, h3⟩ := h.sum
    exact h1.lt
  intro p A1 n1 c1 s w hp _ hperm hJ hlim
  have hlen := hp.il.len
  rw [zs_length] at hlen
  have hpn : p.length = n := by have := hperm.length_eq; simpa using this
  obtain rfl : n1 = n := by omega
  obtain ⟨hiP, _⟩ := isP_of_perm hperm
  have hpx : ∀ k, k < n1 → p.getD k 0 < n1 := fun k hk => by have := hiP.lt (j := k) (by omega); omega
  have HPX := hide hpx
  have HPAR := hide (parity_ok A1 n1 c1 p _ (hp.il.below ((Below.refl w.heap.size w).alloc (Nat.le_refl _) (.map #[] 0))) (by omega))
  have HSG : Hid (parTo p n1 = sg (invL p)) := hide (by rw [← hlen]; exact par_sg p)
  have HN1 := hide (fun k hk => pToP_n1 hS hpx k hk)
  have HALL : Hid (pToP (mtx xss) p n1 = prodP (mtx xss) 0 p) := hide (by rw [← hlen]; exact pToP_all _ p)
  have HSM := hide hS
  have HM := hide hm
  have HSQ := hide hsq
  have HP := hide hp
  have HJ := hide hJ
  have HLIM : Hid (s.2 + 1 ≤ 24) := hide hlim
  have hg' := hg
  have hmm := @run_makeMap Try.prog
  have HB0 := hide ((Below.refl w.heap.size w).alloc (Nat.le_refl _) (.map #[] 0))
  have HM0 := hide (MapI.made w)
  clear hm hsq hS hp hJ hlen hpn hiP hpx hperm hlim
  go_enter Try.func27, Try.ntmps27
  go_wp2_with fail
  refine HPAR.out.mono ?_
  rintro e w1 ⟨rfl, hb1⟩
  rw [HSG.out]
  have HB1 := hide (HB0.out.trans (hb1.mono HB0.out.size))
  have HM1 := hide (HM0.out.below hb1)
  clear hb1 HPAR HM0 HB0
  have hs1 : (Lit.int .i64 (sg (invL p))).wf = true := by unfold sg; split <;> decide
  go_wp2_with ((with_reducible show wpList _ _ _ (Oper.mk _ (.insert _ _ _ _) _ _ _ _ :: _) _ _); refine wpList_insI _ rfl _ _ _ _ rfl ut w.heap.size [] 0 (sg (invL p)) rfl HM1.out (by simp) rfl rfl (by decide) ?_; intro w2 hm2 hg2 hs2)
  have HT2 : Hid (TV w2 w.heap.size (LP.term 0 (sg (invL p)) * pToP (mtx xss) p 0) (40 * 0)) := hide ⟨_, hm2, by
    show LP.mk [(0, sg (invL p))] = LP.term 0 (sg (invL p)) * 1
    rw [CR.mul_one]; rfl, by simp [putT]⟩
  have HB2 := hide (HB1.out.grown hg2 HB1.out.size (fun j hj => by injection hj with hj; omega))
  clear hm2 hg2 hs2 HM1 HB1
  go_loopw [4, 13] (fun xv iv wr => ∃ (k b : Nat), iv = .int .i64 k ∧ k ≤ n1 ∧ xv = .map (some b) ∧ Hid (TV wr b (LP.term 0 (sg (invL p)) * pToP (mtx xss) p k) (40 * k)) ∧ Hid (Below w.heap.size w wr)) (fun _ iv _ => n1 - (intOf iv).toNat)
  case atStart => exact ⟨0, w.heap.size, rfl, Nat.zero_le _, rfl, HT2, HB2⟩
  case round =>
    clear HB2 HT2
    obtain ⟨k, b, rfl, hk, rfl, HT, HB⟩ := hrel
    have HN := hide (HN1.out k hk)
    have HNX : Hid (LP.N1 (LP.term 0 (sg (invL p)) * pToP (mtx xss) p k) (40 * k) (20000 ^ k)) := hide (by
      have h1 : (sg (invL p)).natAbs ≤ 1 := by unfold sg; split <;> decide
      exact (((LP.N1.term 0 (sg (invL p))).mono (Nat.le_refl _) h1).mul HN.out).mono (by simp) (by omega))
    by_cases hlt : k < n1
    · have HB0 := hide (HJ.out.below.trans (HB.out.mono HJ.out.below.size))
      have hbx : wr.cell? ⟨bm, 0, none⟩ = some (.slice A n1 c) := by
        have h := (HJ.out.box.below HB.out HJ.out.box.lt).cell 0
        simpa using h
      obtain ⟨ad, v, rfl, hrow, B, m, d, e2, hsl⟩ := (HM.out.below (QS_ok (QT_ok 40) 1) HB0.out).at1 hlt
      injection e2 with e2
      subst e2
      have hkl : k < xss.length := by rw [HM.out.len]; exact hlt
      have hrl : xss[k].length = n1 := by
        have h := HSQ.out k hlt
        rw [show xss.getD k [] = xss[k] by simp [List.getD, List.getElem?_eq_getElem hkl]] at h
        exact h
      have hmn : m = n1 := by rw [← hsl.len]; exact hrl
      subst hmn
      have hq := HPX.out k hlt
      obtain ⟨pd, hA1, hpc⟩ := (HP.out.below HB.out).il.at_ hlt
      rw [zs_getD] at hpc
      obtain ⟨bd, v, hB', hcl, b2, e2, _, htv⟩ := hsl.at1 hq
      injection e2 with e2
      subst e2
      subst hA1
      subst hB'
      have HY : Hid (TV wr b2 (mtx xss k (p.getD k 0)) 40) := hide (by
        have e : mtx xss k (p.getD k 0) = xss[k][p.getD k 0]'(by rw [hrl]; exact hq) := by
          unfold mtx
          simp [List.getD, List.getElem?_eq_getElem hkl, List.getElem?_eq_getElem (show (p[k]?.getD 0) < xss[k].length from by rw [hrl]; exact hq)]
        rw [e]; exact htv)
      have HST : Hid (pToP (mtx xss) p (k + 1) = pToP (mtx xss) p k * mtx xss k (p.getD k 0)) := rfl
      have HCB := hide (HSM.out.cb k hlt _ hq)
      clear htv hsl hrl hkl
      generalize p.getD k 0 = q at *
      have hk3 : k ≤ 3 := by omega
      have hpw := pow_le3 hk3
      have hV : (2 * (40 * k) + 1) * (20000 ^ k * 1000) ≤ 4000000000000000000 := by
        have h1 : (2 * (40 * k) + 1) * (20000 ^ k * 1000) ≤ 241 * (8000000000000 * 1000) := Nat.mul_le_mul (by omega) (Nat.mul_le_mul hpw (Nat.le_refl _))
        omega
      have HC := hide (tv_mul HT.out HY.out (fun j => HNX.out.co j) HCB.out (by omega) hV)
      clear hV hpw
      go_wp2_with fail
      refine HC.out.mono ?_
      rintro e w3 ⟨b3, rfl, hb3, ht3, hbl⟩
      have HT3 := hide ht3
      have HB3 := hide (HB.out.trans (hbl.mono HB.out.size))
      clear hb3 ht3 hbl hrow hcl hpc hbx HC
      go_wp2_with fail
      go_roundw
      case rel => exact ⟨k + 1, b3, by go_num, by omega, rfl, by rw [HST.out, ← CR.mul_assoc]; exact hide (HT3.out.mono (by omega)), HB3⟩
      case measure => simp [intOf]; omega
    · have hkn : k = n1 := by omega
      have HTP : Hid (LP.term 0 (sg (invL p)) * pToP (mtx xss) p k = termP (mtx xss) p) := hide (by rw [hkn, HALL.out, sgR_term]; rfl)
      rw [HTP.out] at HT HNX
      obtain ⟨bs, hs1, hs2, _⟩ := HJ.out.sum
      have HBS := hide (hs1.below HB.out hs1.lt)
      have HTS := hide (hs2.below HB.out)
      have hpw := pow_le4 (show k ≤ 4 by omega)
      have HCB := hide HJ.out.cb
      have HC := hide (tv_plus HTS.out (HT.out.mono (show 40 * k ≤ 160 by omega)) (fun j => by have := HCB.out j; have := HLIM.out; omega) (fun j => by have := HNX.out.co j; omega) (by omega))
      have HCB2 : Hid (CB (s.1 + termP (mtx xss) p) ((s.2 + 1) * 160000000000000000)) := hide (fun j => by
        have h1 := HCB.out j
        have h2 := HNX.out.co j
        rw [LP.co_add]
        omega)
      have hsum := HBS.out.cell 0
      have hsf := HBS.out.frozen 0
      simp at hsum
      clear hs1 hs2 hpw hkn
      go_wp2_with fail
      refine HC.out.mono ?_
      rintro e w3 ⟨b3, rfl, hb3, ht3, hbl⟩
      have HBG := hide (HBS.out.below hbl HBS.out.lt)
      have HB3 := hide (HB.out.trans (hbl.mono HB.out.size))
      have HT3 := hide ht3
      have hsum := HBG.out.cell 0
      have hsf := HBG.out.frozen 0
      simp at hsum
      have hlt3 := HBG.out.lt
      have hne3 : b3 ≠ g := by have := HBS.out.lt; omega
      have HF3 : Hid (w0.heap.size ≤ b3) := hide (by have := HJ.out.below.size; have := HB.out.size; omega)
      clear hb3 ht3 hbl
      go_wp2_with fail
      go_returns
      refine ⟨rfl, ⟨?_, ⟨b3, ?_, ?_, HF3.out⟩, ?_, HCB2.out⟩, (grownBy_of_below HB3.out (some g)).trans (grownBy_set1 w3 g 0 _)⟩
      · exact (HJ.out.below.trans (HB3.out.mono HJ.out.below.size)).setCell hg' _
      · have h := HBG.out.set_ 0 (.map (some b3))
        simpa using h
      · exact HT3.out.same (Below.heap_setCell w3 ⟨g, 0, none⟩ (.map (some b3)) b3 hne3)
      · exact (HJ.out.box.below HB3.out HJ.out.box.lt).far hne _

theorem CB.zero : CB 0 0 := fun k => by rw [LP.co_zero]; exact Nat.le_refl _
theorem permsN_len : ∀ n, n ≤ 4 → (permsN n).length ≤ 24 := by
  intro n hn
  have : n = 0 ∨ n = 1 ∨ n = 2 ∨ n = 3 ∨ n = 4 := by omega
  rcases this with h | h | h | h | h <;> subst h <;> decide
set_option maxRecDepth 100000 in
set_option maxHeartbeats 4000000 in
theorem polyDet_any (A : Option Addr) (n c : Nat) (xss : List (List LP)) (w : World) (hm : Rd (QS (QT 40) 1) 1 w A n c xss) (hsq : ∀ i, i < n → (xss.getD i []).length = n) (hS : SmP n (mtx xss)) (hn : n ≤ 4) :
    Calls Try.prog 11 #[.slice A n c] w (GivesV w (detR n (mtx xss)) 160) := by
  have hmm := @run_makeMap Try.prog
  have hmf : ∀ (fn : Fn) (first cap : Array Value) (w : World), (Instr.makeFunc fn first cap).run Try.prog w = .ok (.func fn first cap) w := fun _ _ _ _ => rfl
  have hb3 : Below w.heap.size w (((w.alloc (.cells #[.slice A n c] 32)).alloc (.map #[] 0)).alloc (.cells #[.map (some (w.heap.size + 1))] 35)) := (((Below.refl _ _).alloc (Nat.le_refl _) _).alloc (by simp) _).alloc (by simp; omega) _
  have V := pdet_visit w (w.heap.size + 1 + 1) w.heap.size A n c xss hm (by omega) (by omega) hsq hS hn
  have hJ : PJ w (w.heap.size + 1 + 1) w.heap.size A n c (0, 0) (((w.alloc (.cells #[.slice A n c] 32)).alloc (.map #[] 0)).alloc (.cells #[.map (some (w.heap.size + 1))] 35)) := by
    refine ⟨hb3, ⟨w.heap.size + 1, ?_, ?_, by omega⟩, ((Blk.new w 32 #[.slice A n c]).alloc _).alloc _, CB.zero⟩
    · have := Blk.new ((w.alloc (.cells #[.slice A n c] 32)).alloc (.map #[] 0)) 35 #[.map (some (w.heap.size + 1))]
      simpa using this
    · have h := (MapI.made (w.alloc (.cells #[.slice A n c] 32)))
      simp only [World.size_alloc] at h
      have h2 := h.below ((Below.refl _ _).alloc (Nat.le_refl _) (.cells #[.map (some (w.heap.size + 1))] 35))
      exact ⟨[], h2, rfl, by simp⟩
  have hfold := foldl_stepP (mtx xss) (permsN n) (0, 0)
  rw [show (0, 0).1 + sumLR ((permsN n).map (termP (mtx xss))) = detR n (mtx xss) from (CR.zero_add _).trans (leib_eq n (mtx xss))] at hfold
  have HP := hide (permutationsL_any V ePdX (by omega) (0, 0) _ hJ (by rw [hfold]; show 0 + _ ≤ 24; have := permsN_len n hn; omega))
  rw [hfold] at HP
  have HB3 := hide hb3
  clear V hJ hm hb3 hfold hsq hS
  generalize detR n (mtx xss) = D at *
  go_enter Try.func11, Try.ntmps11
  go_wp2_with fail
  refine HP.out.mono ?_
  rintro e w3 ⟨rfl, hJ3, hg3⟩
  obtain ⟨b, hs1, hs2, hs3⟩ := hJ3.sum
  have hsum := hs1.cell 0
  simp at hsum
  have HS := hide hs2
  have HB := hide hJ3.below
  have HFAR := hide hs3
  clear hJ3 hg3 HP HB3 hs1 hs2 hs3
  go_wp2_with fail
  go_ret
  exact ⟨b, rfl, HFAR.out, HS.out, HB.out⟩
end Go.Proofs.Ytgmjighgncpefaa
