/- Several texts in one. -/
import Derived.Test.YtndgffiihbdppaaDoorPart7
import Derived.Test.YtndgffiihbdppaaDoorBase1
import Derived.BigRegion
import Derived.Test.YtndgffiihbdppaaDoorPart4
import Derived.Test.YtndgffiihbdppaaDoorPart3
import Derived.Test.YtndgffiihbdppaaDoorPart1
/- Package coloring: propagate. (Made out of XColR by a program.) -/
namespace Go.Proofs.YtndgffiihbdppaaDoor
set_option linter.unusedVariables false
set_option linter.unusedSimpArgs false
open Go.RowKit

set_option maxRecDepth 100000 in
set_option maxHeartbeats 4000000 in
theorem clprop_any (A : Option Addr) (n c : Nat) (xs : List Int) (B : Option Addr) (m d : Nat) (ys : List Int) (k N : Nat) (w : World) (ha : SL w A n c xs) (hb : SL w B m d ys) (hc : IsC (k : Int) N ys) (hx : ∀ x ∈ xs, x ≠ 0 ∧ x.natAbs < N) (hk : k ≤ 13) (hN1 : 1 ≤ N) (hN : N ≤ 6) :
    Calls Tryd.prog 23 #[.slice A n c, .slice B m d, .int .i64 (k : Int)] w (GivesOwn w (cCol k xs ys)) := by
  have hk1 : 1 ≤ k := by have := hc.col 0 (by omega); omega
  have HC := hide hc
  have HA := hide ha
  have HX := hide hx
  have hmN : m = N := by have := hb.il.len; have := hc.len; omega
  subst hmN
  have HCL := hide (clone_any B m d ys w hb.il hb.nil)
  have hsm := ha.il.small
  clear hc ha hx hb
  go_enter Tryd.func23, Tryd.ntmps23
  go_wp2_with fail
  refine HCL.out.mono ?_
  rintro e w1 ⟨D, dn, dc, rfl, ho, hb1⟩
  have hdn : dn = m := by have := ho.len; have := HC.out.len; omega
  subst hdn
  obtain ⟨g, rfl, hg1, hg2⟩ := ho.form (by omega)
  have HO1 : Hid (OwnI w1 w.heap.size (some ⟨g, 0, none⟩) dn dc (cCol k (xs.take 0) ys)) := hide (by rw [List.take_zero]; exact ho)
  have HB1 := hide hb1
  clear ho hb1 hg2 HCL
  go_wp2_with fail
  go_loopw [17] (fun iv wr => ∃ j : Nat, j ≤ n ∧ iv = .int .i64 j ∧ Hid (OwnI wr w.heap.size (some ⟨g, 0, none⟩) dn dc (cCol k (xs.take j) ys)) ∧ Hid (Below w.heap.size w wr)) (fun iv _ => n - (intOf iv).toNat)
  case atStart => exact ⟨0, Nat.zero_le _, rfl, HO1, HB1⟩
  case round =>
    clear HO1 HB1
    obtain ⟨j, hj, rfl, HO, HB⟩ := hrel
    by_cases hlt : j < n
    · obtain ⟨ad, rfl, hcl⟩ := (HA.out.below HB.out).il.at_ hlt
      have hjl : j < xs.length := by rw [HA.out.il.len]; exact hlt
      have hmem := HX.out (xs.getD j 0) (by rw [show xs.getD j 0 = xs[j] by simp [List.getD, List.getElem?_eq_getElem hjl]]; exact List.getElem_mem _)
      have HTK : Hid (cCol k (xs.take (j + 1)) ys = cSt k (xs.getD j 0) (cCol k (xs.take j) ys)) := hide (by
        rw [List.take_succ_eq_append_getElem hjl, cCol_snoc]; simp [List.getD, List.getElem?_eq_getElem hjl])
      have HCC : Hid (IsC (k : Int) dn (cCol k (xs.take j) ys)) := hide (HC.out.word fun y hy => HX.out y (List.mem_of_mem_take hy))
      obtain ⟨hx0, hx1⟩ := hmem
      clear hjl
      generalize xs.getD j 0 = x at *
      generalize cCol k (xs.take j) ys = cur at *
      obtain ⟨i, hi⟩ : ∃ i, x.natAbs = i + 1 := ⟨x.natAbs - 1, by omega⟩
      have hi1 : i + 1 < dn := by omega
      have hca := HCC.out.col i (by omega)
      have hcb := HCC.out.col (i + 1) hi1
      have hc0 := HO.out.cell (j := i) (by omega)
      have hc1 := HO.out.cell (j := i + 1) (by omega)
      have hf0 := HO.out.frozen i
      have hf1 := HO.out.frozen (i + 1)
      have hS : cSt (k : Int) x cur = if 0 < x then (cur.set i ((2 * cur.getD i 0 - cur.getD (i + 1) 0) % k)).set (i + 1) (cur.getD i 0) else (cur.set i (cur.getD (i + 1) 0)).set (i + 1) ((2 * cur.getD (i + 1) 0 - cur.getD i 0) % k) := by
        unfold cSt
        rw [hi, Nat.add_sub_cancel]
      obtain ⟨a, hae⟩ : ∃ a, cur.getD i 0 = a := ⟨_, rfl⟩
      obtain ⟨b, hbe⟩ : ∃ b, cur.getD (i + 1) 0 = b := ⟨_, rfl⟩
      rw [hae] at hca hc0 hS
      rw [hbe] at hcb hc1 hS
      clear hae hbe
      have hBB := HB.out
      have HM : Hid (max x (-x) = (i : Int) + 1) := hide (by omega)
      have hwx : IntKind.i64.wrap (-x) = -x := by rw [IntKind.wrap_i64]; omega
      have hwi : IntKind.i64.wrap ((i : Int) + 1 - 1) = (i : Int) := by rw [IntKind.wrap_i64]; omega
      have hwi2 : (i : Int) + 1 - 1 = (i : Int) := by omega
      have hwi0 : IntKind.i64.wrap (i : Int) = (i : Int) := by rw [IntKind.wrap_i64]; omega
      by_cases hxp : 0 < x
      · rw [if_pos hxp] at hS
        have HN := hide ((HO.out.set_ i ((2 * a - b) % (k : Int))).set_ (i + 1) (a))
        rw [← hS, ← HTK.out] at HN
        have HBN := hide ((hBB.setCell (p := ⟨g, i, none⟩) hg1 (.int .i64 ((2 * a - b) % (k : Int)))).setCell (p := ⟨g, i + 1, none⟩) hg1 (.int .i64 (a)))
        have HMI := hide (fun w => clmirror_any (b) (a) k w (by omega) (by omega) (by omega) (by omega) hk)
        obtain ⟨r, hr⟩ : ∃ r, (2 * a - b) % (k : Int) = r := ⟨_, rfl⟩
        rw [hr] at HN HBN
        simp only [hr] at HMI
        have hxd : decide (0 < x) = true := decide_eq_true hxp
        clear hS hBB HO HB hr hi hca hcb hxp hx0 hx1
        go_upto_region 6 with ((with_reducible show wpList _ _ _ (Oper.mk _ (.call { callee := .builtin .max, args := _, argTypes := _ }) _ _ _ _ :: _) _ _); refine wpList_gives rfl (gives_maxI rfl rfl rfl HM.out) ?_)
        go_region
        have ed0 : wr.drew.cell? ⟨g, i, none⟩ = some (.int .i64 a) := hc0
        have ed1 : wr.drew.cell? ⟨g, i + 1, none⟩ = some (.int .i64 b) := hc1
        have ef0 : wr.drew.frozen? ⟨g, i, none⟩ = false := hf0
        have ef1 : wr.drew.frozen? ⟨g, i + 1, none⟩ = false := hf1
        go_wp2_with fail
        refine (HMI.out _).mono ?_
        rintro e w3 ⟨rfl, hww⟩
        subst hww
        go_wp2_with fail
        go_roundw
        case rel => exact ⟨j + 1, by omega, by go_num, hide HN.out.drew, hide HBN.out.drew⟩
        case measure => simp [intOf]; omega
      · rw [if_neg hxp] at hS
        have HN := hide ((HO.out.set_ i (b)).set_ (i + 1) ((2 * b - a) % (k : Int)))
        rw [← hS, ← HTK.out] at HN
        have HBN := hide ((hBB.setCell (p := ⟨g, i, none⟩) hg1 (.int .i64 (b))).setCell (p := ⟨g, i + 1, none⟩) hg1 (.int .i64 ((2 * b - a) % (k : Int))))
        have HMI := hide (fun w => clmirror_any (a) (b) k w (by omega) (by omega) (by omega) (by omega) hk)
        obtain ⟨r, hr⟩ : ∃ r, (2 * b - a) % (k : Int) = r := ⟨_, rfl⟩
        rw [hr] at HN HBN
        simp only [hr] at HMI
        have hxd : decide (0 < x) = false := decide_eq_false hxp
        clear hS hBB HO HB hr hi hca hcb hxp hx0 hx1
        go_upto_region 6 with ((with_reducible show wpList _ _ _ (Oper.mk _ (.call { callee := .builtin .max, args := _, argTypes := _ }) _ _ _ _ :: _) _ _); refine wpList_gives rfl (gives_maxI rfl rfl rfl HM.out) ?_)
        go_region
        have ed0 : wr.drew.cell? ⟨g, i, none⟩ = some (.int .i64 a) := hc0
        have ed1 : wr.drew.cell? ⟨g, i + 1, none⟩ = some (.int .i64 b) := hc1
        have ef0 : wr.drew.frozen? ⟨g, i, none⟩ = false := hf0
        have ef1 : wr.drew.frozen? ⟨g, i + 1, none⟩ = false := hf1
        go_wp2_with fail
        refine (HMI.out _).mono ?_
        rintro e w3 ⟨rfl, hww⟩
        subst hww
        go_wp2_with fail
        go_roundw
        case rel => exact ⟨j + 1, by omega, by go_num, hide HN.out.drew, hide HBN.out.drew⟩
        case measure => simp [intOf]; omega
    · have hjn : j = n := by omega
      subst hjn
      rw [List.take_of_length_le (by rw [HA.out.il.len]; exact Nat.le_refl _)] at HO
      clear hlt hj
      go_wp2_with fail
      go_ret
      exact ⟨_, _, _, rfl, HO.out, HB.out⟩
end Go.Proofs.YtndgffiihbdppaaDoor
/- The matrix of the differences that package coloring builds has the solutions that the colorings are. -/
namespace Go.Proofs.YtndgffiihbdppaaDoor
set_option linter.unusedVariables false
set_option linter.unusedSimpArgs false
open CR

/-- The list with the color 1 at one position. -/
def uCol (m : Int) (n t : Nat) : List Int := (List.replicate n 0).set t (1 % m)
theorem uCol_length (m : Int) (n t : Nat) : (uCol m n t).length = n := by simp [uCol]
theorem uCol_getD {m : Int} {n t j : Nat} (hj : j < n) : (uCol m n t).getD j 0 = if j = t then 1 % m else 0 := by
  unfold uCol
  simp only [List.getD, List.getElem?_set, List.length_replicate]
  by_cases e : t = j
  · subst e; simp [hj]
  · rw [if_neg e, if_neg (fun h => e h.symm)]
    simp [hj]
theorem uCol_isC {m : Int} {n t : Nat} (hm : 1 ≤ m) : IsC m n (uCol m n t) := by
  refine ⟨uCol_length _ _ _, fun j hj => ?_⟩
  rw [uCol_getD hj]
  split
  · exact ⟨Int.emod_nonneg _ (by omega), Int.emod_lt_of_pos _ (by omega)⟩
  · omega
/-- One element of the matrix. -/
def dEl (m : Int) (n : Nat) (w : List Int) (i t : Nat) : Int := (cCol m w (uCol m n t)).getD i 0 - (uCol m n t).getD i 0
/-- The matrix of the differences. -/
def dMx (m : Int) (n : Nat) (w : List Int) : List (List Int) := (List.range n).map fun i => (List.range n).map fun t => dEl m n w i t
theorem dMx_length (m : Int) (n : Nat) (w : List Int) : (dMx m n w).length = n := by simp [dMx]
theorem dMx_row {m : Int} {n i : Nat} (w : List Int) (h : i < n) : (dMx m n w).getD i [] = (List.range n).map fun t => dEl m n w i t := by simp [dMx, List.getD, h]
theorem dEl_cong {m : Int} {n : Nat} {w : List Int} (hw : ∀ x ∈ w, x ≠ 0 ∧ x.natAbs < n) {i t : Nat} (hi : i < n) (ht : t < n) : m ∣ dEl m n w i t - (kM n w i t - oneM i t) := by
  have h1 := cCol_lin (m := m) hw (uCol_length m n t) i hi
  have e : (sumN n fun k => kM n w i k * (uCol m n t).getD k 0) = kM n w i t * (1 % m) := by
    rw [sumN_single (k := t) ht (fun j hj h2 => by rw [uCol_getD hj, if_neg h2]; exact Int.mul_zero _), uCol_getD ht, if_pos rfl]
  rw [e] at h1
  have h2 : m ∣ 1 % m - 1 := ⟨-(1 / m), by
    have h1 := Int.emod_def 1 m
    have h2 := Int.mul_neg m (1 / m)
    omega⟩
  have h3 : m ∣ kM n w i t * (1 % m) - kM n w i t := by
    have := Int.dvd_mul_of_dvd_right (b := kM n w i t) h2
    rw [Int.mul_sub, Int.mul_one] at this
    exact this
  have h4 : m ∣ (uCol m n t).getD i 0 - oneM i t := by
    rw [uCol_getD hi]
    show m ∣ _ - (if i = t then (1 : Int) else 0)
    split
    · exact h2
    · exact Int.dvd_zero m
  have h5 := Int.dvd_sub (Int.dvd_add h1 h3) h4
  unfold dEl
  generalize (cCol m w (uCol m n t)).getD i 0 = a at *
  generalize (uCol m n t).getD i 0 = b at *
  generalize kM n w i t * (1 % m) = c at *
  generalize kM n w i t = d at *
  generalize (oneM i t : Int) = f at *
  rw [show a - b - (d - f) = a - c + (c - d) - (b - f) by omega]
  exact h5
theorem solB_dMx {m n : Nat} {w : List Int} (hw : ∀ x ∈ w, x ≠ 0 ∧ x.natAbs < n) (t : Nat) : solB (dMx m n w) m t = solB (cEq n w) m t := by
  have hr : ∀ (r : Nat → Int), dotI ((List.range n).map r) (digI m t) = sumN n fun k => r k * digI m t k := fun r => by
    unfold dotI
    rw [List.length_map, List.length_range]
    exact sumN_congr fun i hi => by simp [List.getD, hi]
  have key : ∀ j, j < n → ((dotI ((List.range n).map fun t => dEl m n w j t) (digI m t) % (m : Int) == 0) = (dotI ((List.range n).map fun k => kM n w j k - oneM j k) (digI m t) % (m : Int) == 0)) := fun j hj => by
    rw [hr, hr]
    have hd : (m : Int) ∣ (sumN n fun k => dEl m n w j k * digI m t k) - sumN n fun k => (kM n w j k - oneM j k) * digI m t k := by
      rw [← sumN_subI]
      refine dvd_sumN fun i hi => ?_
      rw [← Int.sub_mul]
      exact Int.dvd_mul_of_dvd_left (dEl_cong hw hj hi)
    generalize (sumN n fun k => dEl m n w j k * digI m t k) = a at *
    generalize (sumN n fun k => (kM n w j k - oneM j k) * digI m t k) = b at *
    have he : a % (m : Int) = b % (m : Int) := Int.emod_eq_emod_iff_emod_sub_eq_zero.2 (Int.emod_eq_zero_of_dvd hd)
    rw [he]
  unfold solB dMx cEq
  rw [List.all_map, List.all_map]
  refine Bool.eq_iff_iff.2 ?_
  rw [List.all_eq_true, List.all_eq_true]
  refine ⟨fun h j hj => ?_, fun h j hj => ?_⟩
  · have := h j hj
    show (dotI _ _ % _ == 0) = true
    rw [← key j (List.mem_range.1 hj)]
    exact this
  · have := h j hj
    show (dotI _ _ % _ == 0) = true
    rw [key j (List.mem_range.1 hj)]
    exact this
theorem solN_dMx {m n : Nat} {w : List Int} (hm : 1 ≤ m) (hw : ∀ x ∈ w, x ≠ 0 ∧ x.natAbs < n) : solN (dMx m n w) n m = cntC n m w := by
  rw [cntC_solN hm hw]
  unfold solN
  refine List.countP_congr fun t _ => ?_
  rw [solB_dMx hw]
theorem dEl_le {m n : Nat} {w : List Int} (hm : 1 ≤ m) (h13 : m ≤ 13) (hw : ∀ x ∈ w, x ≠ 0 ∧ x.natAbs < n) {i t : Nat} (hi : i < n) : dEl m n w i t ≤ 100 ∧ -100 ≤ dEl m n w i t := by
  have h1 := ((uCol_isC (m := (m : Int)) (n := n) (t := t) (by omega)).word hw).col i hi
  have h2 := (uCol_isC (m := (m : Int)) (n := n) (t := t) (by omega)).col i hi
  unfold dEl
  omega
theorem dMx_fault {m n : Nat} {w : List Int} (hm : 1 ≤ m) (h13 : m ≤ 13) (h6 : n ≤ 6) (hw : ∀ x ∈ w, x ≠ 0 ∧ x.natAbs < n) : mfault (dMx m n w) = 0 := by
  refine mfault_ok (k := n) (by rw [dMx_length]; exact h6) h6 fun r hr => ?_
  obtain ⟨i, hi, rfl⟩ := List.mem_map.1 hr
  refine ⟨by simp, fun x hx => ?_⟩
  obtain ⟨t, ht, rfl⟩ := List.mem_map.1 hx
  exact dEl_le hm h13 hw (List.mem_range.1 hi)
theorem dMx_sol {m n : Nat} {w : List Int} (hm : 1 ≤ m) (h13 : m ≤ 13) (h1 : 1 ≤ n) (h6 : n ≤ 6) (hw : ∀ x ∈ w, x ≠ 0 ∧ x.natAbs < n) : solE (dMx m n w) m = 0 ∧ solV (dMx m n w) m = (cntC n m w : Int) := by
  have he : solE (dMx m n w) m = 0 := by
    unfold solE
    rw [if_pos (dMx_fault hm h13 h6 hw), if_neg (by omega)]
  refine ⟨he, ?_⟩
  have hc : colsM (dMx m n w) = n := by
    unfold colsM
    rw [dMx_row w (by omega)]
    simp
  unfold solV
  rw [if_pos he, Int.toNat_natCast, hc, solN_dMx hm hw]
end Go.Proofs.YtndgffiihbdppaaDoor
/- A slice of rows that the call itself builds, row by row. -/
namespace Go.Proofs.YtndgffiihbdppaaDoor
set_option linter.unusedVariables false
set_option linter.unusedSimpArgs false
open Go.RowKit

structure MSt (w0 w : World) (A : Option Addr) (n c : Nat) (vs : List Value) (xss : List (List Int)) : Prop where
  own : OwnV w w0.heap.size A n c vs
  rows : RowsI w w0.heap.size vs xss
  below : Below w0.heap.size w0 w
section
variable {w0 w w' : World} {A : Option Addr} {n c : Nat} {vs : List Value} {xss : List (List Int)}
theorem MSt.start (w0 : World) : MSt w0 w0 none 0 0 [] [] := ⟨OwnV.nil_ _ _, RowsI.nil_ _ _, Below.refl _ _⟩
theorem MSt.to (h : MSt w0 w A n c vs xss) (hb : Below w.heap.size w w') : MSt w0 w' A n c vs xss :=
  ⟨h.own.keep (KeepT.below hb), h.rows.keep (KeepT.below hb), h.below.trans (hb.mono h.below.size)⟩
theorem MSt.add {w9 : World} {B A9 : Option Addr} {m d c9 : Nat} {xs : List Int} (h : MSt w0 w A n c vs xss) (hc : OwnI w w0.heap.size B m d xs)
    (happ : AppendedV (w.alloc (.cells #[.slice B m d] 22)) w0.heap.size A (n + 1) c (vs ++ [.slice B m d]) A9 c9 w9) : MSt w0 w9 A9 (n + 1) c9 (vs ++ [.slice B m d]) (xss ++ [xs]) := by
  have hblk : ∀ g, (Value.slice A (n + 1) c).ownBlock = some g → w0.heap.size ≤ g ∧ g < w.heap.size ∧ ∃ (cs : Array Value), w.heap[g]? = some (.cells cs 22 (0, 0)) := by
    intro g hg
    rw [ownBlock_len A (n + 1) n c c] at hg
    obtain ⟨h1, h2⟩ := h.own.lt g hg
    refine ⟨h1, h2, ?_⟩
    rcases h.own.own.2 with ⟨hv, _⟩ | ⟨g', cap, cur, hv, _, hh, _⟩
    · rw [hv] at hg; cases hg
    · rw [hv] at hg
      injection hg with hg
      subst hg
      exact ⟨cur, hh⟩
  have k3 : KeepT 3 w w9 := (KeepT.alloc w _).trans (KeepT.grown happ.grown (fun g hg => by
    obtain ⟨_, h2, cs, h3⟩ := hblk g hg
    exact ⟨22, cs, (Below.heap_alloc w _ g h2).trans h3, by decide⟩))
  exact ⟨happ.own, (h.rows.keep k3).snoc (k3.ownI hc), (h.below.alloc h.below.size _).grown happ.grown (Nat.le_trans h.below.size (by simp)) (fun g hg => (hblk g hg).1)⟩
theorem MSt.len (h : MSt w0 w A n c vs xss) : xss.length = n := by rw [← h.rows.len]; exact h.own.len
end
theorem rows_info : (Tryd.prog.info? 22).map (fun i => (i.zero, i.size, i.bytes)) = some (some (.slice none 0 0), 1, 24) := by kernel_rfl
end Go.Proofs.YtndgffiihbdppaaDoor
/- Package coloring: differences. -/
namespace Go.Proofs.YtndgffiihbdppaaDoor
set_option linter.unusedVariables false
set_option linter.unusedSimpArgs false
open Go.RowKit

theorem OwnI.farC {w : World} {base n c : Nat} {A : Option Addr} {xs : List Int} (h : OwnI w base A n c xs) {p : Addr} (hg : p.block < base) (u : Value) : OwnI (w.setCell p u) base A n c xs := by
  refine ⟨⟨h.own.1, ?_⟩, h.small⟩
  rcases h.own.2 with h2 | ⟨b, cap, cur, hv, hb, hh, r⟩
  · exact .inl h2
  · exact .inr ⟨b, cap, cur, hv, hb, (Below.heap_setCell w p u b (by omega)).trans hh, r⟩
theorem OwnI.keepC {w w' : World} {base n c : Nat} {A : Option Addr} {xs : List Int} (h : OwnI w base A n c xs) (hb : Below w.heap.size w w') : OwnI w' base A n c xs := (KeepT.below hb).ownI h
theorem dMx_sll {w : World} {base gm N : Nat} {gr : Nat → Nat} {m : Int} {xs : List Int} (hN : N ≤ 6) (h : MaI w base gm N gr N (fun i t => dEl m N xs i t)) : SLL w (some ⟨gm, 0, none⟩) N N (dMx m N xs) := by
  refine ⟨dMx_length _ _ _, by omega, fun e => (by cases e), Nat.le_refl _, fun _ => ⟨_, rfl, h.go_lt, fun j hj => ⟨_, _, _, by rw [Addr.add_mid, Nat.zero_add]; exact h.out j hj, ?_⟩⟩⟩
  rw [dMx_row xs hj]
  exact (h.row j hj).sl

set_option maxRecDepth 100000 in
set_option maxHeartbeats 8000000 in
theorem cldiff_any (A : Option Addr) (n c : Nat) (xs : List Int) (k N : Nat) (w : World) (ha : SL w A n c xs) (hx : ∀ x ∈ xs, x ≠ 0 ∧ x.natAbs < N) (hk1 : 1 ≤ k) (hk : k ≤ 13) (hN1 : 1 ≤ N) (hN : N ≤ 6) :
    Calls Tryd.prog 21 #[.int .i64 (N : Int), .slice A n c, .int .i64 (k : Int)] w fun e w' => ∃ g, e = .returned (.slice (some ⟨g, 0, none⟩) N N) ∧ SLL w' (some ⟨g, 0, none⟩) N N (dMx (k : Int) N xs) ∧ Below w.heap.size w w' := by
  obtain ⟨i0, hi0, hz0, hz1, hz2⟩ := info_parts int_info
  have HI0 := hide hi0
  have HY0 := hide hz0
  have HY1 := hide hz1
  have HY2 := hide hz2
  obtain ⟨i1, hj0, hk0, hk1', hk2⟩ := info_parts rows_info
  have HI1 := hide hj0
  have HZ0 := hide hk0
  have HZ1 := hide hk1'
  have HZ2 := hide hk2
  have HA := hide ha
  have HX := hide hx
  clear ha hx hi0 hz0 hz1 hz2 hj0 hk0 hk1' hk2
  go_enter Tryd.func21, Tryd.ntmps21
  go_wp2_with (at_make; refine wpList_make_full _ rfl _ _ 25 rfl w.heap.size 22 i1 (.slice none 0 0) 1 Tryd.underlying25 HI1.out HZ0.out HZ1.out .i64 .i64 _ _ N rfl rfl rfl rfl (by rw [HZ2.out]; omega) (by unfold maxLen; omega) (Nat.le_refl _) ?_; intro w3 hown3 hg3)
  have hB3 : Below w.heap.size w w3 := (Below.refl _ _).grown hg3 (Nat.le_refl _) (by intro k hk; cases hk)
  have ho3 := ownV_zero hown3 (by omega)
  obtain ⟨gm, hgm⟩ : ∃ g, w.heap.size = g := ⟨_, rfl⟩
  rw [hgm] at ho3 hB3 ⊢
  have HM := hide (MaI.start (n := N) ho3 (fun _ _ => 0))
  have HCs : Hid (∀ i, i < N → ∃ v, w3.cell? ⟨gm, i, none⟩ = some v) := hide (fun i hi => by
    obtain ⟨g', e, hc⟩ := ho3.cellAt hi
    injection e with e
    injection e with e
    subst e
    exact ⟨_, hc.trans (by rw [List.getElem?_replicate, if_pos hi])⟩)
  have HB := hide hB3
  have HGM := hide hgm
  clear hown3 hg3 hB3 ho3 hgm
  go_wp2_with fail
  go_loopw [17] (fun iv wr => ∃ (i : Nat) (gr : Nat → Nat), iv = .int .i64 i ∧ i ≤ N ∧ Hid (MaI wr gm gm N gr i (fun _ _ => 0)) ∧ Hid (∀ i, i < N → ∃ v, wr.cell? ⟨gm, i, none⟩ = some v) ∧ Hid (Below gm w wr)) (fun iv _ => N - (intOf iv).toNat)
  case atStart => exact ⟨0, _, by go_num, Nat.zero_le _, HM, HCs, HB⟩
  case round =>
    clear HM HCs HB
    obtain ⟨i, gr, rfl, hi, HM, HCs, HB⟩ := hrel
    by_cases hlt : i < N
    · obtain ⟨v, hv⟩ := HCs.out i hlt
      obtain ⟨cs9, hcs9⟩ := HM.out.blk
      have HK9 := hide hcs9
      have HV := hide hv
      have hbw : gm ≤ wr.heap.size := by have := HM.out.go_lt; omega
      clear hcs9 hv
      go_upto_region 6 with (at_make; refine wpList_make_full _ rfl _ _ 22 rfl wr.heap.size 3 i0 (.int .i64 0) 1 Tryd.underlying22 HI0.out HY0.out HY1.out .i64 .i64 _ _ N rfl rfl rfl rfl (by rw [HY2.out]; omega) (by unfold maxLen; omega) (Nat.le_refl _) ?_; intro w4 hown4 hg4; have hb4 : Below wr.heap.size wr w4 := (Below.refl _ _).grown hg4 (Nat.le_refl _) (by intro k hk; cases hk); have hv4 := (hb4.cell (p := ⟨gm, i, none⟩) HK9.out.lt).trans HV.out; have hf4 := (HK9.out.below hb4 HK9.out.lt).frozen i)
      have ho4 := OwnI.zero (z := #[]) hown4 (by omega)
      have HM4 := hide (HM.out.push (g := wr.heap.size) hb4 (Nat.le_refl _) (by rw [map_zero]; exact ho4.mono hbw) (ho4.lt _ rfl).2 hbw HV.out)
      have HC4 : Hid (∀ j, j < N → ∃ v, (w4.setCell ⟨gm, i, none⟩ (.slice (some ⟨wr.heap.size, 0, none⟩) N N)).cell? ⟨gm, j, none⟩ = some v) := hide (fun j hj => by
        by_cases e : j = i
        · subst e
          exact ⟨_, World.cell?_setCell_same w4 _ _ hv4⟩
        · rw [World.cell?_setCell_other w4 _ _ _ (by intro h2; simp only [Addr.mk.injEq] at h2; omega)]
          obtain ⟨v', hv'⟩ := HCs.out j hj
          exact ⟨v', (hb4.cell (p := ⟨gm, j, none⟩) HK9.out.lt).trans hv'⟩)
      have HB4 := hide ((HB.out.trans (hb4.mono hbw)).setCell (p := ⟨gm, i, none⟩) (Nat.le_refl _) (.slice (some ⟨wr.heap.size, 0, none⟩) N N))
      clear hown4 hg4 hb4 hv4 hf4 ho4 HM HB HCs HV HK9
      go_wp2_with fail
      go_roundw
      case rel => exact ⟨i + 1, _, by go_num, by omega, HM4, HC4, HB4⟩
      case measure => simp [intOf]; omega
    · have hiN : i = N := by omega
      rw [hiN] at HM
      clear hiN HCs
      rename World => w5
      have HM0 : Hid (MaI w5 gm gm N gr N (fun i t => if t < 0 then dEl (k : Int) N xs i t else 0)) := hide (HM.out.congr fun i _ j _ => by simp)
      clear HM
      go_wp2_with fail
      go_loopw [27] (fun iv wr => ∃ t : Nat, iv = .int .i64 t ∧ t ≤ N ∧ Hid (MaI wr gm gm N gr N (fun i t' => if t' < t then dEl (k : Int) N xs i t' else 0)) ∧ Hid (Below gm w wr)) (fun iv _ => N - (intOf iv).toNat)
      case atStart => exact ⟨0, by go_num, Nat.zero_le _, HM0, HB⟩
      case round =>
        clear HM0 HB
        obtain ⟨t, rfl, ht, HM, HB⟩ := hrel
        by_cases hlt : t < N
        · have hbw : gm ≤ wr.heap.size := by have := HM.out.go_lt; omega
          have hkz : ((k : Int) == 0) = false := by simp; omega
          go_upto_region 12 with (at_make; refine wpList_make_full _ rfl _ _ 22 rfl wr.heap.size 3 i0 (.int .i64 0) 1 Tryd.underlying22 HI0.out HY0.out HY1.out .i64 .i64 _ _ N rfl rfl rfl rfl (by rw [HY2.out]; omega) (by unfold maxLen; omega) (Nat.le_refl _) ?_; intro w4 hown4 hg4; have ho4 := OwnI.zero (z := #[]) hown4 (by omega); have hc4 := ho4.cell hlt; have hf4 := ho4.frozen t)
          have hb4 : Below wr.heap.size wr w4 := (Below.refl _ _).grown hg4 (Nat.le_refl _) (by intro k hk; cases hk)
          have hlc : ∀ i, i < N → gr i < wr.heap.size := fun i hi => HM.out.lt i hi
          obtain ⟨gc, hgc⟩ : ∃ g, wr.heap.size = g := ⟨_, rfl⟩
          rw [hgc] at hlc ho4 hb4 hbw ⊢
          have HU4 : Hid (OwnI (w4.setCell ⟨gc, t, none⟩ (.int .i64 (1 % (k : Int)))) gc (some ⟨gc, 0, none⟩) N N (uCol (k : Int) N t)) := hide (ho4.set_ t (1 % (k : Int)))
          have hb5 : Below gc wr (w4.setCell ⟨gc, t, none⟩ (.int .i64 (1 % (k : Int)))) := hb4.setCell (p := ⟨gc, t, none⟩) (Nat.le_refl _) _
          have HB4 := hide (HB.out.trans (hb5.mono hbw))
          have HM4 := hide (HM.out.below (by rw [hgc]; exact hb5))
          have HGC := hide hgc
          have hgs : gc < (w4.setCell ⟨gc, t, none⟩ (.int .i64 (1 % (k : Int)))).heap.size := (HU4.out.lt gc rfl).2
          obtain ⟨w5', hw5⟩ : ∃ x, w4.setCell ⟨gc, t, none⟩ (.int .i64 (1 % (k : Int))) = x := ⟨_, rfl⟩
          rw [hw5] at HU4 HB4 HM4 hgs ⊢
          have HLC := hide hlc
          clear hown4 hg4 ho4 hc4 hf4 hb4 hb5 hw5 hgc hlc HM HB
          go_wp2_with fail
          refine (clprop_any A n c xs (some ⟨gc, 0, none⟩) N N (uCol (k : Int) N t) k N _ (HA.out.below (by rw [HGM.out]; exact HB4.out)) HU4.out.sl (uCol_isC (by omega)) HX.out hk hN1 hN).mono ?_
          rintro e w6 ⟨R, rn, rc, rfl, ho, hb⟩
          have HIC : Hid (IsC (k : Int) N (cCol (k : Int) xs (uCol (k : Int) N t))) := hide ((uCol_isC (by omega)).word HX.out)
          have hrn : rn = N := by rw [← ho.len]; exact HIC.out.len
          subst hrn
          obtain ⟨q, rfl, hq1, hq2⟩ := ho.form (by omega)
          have hbw5 : gm ≤ w5'.heap.size := by omega
          have HB6 := hide (HB4.out.trans (hb.mono hbw5))
          have HM6 := hide (HM4.out.below hb)
          have HU6 := hide (HU4.out.keepC hb)
          have HR6 := hide ho
          have hq0 : gc < w5'.heap.size := hgs
          obtain ⟨gq, hgq⟩ : ∃ g, w5'.heap.size = g := ⟨_, rfl⟩
          rw [hgq] at HR6 hq0 hq1
          clear hb ho hgq HU4 HM4 HB4 hq2
          have hlq : ∀ i, i < rn → gr i < gq := fun i hi => by have := HLC.out i hi; omega
          have HLQ := hide hlq
          obtain ⟨V, hV⟩ : ∃ V, cCol (k : Int) xs (uCol (k : Int) rn t) = V := ⟨_, rfl⟩
          obtain ⟨U, hU⟩ : ∃ U, uCol (k : Int) rn t = U := ⟨_, rfl⟩
          have HUC : Hid (IsC (k : Int) rn U) := hide (by rw [← hU]; exact uCol_isC (by omega))
          have HD : Hid (∀ i, dEl (k : Int) rn xs i t = V.getD i 0 - U.getD i 0) := hide (fun i => by unfold dEl; rw [hV, hU])
          rw [hV] at HR6 HIC
          rw [hU] at HU6
          have HM7 : Hid (MaI w6 gm gm rn gr rn (fun i t' => if t' < t ∨ t' = t ∧ i < 0 then dEl (k : Int) rn xs i t' else 0)) := hide (HM6.out.congr fun i _ j _ => by simp)
          clear hlq hV hU HM6 hkz
          go_wp2_with fail
          go_loopw [42] (fun iv wr => ∃ j : Nat, iv = .int .i64 j ∧ j ≤ rn ∧ Hid (MaI wr gm gm rn gr rn (fun i t' => if t' < t ∨ t' = t ∧ i < j then dEl (k : Int) rn xs i t' else 0)) ∧ Hid (OwnI wr gc (some ⟨gc, 0, none⟩) rn rn U) ∧ Hid (OwnI wr gq (some ⟨q, 0, none⟩) rn rc V) ∧ Hid (Below gm w wr)) (fun iv _ => rn - (intOf iv).toNat)
          case atStart => exact ⟨0, by go_num, Nat.zero_le _, HM7, HU6, HR6, HB6⟩
          case round =>
            clear HM7 HU6 HR6 HB6
            obtain ⟨j, rfl, hj, HM, HU, HR, HB⟩ := hrel
            by_cases hlj : j < rn
            · have hcx := HR.out.cell hlj
              have hcu := HU.out.cell hlj
              have hcr := HM.out.out j hlj
              have hct := HM.out.cell hlj hlt
              rw [if_neg (by omega)] at hct
              have hft := HM.out.frozen hlj t
              have bv := HIC.out.col j hlj
              have bu := HUC.out.col j hlj
              have HDj := HD.out j
              obtain ⟨a, hae⟩ : ∃ a, V.getD j 0 = a := ⟨_, rfl⟩
              obtain ⟨b, hbe⟩ : ∃ b, U.getD j 0 = b := ⟨_, rfl⟩
              rw [hae] at hcx bv HDj
              rw [hbe] at hcu bu HDj
              have hsub : IntKind.i64.wrap (a - b) = a - b := by rw [IntKind.wrap_i64]; omega
              have hgj : gm ≤ gr j := HM.out.base_le.2 j hlj
              have HJ := hide HDj
              clear hae hbe bv bu HDj
              go_upto_region 15 with fail
              refine wp_region_T (S := fun w' => w'.cell? ⟨gm, j, none⟩ = some (.slice (some ⟨gr j, 0, none⟩) rn rn) ∧ w'.cell? ⟨gc, j, none⟩ = some (.int .i64 b) ∧ w'.cell? ⟨gr j, t, none⟩ = some (.int .i64 0)) 12 (by kernel_rfl) ⟨hcr, hcu, hct⟩ (fun hS => ?_)
              refine wpT_tk 0 (v := .slice (some ⟨gm, 0, none⟩) rn rn) rfl (by kernel_rfl) (by kernel_rfl) (by kernel_rfl) (by kernel_rfl) (yi rfl fun w' hw' => gives_move (.inl rfl) rfl) hS ?_
              go_frame
              refine wpT_tk 1 (v := .int .i64 (j : Nat)) rfl (by kernel_rfl) (by kernel_rfl) (by kernel_rfl) (by kernel_rfl) (yi rfl fun w' hw' => gives_move (.inl rfl) rfl) hS ?_
              go_frame
              refine wpT_tk 2 (v := .pointer (some ⟨gm, j, none⟩)) rfl (by kernel_rfl) (by kernel_rfl) (by kernel_rfl) (by kernel_rfl) (yi rfl fun w' hw' => gives_indexQ rfl Tryd.underlying25 (fun _ => by kernel_rfl) rfl rfl hlj) hS ?_
              go_frame
              refine wpT_tk 3 (v := .slice (some ⟨gr j, 0, none⟩) rn rn) rfl (by kernel_rfl) (by kernel_rfl) (by kernel_rfl) (by kernel_rfl) (yi rfl fun w' hw' => gives_load1 rfl (by kernel_rfl) rfl hw'.1) hS ?_
              go_frame
              refine wpT_tk 4 (v := .int .i64 (t : Nat)) rfl (by kernel_rfl) (by kernel_rfl) (by kernel_rfl) (by kernel_rfl) (yi rfl fun w' hw' => gives_move (.inl rfl) rfl) hS ?_
              go_frame
              refine wpT_tk 5 (v := .int .i64 a) rfl (by kernel_rfl) (by kernel_rfl) (by kernel_rfl) (by kernel_rfl) (yi rfl fun w' hw' => gives_move (.inl rfl) rfl) hS ?_
              go_frame
              refine wpT_tk 6 (v := .slice (some ⟨gc, 0, none⟩) rn rn) rfl (by kernel_rfl) (by kernel_rfl) (by kernel_rfl) (by kernel_rfl) (yi rfl fun w' hw' => gives_move (.inl rfl) rfl) hS ?_
              go_frame
              refine wpT_tk 7 (v := .int .i64 (j : Nat)) rfl (by kernel_rfl) (by kernel_rfl) (by kernel_rfl) (by kernel_rfl) (yi rfl fun w' hw' => gives_move (.inl rfl) rfl) hS ?_
              go_frame
              refine wpT_tk 8 (v := .pointer (some ⟨gc, j, none⟩)) rfl (by kernel_rfl) (by kernel_rfl) (by kernel_rfl) (by kernel_rfl) (yi rfl fun w' hw' => gives_indexQ rfl Tryd.underlying22 (fun _ => by kernel_rfl) rfl rfl hlj) hS ?_
              go_frame
              refine wpT_tk 9 (v := .int .i64 b) rfl (by kernel_rfl) (by kernel_rfl) (by kernel_rfl) (by kernel_rfl) (yi rfl fun w' hw' => gives_load1 rfl (by kernel_rfl) rfl hw'.2.1) hS ?_
              go_frame
              refine wpT_tk 10 (v := .int .i64 (a - b)) rfl (by kernel_rfl) (by kernel_rfl) (by kernel_rfl) (by kernel_rfl) (yi rfl fun w' hw' => gives_sub rfl rfl rfl hsub) hS ?_
              go_frame
              refine wpT_tk 11 (v := .pointer (some ⟨gr j, t, none⟩)) rfl (by kernel_rfl) (by kernel_rfl) (by kernel_rfl) (by kernel_rfl) (yi rfl fun w' hw' => gives_indexQ rfl Tryd.underlying22 (fun _ => by kernel_rfl) rfl rfl hlt) hS ?_
              go_frame
              refine wpT_1 12 rfl (by kernel_rfl) ?_
              refine wp_storeI rfl (by kernel_rfl) (by kernel_rfl) rfl rfl hS.2.2 hft ?_
              refine ⟨fun h => absurd rfl h, ?_⟩
              go_frame
              refine wpT_done (by kernel_rfl) (noPanic_mk ?_) _
              have hdr : Below wr.heap.size wr wr.drew := (Below.refl _ _).drew
              have hgw : gm ≤ wr.heap.size := by have := HM.out.go_lt; omega
              have HM9 := hide (((HM.out.below hdr).set_ hlj hlt (a - b)).congr (Y := fun i t' => if t' < t ∨ t' = t ∧ i < j + 1 then dEl (k : Int) rn xs i t' else 0) fun i _ t' _ => by
                show (if i = j ∧ t' = t then a - b else if t' < t ∨ t' = t ∧ i < j then dEl (k : Int) rn xs i t' else 0) = _
                by_cases e : i = j ∧ t' = t
                · obtain ⟨rfl, rfl⟩ := e
                  rw [if_pos ⟨rfl, rfl⟩, if_pos (by omega), HJ.out]
                · rw [if_neg e]
                  by_cases e2 : t' < t ∨ t' = t ∧ i < j
                  · rw [if_pos e2, if_pos (by omega)]
                  · rw [if_neg e2, if_neg (by omega)])
              have HB9 := hide ((HB.out.trans (hdr.mono hgw)).setCell (p := ⟨gr j, t, none⟩) hgj (.int .i64 (a - b)))
              have HU9 := hide ((HU.out.keepC hdr).farC (p := ⟨gr j, t, none⟩) (HLC.out j hlj) (.int .i64 (a - b)))
              have HR9 := hide ((HR.out.keepC hdr).farC (p := ⟨gr j, t, none⟩) (HLQ.out j hlj) (.int .i64 (a - b)))
              clear HM HB HU HR hcx hcu hcr hct hft hdr hgw hsub hgj
              go_wp2_with fail
              go_roundw
              case rel => exact ⟨j + 1, by go_num, by omega, HM9, HU9, HR9, HB9⟩
              case measure => simp [intOf]; omega
            · have HM9 : Hid (MaI wr gm gm rn gr rn (fun i t' => if t' < t + 1 then dEl (k : Int) rn xs i t' else 0)) := hide (HM.out.congr fun i hi t' _ => by
                show (if t' < t ∨ t' = t ∧ i < j then _ else _) = if t' < t + 1 then _ else _
                by_cases e : t' < t + 1
                · rw [if_pos e, if_pos (by omega)]
                · rw [if_neg e, if_neg (by omega)])
              clear HM HU HR
              go_wp2_with fail
              go_roundw
              case rel => exact ⟨t + 1, by go_num, by omega, HM9, HB⟩
              case measure => simp [intOf]; omega
        · have HM9 := hide (dMx_sll hN (HM.out.congr (Y := fun i t' => dEl (k : Int) N xs i t') fun i hi t' ht' => by
            show (if t' < t then _ else _) = _
            rw [if_pos (by omega)]))
          have HB9 : Hid (Below w.heap.size w wr) := hide (by rw [HGM.out]; exact HB.out)
          clear HM HB
          go_wp2_with fail
          go_ret
          exact ⟨_, rfl, HM9.out, HB9.out⟩
end Go.Proofs.YtndgffiihbdppaaDoor
/- timbref1.Common, Choices. -/
namespace Go.Proofs.YtndgffiihbdppaaDoor
set_option linter.unusedVariables false
set_option linter.unusedSimpArgs false
open Go.RowKit

theorem gcd_tmod (a b : Int) : Int.gcd b (a.tmod b) = Int.gcd a b := by
  unfold Int.gcd
  rw [Int.natAbs_tmod, Nat.gcd_comm, ← Nat.gcd_rec, Nat.gcd_comm]
/-- The increasing lists that go on from l, r elements longer, of numbers from 'from' to below n. -/
def chs (n : Nat) : Nat → List Nat → Nat → List (List Nat)
  | 0, l, _ => [l]
  | r + 1, l, a => (List.range' a (n - a)).flatMap fun i => chs n r (l ++ [i]) (i + 1)
/-- An increasing list of k numbers below n. -/
def Inc (n k : Nat) (p : List Nat) : Prop := Sorted p ∧ p.length = k ∧ ∀ x ∈ p, x < n

section
variable {fid : FuncId} {caps : List Value} {g : Nat} {σ : Type} {J : σ → World → Prop} {step : σ → List Nat → σ} {n K : Nat}
end
end Go.Proofs.YtndgffiihbdppaaDoor
/- timbref1.Factors: the two closures. -/
namespace Go.Proofs.YtndgffiihbdppaaDoor
set_option linter.unusedVariables false
set_option linter.unusedSimpArgs false
open Go.RowKit

/-- What the closures keep. -/
structure FJ (w0 : World) (g bm kb : Nat) (A : Option Addr) (n c K : Nat) (s : Int) (w : World) : Prop where
  below : Below w0.heap.size w0 w
  sum : Blk w g 3 #[.int .i64 s]
  box : Blk w bm 25 #[.slice A n c]
  kbox : Blk w kb 3 #[.int .i64 K]
  pos : 0 ≤ s
  le : s.natAbs ≤ 720000000000000
theorem FJ.to {w0 : World} {g bm kb : Nat} {A : Option Addr} {n c K : Nat} {s : Int} {w w' : World} (h : FJ w0 g bm kb A n c K s w) (hb : Below w.heap.size w w') : FJ w0 g bm kb A n c K s w' :=
  ⟨h.below.trans (hb.mono h.below.size), h.sum.below hb h.sum.lt, h.box.below hb h.box.lt, h.kbox.below hb h.kbox.lt, h.pos, h.le⟩
def subM (M : Mtx Int) (rows cols : List Nat) : Mtx Int := fun a b => M (rows.getD a 0) (cols.getD b 0)
theorem gcd_le {a b : Int} {B : Nat} (ha : a.natAbs ≤ B) (hb : b.natAbs ≤ B) : Int.gcd a b ≤ B := by
  unfold Int.gcd
  by_cases h : a.natAbs = 0
  · rw [h, Nat.gcd_zero_left]; exact hb
  · exact Nat.le_trans (Nat.gcd_le_left _ (Nat.pos_of_ne_zero h)) ha
end Go.Proofs.YtndgffiihbdppaaDoor
/- The minors of increasing rows and columns are enough; what timbref1.Factors reckons. -/
namespace Go.Proofs.YtndgffiihbdppaaDoor
set_option linter.unusedVariables false
set_option linter.unusedSimpArgs false
open Go.RowKit

theorem dvd_gcd_int {g a b : Int} : g ∣ ((Int.gcd a b : Nat) : Int) ↔ g ∣ a ∧ g ∣ b := by
  unfold Int.gcd
  rw [← Int.natAbs_dvd_natAbs, Int.natAbs_natCast, Nat.dvd_gcd_iff, Int.natAbs_dvd_natAbs, Int.natAbs_dvd_natAbs]
theorem mem_chs {n : Nat} : ∀ {r : Nat} {l p : List Nat} {a : Nat}, p ∈ chs n r l a ↔ ∃ t, p = l ++ t ∧ t.length = r ∧ Sorted t ∧ ∀ x ∈ t, a ≤ x ∧ x < n
  | 0, l, p, a => by
    simp only [chs, List.mem_singleton]
    constructor
    · rintro rfl
      exact ⟨[], by simp, rfl, List.Pairwise.nil, by simp⟩
    · rintro ⟨t, rfl, ht, _⟩
      rw [List.eq_nil_of_length_eq_zero ht, List.append_nil]
  | r + 1, l, p, a => by
    simp only [chs, List.mem_flatMap, List.mem_range'_1]
    constructor
    · rintro ⟨i, ⟨hi1, hi2⟩, hp⟩
      obtain ⟨t, rfl, ht, hs, hx⟩ := mem_chs.1 hp
      refine ⟨i :: t, by simp, by simp [ht], List.pairwise_cons.2 ⟨fun y hy => by have := (hx y hy).1; omega, hs⟩, fun x hx' => ?_⟩
      rcases List.mem_cons.1 hx' with rfl | h
      · omega
      · have := hx x h; omega
    · rintro ⟨t, rfl, ht, hs, hx⟩
      match t, ht with
      | i :: t, ht =>
        have hs' := List.pairwise_cons.1 hs
        have hi := hx i (by simp)
        refine ⟨i, ⟨hi.1, by omega⟩, mem_chs.2 ⟨t, by simp, by simpa using ht, hs'.2, fun x h => ?_⟩⟩
        have h1 := hs'.1 x h
        have h2 := hx x (by simp [h])
        omega
theorem mem_chs0 {n K : Nat} {p : List Nat} : p ∈ chs n K [] 0 ↔ Inc n K p := by
  rw [mem_chs]
  constructor
  · rintro ⟨t, rfl, h1, h2, h3⟩
    exact ⟨by simpa using h2, by simpa using h1, fun x hx => (h3 x (by simpa using hx)).2⟩
  · rintro ⟨h1, h2, h3⟩
    exact ⟨p, by simp, h2, h1, fun x hx => ⟨Nat.zero_le _, h3 x hx⟩⟩

/-! ### any rows and columns -/
theorem det_perm {g : Int} {L L' : List Nat} (h : L.Perm L') : ∀ (P : List Nat) (K : Nat) (N : Nat → Nat → Int), (P ++ L).length = K → g ∣ detR K (fun a b => N ((P ++ L').getD a 0) b) → g ∣ detR K (fun a b => N ((P ++ L).getD a 0) b) := by
  induction h with
  | nil => exact fun _ _ _ _ h => h
  | cons x _ ih =>
    intro P K N hK hd
    have := ih (P ++ [x]) K N (by simpa using hK)
    simp only [List.append_assoc, List.singleton_append] at this
    exact this hd
  | swap x y l =>
    intro P K N hK hd
    have A := detR_alt (R := Int) K
    have hlen : P.length + 1 < K := by rw [← hK]; simp
    have hs := A.swap (fun a b => N ((P ++ x :: y :: l).getD a 0) b) (r := P.length) (s := P.length + 1) (by omega) hlen (by omega)
    have e : swapR (fun a b => N ((P ++ x :: y :: l).getD a 0) b) P.length (P.length + 1) = fun a b => N ((P ++ y :: x :: l).getD a 0) b := by
      funext a b
      unfold swapR updR
      have g0 : ∀ (u v : Nat), (P ++ u :: v :: l).getD P.length 0 = u := fun u v => by simp [List.getD]
      have g1 : ∀ (u v : Nat), (P ++ u :: v :: l).getD (P.length + 1) 0 = v := fun u v => by simp [List.getD_eq_getElem?_getD, List.getElem?_append]
      by_cases h1 : a = P.length + 1
      · subst h1; rw [if_pos rfl]; dsimp only; rw [g0, g1]
      · rw [if_neg h1]
        by_cases h2 : a = P.length
        · subst h2; rw [if_pos rfl]; dsimp only; rw [g1, g0]
        · rw [if_neg h2]
          congr 1
          simp only [List.getD_eq_getElem?_getD, List.getElem?_append]
          by_cases h3 : a < P.length
          · rw [if_pos h3, if_pos h3]
          · rw [if_neg h3, if_neg h3]
            obtain ⟨k, hk⟩ : ∃ k, a - P.length = k + 2 := ⟨a - P.length - 2, by omega⟩
            rw [hk]
            simp
    rw [e] at hs
    rw [hs]
    exact (Int.dvd_neg).2 hd
  | trans _ _ h1 h2 =>
    intro P K N hK hd
    rename_i l1 l2 l3 p1 p2
    refine h1 P K N hK (h2 P K N ?_ hd)
    rw [← hK, List.length_append, List.length_append, p1.length_eq]
theorem det_rows {g : Int} {n K : Nat} {N : Nat → Nat → Int} (h : ∀ rows, Inc n K rows → g ∣ detR K (fun a b => N (rows.getD a 0) b)) {L : List Nat} (hl : L.length = K) (hx : ∀ x ∈ L, x < n) : g ∣ detR K (fun a b => N (L.getD a 0) b) := by
  by_cases hn : L.Nodup
  · have hp : L.Perm ((List.range n).filter fun x => L.contains x) := (List.perm_ext_iff_of_nodup hn (List.Nodup.sublist List.filter_sublist List.nodup_range)).2 fun x => by
      simp only [List.mem_filter, List.mem_range, List.contains_iff_mem]
      exact ⟨fun h => ⟨hx x h, h⟩, fun h => h.2⟩
    have hi : Inc n K ((List.range n).filter fun x => L.contains x) := ⟨List.Pairwise.sublist List.filter_sublist (range_sorted n), by rw [← hp.length_eq, hl], fun x h => List.mem_range.1 (List.mem_filter.1 h).1⟩
    have := det_perm (g := g) hp [] K N (by simpa using hl) (by simpa using h _ hi)
    simpa using this
  · have A := detR_alt (R := Int) K
    have hd : ∃ i j, i < j ∧ j < L.length ∧ L.getD i 0 = L.getD j 0 := by
      refine Classical.byContradiction fun hc => hn ?_
      refine List.pairwise_iff_getElem.2 fun i j hi hj hij he => hc ⟨i, j, hij, hj, ?_⟩
      rw [getD_eq hi, getD_eq hj, he]
    obtain ⟨i, j, hij, hj, he⟩ := hd
    rw [A.alt _ i j hij (by omega) (fun b _ => by rw [he])]
    exact Int.dvd_zero _
theorem div_inc {n m K : Nat} {M : Mtx Int} {g : Int} : DivAll n m K M g ↔ ∀ rows cols, Inc n K rows → Inc m K cols → g ∣ detR K (subM M rows cols) := by
  constructor
  · intro h rows cols hr hc
    exact h (fun a => rows.getD a 0) (fun b => cols.getD b 0) (fun a ha => hr.2.2 _ (getD_mem (by rw [hr.2.1]; exact ha))) (fun b hb => hc.2.2 _ (getD_mem (by rw [hc.2.1]; exact hb)))
  · intro h I J hI hJ
    have e : ∀ (I : Nat → Nat) {a : Nat}, a < K → ((List.range K).map I).getD a 0 = I a := fun I a ha => by simp [List.getD, ha]
    have h1 : ∀ cols, Inc m K cols → g ∣ detR K (fun a b => (fun i b => M i (cols.getD b 0)) (((List.range K).map I).getD a 0) b) := fun cols hc =>
      det_rows (N := fun i b => M i (cols.getD b 0)) (fun rows hr => h rows cols hr hc) (by simp) (fun x hx => by
        obtain ⟨a, ha, rfl⟩ := List.mem_map.1 hx
        exact hI a (List.mem_range.1 ha))
    have h2 : g ∣ detR K (fun b a => (fun j a => M (((List.range K).map I).getD a 0) j) (((List.range K).map J).getD b 0) a) :=
      det_rows (N := fun j a => M (((List.range K).map I).getD a 0) j) (fun cols hc => by
        have := h1 cols hc
        rw [← detR_turn] at this
        exact this) (by simp) (fun x hx => by
        obtain ⟨a, ha, rfl⟩ := List.mem_map.1 hx
        exact hJ a (List.mem_range.1 ha))
    rw [← detR_turn] at h2
    have e2 : minorM K M I J = detR K (turnM fun b a => (fun j a => M (((List.range K).map I).getD a 0) j) (((List.range K).map J).getD b 0) a) := detR_congr fun a ha b hb => by
      show M (I a) (J b) = M (((List.range K).map I).getD a 0) (((List.range K).map J).getD b 0)
      rw [e I ha, e J hb]
    rw [e2]
    exact h2
end Go.Proofs.YtndgffiihbdppaaDoor
