/- Several texts of the walk in one. -/
import Derived.Test.YtldfnfhommbokaaPart10
import Derived.Test.YtldfnfhommbokaaBase
import Derived.Test.YtldfnfhommbokaaPart1
import Derived.Test.YtldfnfhommbokaaPart7
/- timbref1.Permutations: all permutations, in order. -/
namespace Go.Proofs.Ytldfnfhommbokaa
set_option linter.unusedVariables false
set_option linter.unusedSimpArgs false
open Go.RowKit

theorem filter_ne_getD : ∀ {us : List Nat} {j : Nat}, us.Nodup → j < us.length → us.filter (fun x => !(x == us.getD j 0)) = us.take j ++ us.drop (j + 1)
  | u :: t, 0, hn, _ => by
    have hn' := List.nodup_cons.1 hn
    show (u :: t).filter (fun x => !(x == u)) = t
    rw [List.filter_cons]
    simp only [beq_self_eq_true, Bool.not_true, Bool.false_eq_true, if_false]
    exact List.filter_eq_self.2 fun x hx => by
      simp
      rintro rfl
      exact hn'.1 hx
  | u :: t, j + 1, hn, hj => by
    have hn' := List.nodup_cons.1 hn
    have hj' : j < t.length := by simpa using hj
    have e : (u :: t).getD (j + 1) 0 = t.getD j 0 := by simp [List.getD]
    rw [e, List.filter_cons]
    have hne : (u == t.getD j 0) = false := by
      have hm : t.getD j 0 ∈ t := getD_mem hj'
      simp
      intro h
      rw [List.getD_eq_getElem?_getD, ← h] at hm
      exact hn'.1 hm
    rw [hne]
    simp only [Bool.not_false, if_true]
    rw [filter_ne_getD hn'.2 hj']
    simp
theorem getD_cut (us : List Nat) (j b : Nat) (hj : j < us.length) : (us.take j ++ us.drop (j + 1)).getD b 0 = us.getD (CR.skip j b) 0 := by
  unfold CR.skip
  simp only [List.getD_eq_getElem?_getD, List.getElem?_append, List.length_take, List.getElem?_take, List.getElem?_drop]
  by_cases h : b < j
  · rw [if_pos (by omega), if_pos h, if_pos h]
  · rw [if_neg (by omega), if_neg h]
    congr 2
    omega
theorem flatMap_range {α : Type} (us : List Nat) (f : Nat → List α) : us.flatMap f = (List.range us.length).flatMap fun j => f (us.getD j 0) := by
  have e : us = (List.range us.length).map fun j => us.getD j 0 := by
    apply List.ext_getElem
    · simp
    · intro i h1 h2
      simp [List.getD, List.getElem?_eq_getElem h1]
  conv => lhs; rw [e]
  rw [List.flatMap_map]
theorem compl_perms (n : Nat) : ∀ (k : Nat) (p us : List Nat), (List.range n).filter (fun i => !p.contains i) = us → us.length = k → compl n k p = (permsN k).map fun q => p ++ q.map fun b => us.getD b 0
  | 0, p, us, h, hk => by simp [compl, permsN]
  | k + 1, p, us, h, hk => by
    have hn : us.Nodup := by rw [← h]; exact List.Nodup.sublist List.filter_sublist List.nodup_range
    rw [compl_succ, h, flatMap_range, hk]
    show _ = ((List.range (k + 1)).flatMap fun j => (permsN k).map fun q => j :: q.map (CR.skip j)).map _
    rw [List.map_flatMap]
    rw [List.flatMap_def, List.flatMap_def]
    congr 1
    apply List.map_congr_left
    intro j hj
    have hj' : j < us.length := by rw [hk]; exact List.mem_range.1 hj
    have e : (List.range n).filter (fun i => !(p ++ [us.getD j 0]).contains i) = us.take j ++ us.drop (j + 1) := by
      rw [← filter_ne_getD hn hj']
      conv => rhs; rw [← h]
      rw [List.filter_filter]
      apply List.filter_congr
      intro x _
      simp only [h]
      rw [Bool.eq_iff_iff]
      simp
      grind
    rw [compl_perms n k _ _ e (by simp; omega), List.map_map]
    apply List.map_congr_left
    intro q _
    simp only [Function.comp, List.map_cons, List.map_map]
    rw [List.append_assoc]
    congr 1
    show us.getD j 0 :: _ = us.getD j 0 :: _
    congr 1
    apply List.map_congr_left
    intro b _
    exact getD_cut us j b hj'
theorem compl_all (n : Nat) : compl n n [] = permsN n := by
  have h0 : (List.range n).filter (fun i => !([] : List Nat).contains i) = List.range n := List.filter_eq_self.2 fun x _ => rfl
  rw [compl_perms n n [] (List.range n) h0 (by simp)]
  have : ∀ q ∈ permsN n, ([] ++ q.map fun b => (List.range n).getD b 0) = q := fun q hq => by
    rw [List.nil_append]
    have h1 : q.map (fun b => (List.range n).getD b 0) = q.map id := List.map_congr_left fun b hb => by
      have : b ∈ List.range n := (permsN_perm hq).mem_iff.1 hb
      exact range_getD (List.mem_range.1 this)
    rw [h1, List.map_id]
  rw [List.map_congr_left this, List.map_id']

section
variable {fid : FuncId} {caps : List Value} {g : Nat} {σ : Type} {J : σ → World → Prop} {step : σ → List Nat → σ} {n : Nat}
end
end Go.Proofs.Ytldfnfhommbokaa
/- timbref1.Parity. -/
namespace Go.Proofs.Ytldfnfhommbokaa
set_option linter.unusedVariables false
set_option linter.unusedSimpArgs false
open Go.RowKit

end Go.Proofs.Ytldfnfhommbokaa
/- timbref1.Determinant. -/
namespace Go.Proofs.Ytldfnfhommbokaa
set_option linter.unusedVariables false
set_option linter.unusedSimpArgs false
open Go.RowKit

/-- The entries of a matrix. -/
def matF (xss : List (List Int)) : Mtx Int := fun i j => (xss.getD i []).getD j 0
/-- The product of the first k entries. -/
def pTo (M : Mtx Int) (p : List Nat) : Nat → Int
  | 0 => 1
  | k + 1 => pTo M p k * M k (p.getD k 0)
theorem pTo_drop (M : Mtx Int) (p : List Nat) : ∀ k, k ≤ p.length → pTo M p k * prodP M k (p.drop k) = prodP M 0 p
  | 0, _ => by rw [List.drop_zero]; exact Int.one_mul _
  | k + 1, h => by
    rw [← pTo_drop M p k (by omega), List.drop_eq_getElem_cons (by omega : k < p.length)]
    show pTo M p k * M k (p.getD k 0) * _ = pTo M p k * (M k p[k] * _)
    rw [getD_eq (by omega), Int.mul_assoc]
theorem pTo_all (M : Mtx Int) (p : List Nat) : pTo M p p.length = prodP M 0 p := by
  have h := pTo_drop M p p.length (Nat.le_refl _)
  rw [List.drop_length] at h
  rw [← h]
  exact (Int.mul_one _).symm
theorem abs_mul_le {a b : Int} {x y : Nat} (ha : a.natAbs ≤ x) (hb : b.natAbs ≤ y) : (a * b).natAbs ≤ x * y := by
  rw [Int.natAbs_mul]
  exact Nat.mul_le_mul ha hb
theorem pTo_le {M : Mtx Int} {p : List Nat} {B : Nat} (h : ∀ k, k < p.length → (M k (p.getD k 0)).natAbs ≤ B) : ∀ k, k ≤ p.length → (pTo M p k).natAbs ≤ B ^ k
  | 0, _ => by simp [pTo]
  | k + 1, hk => by
    rw [Nat.pow_succ]
    exact abs_mul_le (pTo_le h k (by omega)) (h k (by omega))
theorem pow_small {B k n : Nat} (hB : B ≤ 100) (hk : k ≤ n) (hn : n ≤ 6) : B ^ k ≤ 1000000000000 := by
  calc B ^ k ≤ 100 ^ k := Nat.pow_le_pow_left hB k
    _ ≤ 100 ^ 6 := Nat.pow_le_pow_right (by omega) (by omega)
    _ = 1000000000000 := by decide
theorem wrap_wrap_add (a b : Int) : wrap64 (wrap64 a + b) = wrap64 (a + b) := by
  unfold wrap64
  omega
def termI (M : Mtx Int) (p : List Nat) : Int := sg (invL p) * prodP M 0 p
def stepI (M : Mtx Int) (s : Int) (p : List Nat) : Int := wrap64 (s + termI M p)
theorem foldl_stepI (M : Mtx Int) : ∀ (l : List (List Nat)) (s : Int), l.foldl (stepI M) (wrap64 s) = wrap64 (s + sumLR (l.map (termI M)))
  | [], s => by
    show wrap64 s = wrap64 (s + 0)
    rw [Int.add_zero]
  | p :: t, s => by
    show t.foldl (stepI M) (wrap64 (wrap64 s + termI M p)) = wrap64 (s + (termI M p + _))
    rw [wrap_wrap_add, foldl_stepI M t, Int.add_assoc]
theorem grownBy_set1 (w : World) (b i : Nat) (v : Value) : w.grownBy (w.setCell ⟨b, i, none⟩ v) (some b) :=
  ⟨rfl, rfl, rfl, by simp, fun k _ hk => Below.heap_setCell w _ v k (fun e => hk (by rw [e]))⟩
theorem natAbs_sum_le {B : Nat} {f : Nat → Int} : ∀ {n : Nat}, (∀ i, i < n → (f i).natAbs ≤ B) → (CR.sumN n f).natAbs ≤ n * B
  | 0, _ => by simp [CR.sumN_zero]
  | n + 1, h => by
    rw [CR.sumN_succ]
    have h1 := natAbs_sum_le (n := n) fun i hi => h i (by omega)
    have h2 := h n (by omega)
    have h3 := Int.natAbs_add_le (CR.sumN n f) (f n)
    rw [Nat.add_one_mul]
    exact Nat.le_trans h3 (by omega)
theorem detR_le {B : Nat} : ∀ (n : Nat) (M : Mtx Int), (∀ i, i < n → ∀ j, j < n → (M i j).natAbs ≤ B) → (detR n M).natAbs ≤ fct n * B ^ n
  | 0, M, _ => by simp [detR, fct]
  | n + 1, M, h => by
    have := natAbs_sum_le (B := B * (fct n * B ^ n)) (n := n + 1) (f := fun j => CR.sgR Int j * (M 0 j * detR n fun a b => M (a + 1) (CR.skip j b))) (fun j hj => by
      have h1 : (CR.sgR Int j).natAbs ≤ 1 := by unfold CR.sgR; split <;> decide
      have h2 := abs_mul_le (h 0 (by omega) j hj) (detR_le n (fun a b => M (a + 1) (CR.skip j b)) fun a ha b hb => h _ (by omega) _ (skip_lt hb))
      have h3 := abs_mul_le h1 h2
      rwa [Nat.one_mul] at h3)
    refine Nat.le_trans this (Nat.le_of_eq ?_)
    show _ = (n + 1) * fct n * B ^ (n + 1)
    rw [Nat.pow_succ]
    ac_rfl

/-- A square matrix that came in before w0 was as it is. -/
structure DJ (w0 : World) (g bm : Nat) (A : Option Addr) (n c : Nat) (s : Int) (w : World) : Prop where
  below : Below w0.heap.size w0 w
  sum : Blk w g 3 #[.int .i64 s]
  box : Blk w bm 74 #[.slice A n c]
  val : ∃ z, s = wrap64 z

end Go.Proofs.Ytldfnfhommbokaa
/- A row stored into a block: what lies elsewhere stays. -/
namespace Go.Proofs.Ytldfnfhommbokaa
set_option linter.unusedVariables false
set_option linter.unusedSimpArgs false
open Go.RowKit

theorem SL.setRow_ {w : World} {A : Option Addr} {n c : Nat} {xs : List Int} (h : SL w A n c xs) {b : Nat} (hb : 0 < n → ∀ ad, A = some ad → ad.block ≠ b) (cs : Array Value) : SL (w.setRow b cs) A n c xs :=
  ⟨⟨h.il.len, h.il.small, fun hn => by
    obtain ⟨ad, e, hl, hc⟩ := h.il.mem hn
    refine ⟨ad, e, by simpa using hl, fun j hj => ?_⟩
    rw [← hc j hj]
    exact cell_setRow_other w b cs (ad.add j) (by rw [block_of_add]; exact hb hn ad e)⟩, h.nil, h.cap⟩
theorem Below.setRow_ {B g : Nat} {w0 w : World} (hb : Below B w0 w) (hBg : B ≤ g) (cs : Array Value) : Below B w0 (w.setRow g cs) :=
  ⟨hb.os, hb.tape, hb.output, by simpa using hb.size, fun k hk => (setRow_other _ _ _ _ (by omega)).trans (hb.block k hk)⟩
end Go.Proofs.Ytldfnfhommbokaa
/- The state of timbkeep1.PolyDetRows: two matrices, two rows, a polynomial and the diagonal's product. -/
namespace Go.Proofs.Ytldfnfhommbokaa
set_option linter.unusedVariables false
set_option linter.unusedSimpArgs false
open Go.RowKit

abbrev O6 (M T C E : Option Addr) (g : Nat) (p : Option Nat) : List (Option Nat) := [ob M, ob T, ob C, ob E, some g, p]
structure J4 (g base : Nat) (p : Option Nat) (w : World) (M T C E : Option Addr) (rm rt jc je mc tc cc ec : Nat) (vm vt vc ve : List Value) (xm xt : List (List Po)) (xc xe : List Po) (D : Option Addr) (dn dd : Nat) (dl : Int) (ds : List Int) : Prop where
  bm : BldO (Fr (O6 M T C E g p)) (QS QP 2) 41 1 base w M rm mc vm xm
  bt : BldO (Fr (O6 M T C E g p)) (QS QP 2) 41 1 base w T rt tc vt xt
  bc : BldO (Fr (O6 M T C E g p)) QP 45 2 base w C jc cc vc xc
  be : BldO (Fr (O6 M T C E g p)) QP 45 2 base w E je ec ve xe
  dis : Dis w.heap.size (O6 M T C E g p)
  dg : Blk w g 45 #[.int .i64 dl, .slice D dn dd]
  ds : SLK (fun b => Fr (O6 M T C E g p) b ∧ b < w.heap.size) w D dn dd ds
section
variable {g base : Nat} {p : Option Nat} {w w' : World} {M T C E : Option Addr} {rm rt jc je mc tc cc ec : Nat} {vm vt vc ve : List Value} {xm xt : List (List Po)} {xc xe : List Po} {D : Option Addr} {dn dd : Nat} {dl : Int} {ds : List Int}
theorem J4.to (h : J4 g base p w M T C E rm rt jc je mc tc cc ec vm vt vc ve xm xt xc xe D dn dd dl ds) (hb : Below w.heap.size w w') : J4 g base p w' M T C E rm rt jc je mc tc cc ec vm vt vc ve xm xt xc xe D dn dd dl ds :=
  ⟨h.bm.to QPs_ok hb, h.bt.to QPs_ok hb, h.bc.to QP_ok hb, h.be.to QP_ok hb, h.dis.up hb.size, h.dg.below hb h.dg.lt, (h.ds.keep ((SameK.below hb).mono fun b hb2 => hb2.2) hb.size).mono fun b hl hb2 => ⟨hb2.1, hl⟩⟩
theorem J4.stepC {vs : List Value} {C9 : Option Addr} {c9 k : Nat} (h : J4 g base p w M T C E rm rt jc je mc tc cc ec vm vt vc ve xm xt xc xe D dn dd dl ds) (happ : AppG 45 2 w base C k cc vs C9 c9 w') : Step (O6 M T C E g p) (O6 M T C9 E g p) w w' (ob C) := Step.app (i := 2) h.dis rfl happ
theorem J4.stepE {vs : List Value} {E9 : Option Addr} {c9 k : Nat} (h : J4 g base p w M T C E rm rt jc je mc tc cc ec vm vt vc ve xm xt xc xe D dn dd dl ds) (happ : AppG 45 2 w base E k ec vs E9 c9 w') : Step (O6 M T C E g p) (O6 M T C E9 g p) w w' (ob E) := Step.app (i := 3) h.dis rfl happ
theorem J4.stepT {vs : List Value} {T9 : Option Addr} {c9 k : Nat} (h : J4 g base p w M T C E rm rt jc je mc tc cc ec vm vt vc ve xm xt xc xe D dn dd dl ds) (happ : AppG 41 1 w base T k tc vs T9 c9 w') : Step (O6 M T C E g p) (O6 M T9 C E g p) w w' (ob T) := Step.app (i := 1) h.dis rfl happ
/-- A polynomial more in the row. -/
theorem J4.addC {us : List Value} {C9 : Option Addr} {c9 : Nat} {y : Po} (h : J4 g base p w M T C E rm rt jc je mc tc cc ec vm vt vc ve xm xt xc xe D dn dd dl ds) (hl : us.length = 2) (hy : QP (fun b => Fr (O6 M T C E g p) b ∧ b < w.heap.size) w us y)
    (happ : AppG 45 2 w base C (jc + 1) cc (vc ++ us) C9 c9 w') : J4 g base p w' M T C9 E rm rt (jc + 1) je mc tc c9 ec vm vt (vc ++ us) ve xm xt (xc ++ [y]) xe D dn dd dl ds := by
  have hs : Step (O6 M T C E g p) (O6 M T C9 E g p) w w' (ob C) := Step.app (i := 2) h.dis rfl happ
  exact ⟨h.bm.step QPs_ok hs (h.dis.ne (i := 2) (j := 0) rfl rfl (by decide)), h.bt.step QPs_ok hs (h.dis.ne (i := 2) (j := 1) rfl rfl (by decide)), h.bc.addS QP_ok hs rfl hl hy happ, h.be.step QP_ok hs (h.dis.ne (i := 2) (j := 3) rfl rfl (by decide)), hs.dis, hs.blk h.dg (h.dis.ne (i := 2) (j := 4) rfl rfl (by decide) g rfl), h.ds.step hs⟩
theorem J4.addE {us : List Value} {E9 : Option Addr} {c9 : Nat} {y : Po} (h : J4 g base p w M T C E rm rt jc je mc tc cc ec vm vt vc ve xm xt xc xe D dn dd dl ds) (hl : us.length = 2) (hy : QP (fun b => Fr (O6 M T C E g p) b ∧ b < w.heap.size) w us y)
    (happ : AppG 45 2 w base E (je + 1) ec (ve ++ us) E9 c9 w') : J4 g base p w' M T C E9 rm rt jc (je + 1) mc tc cc c9 vm vt vc (ve ++ us) xm xt xc (xe ++ [y]) D dn dd dl ds := by
  have hs : Step (O6 M T C E g p) (O6 M T C E9 g p) w w' (ob E) := Step.app (i := 3) h.dis rfl happ
  exact ⟨h.bm.step QPs_ok hs (h.dis.ne (i := 3) (j := 0) rfl rfl (by decide)), h.bt.step QPs_ok hs (h.dis.ne (i := 3) (j := 1) rfl rfl (by decide)), h.bc.step QP_ok hs (h.dis.ne (i := 3) (j := 2) rfl rfl (by decide)), h.be.addS QP_ok hs rfl hl hy happ, hs.dis, hs.blk h.dg (h.dis.ne (i := 3) (j := 4) rfl rfl (by decide) g rfl), h.ds.step hs⟩
theorem J4.stepM {vs : List Value} {M9 : Option Addr} {c9 k : Nat} (h : J4 g base p w M T C E rm rt jc je mc tc cc ec vm vt vc ve xm xt xc xe D dn dd dl ds) (happ : AppG 41 1 w base M k mc vs M9 c9 w') : Step (O6 M T C E g p) (O6 M9 T C E g p) w w' (ob M) := Step.app (i := 0) h.dis rfl happ
theorem J4.addM {us : List Value} {M9 : Option Addr} {c9 : Nat} {y : List Po} (h : J4 g base p w M T C E rm rt jc je mc tc cc ec vm vt vc ve xm xt xc xe D dn dd dl ds) (hl : us.length = 1) (hy : QS QP 2 (fun b => Fr (O6 M T C E g p) b ∧ b < w.heap.size) w us y)
    (happ : AppG 41 1 w base M (rm + 1) mc (vm ++ us) M9 c9 w') : J4 g base p w' M9 T C E (rm + 1) rt jc je c9 tc cc ec (vm ++ us) vt vc ve (xm ++ [y]) xt xc xe D dn dd dl ds := by
  have hs := h.stepM happ
  exact ⟨h.bm.addS QPs_ok hs rfl hl hy happ, h.bt.step QPs_ok hs (h.dis.ne (i := 0) (j := 1) rfl rfl (by decide)), h.bc.step QP_ok hs (h.dis.ne (i := 0) (j := 2) rfl rfl (by decide)), h.be.step QP_ok hs (h.dis.ne (i := 0) (j := 3) rfl rfl (by decide)), hs.dis, hs.blk h.dg (h.dis.ne (i := 0) (j := 4) rfl rfl (by decide) g rfl), h.ds.step hs⟩
theorem J4.addT {us : List Value} {T9 : Option Addr} {c9 : Nat} {y : List Po} (h : J4 g base p w M T C E rm rt jc je mc tc cc ec vm vt vc ve xm xt xc xe D dn dd dl ds) (hl : us.length = 1) (hy : QS QP 2 (fun b => Fr (O6 M T C E g p) b ∧ b < w.heap.size) w us y)
    (happ : AppG 41 1 w base T (rt + 1) tc (vt ++ us) T9 c9 w') : J4 g base p w' M T9 C E rm (rt + 1) jc je mc c9 cc ec vm (vt ++ us) vc ve xm (xt ++ [y]) xc xe D dn dd dl ds := by
  have hs : Step (O6 M T C E g p) (O6 M T9 C E g p) w w' (ob T) := Step.app (i := 1) h.dis rfl happ
  exact ⟨h.bm.step QPs_ok hs (h.dis.ne (i := 1) (j := 0) rfl rfl (by decide)), h.bt.addS QPs_ok hs rfl hl hy happ, h.bc.step QP_ok hs (h.dis.ne (i := 1) (j := 2) rfl rfl (by decide)), h.be.step QP_ok hs (h.dis.ne (i := 1) (j := 3) rfl rfl (by decide)), hs.dis, hs.blk h.dg (h.dis.ne (i := 1) (j := 4) rfl rfl (by decide) g rfl), h.ds.step hs⟩
/-- The diagonal's product is stored. -/
theorem J4.put {D9 : Option Addr} {n9 d9 : Nat} {l9 : Int} {s9 : List Int} (h : J4 g base p w M T C E rm rt jc je mc tc cc ec vm vt vc ve xm xt xc xe D dn dd dl ds) (hs9 : SLK (fun b => Fr (O6 M T C E g p) b ∧ b < w.heap.size) w D9 n9 d9 s9) :
    J4 g base p ((w.setCell ⟨g, 0, none⟩ (.int .i64 l9)).setCell ⟨g, 1, none⟩ (.slice D9 n9 d9)) M T C E rm rt jc je mc tc cc ec vm vt vc ve xm xt xc xe D9 n9 d9 l9 s9 := by
  have hs : Step (O6 M T C E g p) (O6 M T C E g p) w ((w.setCell ⟨g, 0, none⟩ (.int .i64 l9)).setCell ⟨g, 1, none⟩ (.slice D9 n9 d9)) (some g) := Step.put h.dis (by simp) ((grownBy_set1 w g 0 _).trans (grownBy_set1 _ g 1 _))
  refine ⟨h.bm.step QPs_ok hs (h.dis.ne (i := 4) (j := 0) rfl rfl (by decide)), h.bt.step QPs_ok hs (h.dis.ne (i := 4) (j := 1) rfl rfl (by decide)), h.bc.step QP_ok hs (h.dis.ne (i := 4) (j := 2) rfl rfl (by decide)), h.be.step QP_ok hs (h.dis.ne (i := 4) (j := 3) rfl rfl (by decide)), hs.dis, ?_, hs9.step hs⟩
  have h2 := (h.dg.set_ 0 (.int .i64 l9)).set_ 1 (.slice D9 n9 d9)
  simpa using h2
/-- The polynomial's block is written. -/
theorem J4.putP {q : Nat} (h : J4 g base (some q) w M T C E rm rt jc je mc tc cc ec vm vt vc ve xm xt xc xe D dn dd dl ds) (hgr : w.grownBy w' (some q)) : J4 g base (some q) w' M T C E rm rt jc je mc tc cc ec vm vt vc ve xm xt xc xe D dn dd dl ds := by
  have hs : Step (O6 M T C E g (some q)) (O6 M T C E g (some q)) w w' (some q) := Step.put h.dis (by simp) hgr
  exact ⟨h.bm.step QPs_ok hs (h.dis.ne (i := 5) (j := 0) rfl rfl (by decide)), h.bt.step QPs_ok hs (h.dis.ne (i := 5) (j := 1) rfl rfl (by decide)), h.bc.step QP_ok hs (h.dis.ne (i := 5) (j := 2) rfl rfl (by decide)), h.be.step QP_ok hs (h.dis.ne (i := 5) (j := 3) rfl rfl (by decide)), hs.dis, hs.blk h.dg (h.dis.ne (i := 5) (j := 4) rfl rfl (by decide) g rfl), h.ds.step hs⟩
/-- Another list of blocks. -/
theorem J4.re {O : List (Option Nat)} {p' : Option Nat} (h : J4 g base p w M T C E rm rt jc je mc tc cc ec vm vt vc ve xm xt xc xe D dn dd dl ds) (hf : ∀ b, b < w.heap.size → Fr (O6 M T C E g p) b → Fr (O6 M T C E g p') b) (hd : Dis w.heap.size (O6 M T C E g p')) : J4 g base p' w M T C E rm rt jc je mc tc cc ec vm vt vc ve xm xt xc xe D dn dd dl ds :=
  ⟨h.bm.relax QPs_ok hf, h.bt.relax QPs_ok hf, h.bc.relax QP_ok hf, h.be.relax QP_ok hf, hd, h.dg, h.ds.mono fun b hl hb => ⟨hf b hl hb.1, hl⟩⟩
theorem J4.newP (h : J4 g base p w M T C E rm rt jc je mc tc cc ec vm vt vc ve xm xt xc xe D dn dd dl ds) (o : Obj) : J4 g base (some w.heap.size) (w.alloc o) M T C E rm rt jc je mc tc cc ec vm vt vc ve xm xt xc xe D dn dd dl ds := by
  have hb : Below w.heap.size w (w.alloc o) := (Below.refl _ _).alloc (Nat.le_refl _) o
  have hd : Dis (w.alloc o).heap.size (O6 M T C E g (some w.heap.size)) := by
    rw [World.size_alloc]; exact h.dis.fresh (i := 5)
  have hf : ∀ b, b < w.heap.size → Fr (O6 M T C E g p) b → Fr (O6 M T C E g (some w.heap.size)) b := fun b hl hb => Fr.fresh (i := 5) hb hl
  have hsz := hb.size
  exact ⟨((h.bm.relax QPs_ok hf)).to QPs_ok hb, (h.bt.relax QPs_ok hf).to QPs_ok hb, (h.bc.relax QP_ok hf).to QP_ok hb, (h.be.relax QP_ok hf).to QP_ok hb, hd, h.dg.below hb h.dg.lt, (h.ds.keep ((SameK.below hb).mono fun b hb2 => hb2.2) hb.size).mono fun b hl hb2 => ⟨hf b hb2.2 hb2.1, hl⟩⟩
theorem J4.dropP (h : J4 g base p w M T C E rm rt jc je mc tc cc ec vm vt vc ve xm xt xc xe D dn dd dl ds) : J4 g base none w M T C E rm rt jc je mc tc cc ec vm vt vc ve xm xt xc xe D dn dd dl ds :=
  h.re (O := []) (fun b _ hb => Fr.drop (i := 5) hb) (Dis.drop (i := 5) h.dis)
/-- The rows are finished. -/
theorem J4.close (h : J4 g base p w M T C E rm rt jc je mc tc cc ec vm vt vc ve xm xt xc xe D dn dd dl ds) :
    J4 g base p w M T none none rm rt 0 0 mc tc 0 0 vm vt [] [] xm xt [] [] D dn dd dl ds ∧ RdS QP 2 (fun b => Fr (O6 M T none none g p) b ∧ b < w.heap.size) w C jc cc xc ∧ RdS QP 2 (fun b => Fr (O6 M T none none g p) b ∧ b < w.heap.size) w E je ec xe := by
  have hf : ∀ b, b < w.heap.size → Fr (O6 M T C E g p) b → Fr (O6 M T none none g p) b := fun b _ hb => Fr.drop (i := 3) (Fr.drop (i := 2) hb)
  have hd1 : Dis w.heap.size (O6 M T none E g p) := Dis.drop (i := 2) h.dis
  have hd2 : Dis w.heap.size (O6 M T C none g p) := Dis.drop (i := 3) h.dis
  have hd : Dis w.heap.size (O6 M T none none g p) := Dis.drop (i := 3) hd1
  refine ⟨⟨h.bm.relax QPs_ok hf, h.bt.relax QPs_ok hf, BldO.start _ _ _ _ _ _, BldO.start _ _ _ _ _ _, hd, h.dg, h.ds.mono fun b hl hb => ⟨hf b hl hb.1, hl⟩⟩, ?_, ?_⟩
  · refine h.bc.rdK QP_ok (by omega) (fun b hl hb => ⟨hf b hl hb, hl⟩) fun k hk => ?_
    have hk2 := hk
    rw [ob_own] at hk2
    exact ⟨Fr.dropped (i := 2) hd2 rfl hk2, (h.bc.own.lt k hk).2⟩
  · refine h.be.rdK QP_ok (by omega) (fun b hl hb => ⟨hf b hl hb, hl⟩) fun k hk => ?_
    have hk2 := hk
    rw [ob_own] at hk2
    exact ⟨Fr.dropped (i := 3) hd1 rfl hk2, (h.be.own.lt k hk).2⟩
end
theorem J4.start {w : World} {g base : Nat} {D : Option Addr} {dn dd : Nat} {dl : Int} {ds : List Int} (hg : Blk w g 45 #[.int .i64 dl, .slice D dn dd]) (hs : SL w D dn dd ds) (hne : ∀ ad, D = some ad → ad.block ≠ g) :
    J4 g base none w none none none none 0 0 0 0 0 0 0 0 [] [] [] [] [] [] [] [] D dn dd dl ds := by
  refine ⟨BldO.start _ _ _ _ _ _, BldO.start _ _ _ _ _ _, BldO.start _ _ _ _ _ _, BldO.start _ _ _ _ _ _, ⟨fun o ho k e => ?_, ?_⟩, hg, hs, fun hn ad e => ⟨fun o ho e2 => ?_, hs.inside hn ad e⟩⟩
  · simp [ob] at ho
    rcases ho with rfl | rfl | rfl
    · cases e
    · injection e with e; subst e; exact hg.lt
    · cases e
  · simp [ob]
  · simp [ob] at ho
    rcases ho with rfl | rfl | rfl
    · cases e2
    · injection e2 with e2; exact hne ad e e2.symm
    · cases e2
theorem grownBy_setRow (w : World) (g : Nat) (cs : Array Value) : w.grownBy (w.setRow g cs) (some g) := by
  have hs : w.heap.size ≤ (w.setRow g cs).heap.size := (Below.setRow_ (Below.refl 0 w) (Nat.zero_le g) cs).size
  have hb := Below.setRow_ (Below.refl 0 w) (Nat.zero_le g) cs
  exact ⟨hb.os, hb.tape, hb.output, hs, fun k _ hk => setRow_other w g k cs (fun e => hk (by rw [e]))⟩
theorem SL.cut0 {w : World} {A : Option Addr} {n c h : Nat} {xs : List Int} (ha : SL w A n c xs) (hh : h ≤ n) : SL w (cutA A 0 c) (h - 0) (c - 0) (xs.take h) := by
  have h1 := ha.il.cut (l := 0) (h := h) (by omega) hh ha.cap
  rw [List.drop_zero, Nat.sub_zero] at h1
  exact ⟨h1, fun e => cutA_none (fun e2 => by have := ha.nil e2; exact this) (by omega) hh e, by have := ha.cap; omega⟩
theorem cells_two {w : World} {g : Nat} {t : TypeId} {u v : Value} (h : Blk w g t #[u, v]) : ∀ j x, [u, v][j]? = some x → w.cell? ((⟨g, 0, none⟩ : Addr).add j) = some x := by
  intro j x hx
  have h0 := h.cell 0
  have h1 := h.cell 1
  simp at h0 h1
  rcases j with _ | _ | j
  · simp at hx; subst hx; simpa [Addr.add] using h0
  · simp at hx; subst hx; simpa [Addr.add] using h1
  · simp at hx
end Go.Proofs.Ytldfnfhommbokaa
