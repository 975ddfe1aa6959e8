/- Several texts in one. -/
import Derived.Test.YtoaiblhlpdaeoaaPart8
import Derived.Deep.RegionWith
import Derived.Test.YtoaiblhlpdaeoaaPart1
import Derived.Test.YtoaiblhlpdaeoaaBase1
import Derived.Lib.SliceRun
import Derived.Test.YtoaiblhlpdaeoaaPart2
import Derived.Test.YtoaiblhlpdaeoaaPart3
import Derived.Laws.EntriesVeiled
/- Package braid: identity; the matrix as the call builds it. -/
namespace Go.Proofs.Ytoaiblhlpdaeoaa
set_option linter.unusedVariables false
set_option linter.unusedSimpArgs false
open Go.RowKit

theorem bu_snoc {n : Nat} {w : List Int} {x : Int} (hx : x ≠ 0) (hxn : x.natAbs < n) {r c : Nat} (hr : r < n) (hc : c < n) : bu n (w ++ [x]) r c = stepR x (bu n w r) c := by
  have h1 : bu n (w ++ [x]) r c = mulM n (bu n w) (bl x) r c := by
    rw [bu_append n w [x] r hr c hc]
    exact ((EqM.refl n _).mul (EqM.mul_one n (bl x))) r hr c hc
  rw [h1]
  show CR.sumN n (fun k => bu n w r k * bl x k c) = _
  generalize bu n w r = Y
  unfold stepR e00 e01 e10 e11 bl
  obtain ⟨a, ha⟩ : ∃ a, x.natAbs = a := ⟨_, rfl⟩
  have ha1 : 1 ≤ a := by omega
  rw [ha] at hxn ⊢
  by_cases c1 : c + 1 = a
  · rw [if_pos c1, sumN_two (a := c) (b := c + 1) hc (by omega) (by omega) (fun i _ h3 h4 => by
      rw [if_neg (by omega), if_neg (by omega), if_neg (by omega), CR.mul_zero])]
    simp only [if_pos c1, if_neg (show ¬ c + 1 + 1 = a by omega), if_true, if_neg (show ¬ c = c + 1 by omega)]
  · rw [if_neg c1]
    by_cases c2 : c = a
    · rw [if_pos c2, sumN_two (a := c - 1) (b := c) (by omega) hc (by omega) (fun i _ h3 h4 => by
        rw [if_neg (by omega), if_neg (by omega), if_neg (by omega), CR.mul_zero])]
      have e1 : c - 1 + 1 = c := by omega
      simp only [e1, if_pos c2, if_neg c1, if_true, if_neg (show ¬ c = c - 1 by omega), if_neg (show ¬ c + 1 = c by omega)]
    · rw [if_neg c2, CR.sumN_single (k := c) hc (fun i _ h3 => ?_)]
      · rw [if_neg c1, if_neg c2, if_pos rfl, CR.mul_one]
      · by_cases h4 : i + 1 = a
        · rw [if_pos h4]
          simp only [if_neg (show ¬ c = i by omega), if_neg (show ¬ c = i + 1 by omega)]
          split <;> exact CR.mul_zero _
        · by_cases h5 : i = a
          · rw [if_neg h4, if_pos h5]
            simp only [if_neg (show ¬ c + 1 = i by omega), if_neg (show ¬ c = i by omega)]
            split <;> exact CR.mul_zero _
          · rw [if_neg h4, if_neg h5, if_neg h3, CR.mul_zero]

theorem RowB.grown {w w' : World} {g g' n : Nat} {K : Nat → Prop} {X : Nat → LP} (h : RowB w g n K X) (hg : w.grownBy w' (some g')) (hne : g' ≠ g) (hK : ∀ b, K b → b ≠ g') : RowB w' g n K X :=
  ((h.mono (K' := fun b => b < w.heap.size ∧ K b) fun b hl hb => ⟨hl, hb⟩).keep (fun b hb => by
    rcases hb with rfl | ⟨hl, hb⟩
    · exact hg.block b h.lt (fun e => hne (by injection e with e; exact e.symm))
    · exact hg.block b hl (fun e => hK b hb (by injection e))) hg.size).mono fun b _ hb => hb.2
/-- None of the blocks of the matrix. -/
def FreB (go : Nat) (gr : Nat → Nat) (k : Nat) (b : Nat) : Prop := b ≠ go ∧ ∀ i, i < k → gr i ≠ b
/-- The first k rows of a matrix. -/
structure MatB (w : World) (base go n : Nat) (gr : Nat → Nat) (k : Nat) (X : Mtx LP) : Prop where
  blk : ∃ cs, Blk w go 58 cs
  out : ∀ i, i < k → w.cell? ⟨go, i, none⟩ = some (.slice (some ⟨gr i, 0, none⟩) n n)
  row : ∀ i, i < k → RowB w (gr i) n (FreB go gr k) (X i)
  ne : ∀ i, i < k → gr i ≠ go
  inj : ∀ i j, i < k → j < k → gr i = gr j → i = j
  base_le : base ≤ go ∧ ∀ i, i < k → base ≤ gr i
theorem MatB.lt {w : World} {base go n : Nat} {gr : Nat → Nat} {k : Nat} {X : Mtx LP} (h : MatB w base go n gr k X) : go < w.heap.size := by
  obtain ⟨cs, hc⟩ := h.blk
  exact hc.lt
theorem MatB.fresh {w : World} {base go n : Nat} {gr : Nat → Nat} {k : Nat} {X : Mtx LP} (h : MatB w base go n gr k X) : ∀ b, w.heap.size ≤ b → FreB go gr k b := fun b hb =>
  ⟨fun e => by have := h.lt; omega, fun i hi e => by have := (h.row i hi).lt; omega⟩
/-- A row has changed. -/
theorem MatB.chg {w w' : World} {base go n : Nat} {gr : Nat → Nat} {k : Nat} {X Y : Mtx LP} (h : MatB w base go n gr k X) {r : Nat} (hr : r < k) (hg : w.grownBy w' (some (gr r))) (hrow : RowB w' (gr r) n (FreB go gr k) (Y r)) (hY : ∀ i, i < k → i ≠ r → ∀ c, c < n → X i c = Y i c) : MatB w' base go n gr k Y := by
  have hgo : w'.heap[go]? = w.heap[go]? := hg.block go h.lt (fun e => h.ne r hr (by injection e with e; exact e.symm))
  refine ⟨?_, fun i hi => ?_, fun i hi => ?_, h.ne, h.inj, h.base_le⟩
  · obtain ⟨cs, hc⟩ := h.blk
    exact ⟨cs, hgo.trans hc⟩
  · rw [← h.out i hi]
    exact World.cell?_of_block (w := w) (a := ⟨go, i, none⟩) hgo
  · by_cases e : i = r
    · subst e; exact hrow
    · exact ((h.row i hi).grown hg (fun e2 => e (h.inj i r hi hr e2.symm)) (fun b hb e2 => hb.2 r hr e2.symm)).congr (hY i hi e)
theorem MatB.below {w w' : World} {base go n : Nat} {gr : Nat → Nat} {k : Nat} {X : Mtx LP} (h : MatB w base go n gr k X) (hb : Below w.heap.size w w') : MatB w' base go n gr k X := by
  refine ⟨?_, fun i hi => ?_, fun i hi => (h.row i hi).below hb, h.ne, h.inj, h.base_le⟩
  · obtain ⟨cs, hc⟩ := h.blk
    exact ⟨cs, hc.below hb hc.lt⟩
  · rw [← h.out i hi]
    exact hb.cell (p := ⟨go, i, none⟩) h.lt
theorem MatB.congr {w : World} {base go n : Nat} {gr : Nat → Nat} {k : Nat} {X Y : Mtx LP} (h : MatB w base go n gr k X) (hY : ∀ i, i < k → ∀ c, c < n → X i c = Y i c) : MatB w base go n gr k Y :=
  ⟨h.blk, h.out, fun i hi => (h.row i hi).congr (hY i hi), h.ne, h.inj, h.base_le⟩
/-- All rows: a matrix as its readers want it. -/
theorem RowB.spo {w : World} {g n : Nat} {K : Nat → Prop} {X : Nat → LP} (h : RowB w g n K X) (hn : n ≤ 1000) (hR : ∀ j, j < n → LP.Rt (X j)) : SPo w (some ⟨g, 0, none⟩) n n ((List.range n).map fun j => cP (X j)) := by
  refine ⟨by simp, by omega, fun e => (by cases e), Nat.le_refl _, fun h0 => ⟨_, rfl, h.lt, fun j hj => ?_⟩⟩
  obtain ⟨B, m, d, h1, h2, h3⟩ := h.at_ j hj
  have e1 : ((List.range n).map fun j => cP (X j)).getD j (0, []) = cP (X j) := by simp [List.getD, hj]
  have e2 : (⟨g, 0, none⟩ : Addr).add (j * 2) = ⟨g, j * 2, none⟩ := by unfold Addr.add; split <;> simp_all
  rw [e1, e2]
  exact ⟨B, m, d, h1, h2, h3.sl, (hR j hj).wf⟩
theorem MatB.spp {w : World} {base go n : Nat} {gr : Nat → Nat} {X : Mtx LP} (h : MatB w base go n gr n X) (hn : n ≤ 1000) (hR : ∀ i, i < n → ∀ j, j < n → LP.Rt (X i j)) : SPP w (some ⟨go, 0, none⟩) n n ((List.range n).map fun i => (List.range n).map fun j => cP (X i j)) := by
  refine ⟨by simp, by omega, fun e => (by cases e), Nat.le_refl _, fun h0 => ⟨_, rfl, h.lt, fun i hi => ?_⟩⟩
  have e1 : ((List.range n).map fun i => (List.range n).map fun j => cP (X i j)).getD i [] = (List.range n).map fun j => cP (X i j) := by simp [List.getD, hi]
  have e2 : (⟨go, 0, none⟩ : Addr).add i = ⟨go, i, none⟩ := by unfold Addr.add; split <;> simp_all
  rw [e1, e2]
  exact ⟨_, _, _, h.out i hi, (h.row i hi).spo hn (hR i hi)⟩
/-- A new row of zeros. -/
theorem RowB.zero {w : World} {base g n : Nat} {K : Nat → Prop} (h : w.ownsRow base 54 2 (.slice (some ⟨g, 0, none⟩) n n) n (madeCells #[.int .i64 0, .slice none 0 0] (n * 2)).toList) (hn : n ≤ 1000) : RowB w g n K (fun _ => 0) := by
  have ho : OwnG 54 2 w base (some ⟨g, 0, none⟩) n n (madeCells #[.int .i64 0, .slice none 0 0] (n * 2)).toList := ⟨h, by omega⟩
  obtain ⟨cs, _, hc⟩ := ho.cells g rfl
  refine ⟨⟨cs, hc⟩, fun j hj => ⟨none, 0, 0, ?_, ?_, ?_⟩⟩
  · show w.cell? _ = some (.int .i64 (LP.canon 0).1)
    rw [ho.cellAt (by omega), canon_zero, Array.getElem?_toList]
    unfold madeCells
    simp [show j * 2 < n * 2 by omega]
  · rw [ho.cellAt (by omega), Array.getElem?_toList]
    unfold madeCells
    simp [show j * 2 + 1 < n * 2 by omega]
  · show SLK K w none 0 0 (LP.canon 0).2
    rw [canon_zero]
    exact ⟨SL.nil_ _, fun h0 => absurd h0 (by omega)⟩
end Go.Proofs.Ytoaiblhlpdaeoaa
/- slices.IndexFunc and slices.DeleteFunc of integers, with a function that only answers. -/
namespace Go.Proofs.Ytoaiblhlpdaeoaa
set_option linter.unusedVariables false
set_option linter.unusedSimpArgs false
open Go.RowKit

set_option maxRecDepth 100000 in
set_option maxHeartbeats 2000000 in
theorem intIndex_any {fid : FuncId} {caps : List Value} (f : Int → Bool) (hfid : ∀ args w, (callFunc fid args).run Try.prog w = .ok (.enter fid args) w) (A : Option Addr) (n c : Nat) (xs : List Int) (w : World) (ha : IL w A n xs)
    (hf : ∀ x w, Calls Try.prog fid (.int .i64 x :: caps).toArray w fun e w' => e = .returned (.bool (f x)) ∧ w = w') :
    Calls Try.prog 88 #[.slice A n c, .func (.func fid) #[] caps.toArray] w fun e w' => ((e = .returned (.int .i64 (-1)) ∧ ∀ j, j < n → f (xs.getD j 0) = false) ∨ ∃ k : Nat, e = .returned (.int .i64 k) ∧ k < n ∧ f (xs.getD k 0) = true ∧ ∀ j, j < k → f (xs.getD j 0) = false) ∧ w = w' := by
  have hs := ha.small
  have HA := hide ha
  have HF := hide hf
  clear ha hf
  go_enter Try.func88, Try.ntmps88
  go_wp2
  go_loop [8] (fun i => ∃ k : Nat, k ≤ n ∧ i = .int .i64 k ∧ Hid (∀ j, j < k → f (xs.getD j 0) = false)) (fun i => n - (intOf i).toNat)
  case atStart => exact ⟨0, Nat.zero_le _, rfl, hide (fun j hj => absurd hj (by omega))⟩
  case round =>
    obtain ⟨k, hk, rfl, HN⟩ := hrel
    by_cases hlt : k < n
    · obtain ⟨ad, rfl, hc⟩ := HA.out.at_ hlt
      have HC := hide (HF.out (xs.getD k 0) w)
      by_cases hfk : f (xs.getD k 0) = true
      · have HY := hide hfk
        rw [hfk] at HC
        clear hfk
        go_wp2_with fail
        refine HC.out.mono ?_
        rintro e w1 ⟨rfl, rfl⟩
        go_wp2_with fail
        go_ret
        exact ⟨.inr ⟨k, rfl, hlt, HY.out, HN.out⟩, rfl⟩
      · have hfk' : f (xs.getD k 0) = false := by simpa using hfk
        have HN2 : Hid (∀ j, j < k + 1 → f (xs.getD j 0) = false) := hide (fun j hj => by
          by_cases e : j = k
          · rw [e]; exact hfk'
          · exact HN.out j (by omega))
        rw [hfk'] at HC
        clear hfk hfk'
        go_wp2_with fail
        refine HC.out.mono ?_
        rintro e w1 ⟨rfl, rfl⟩
        go_wp2_with fail
        go_round
        case rel => exact ⟨k + 1, by omega, by go_num, HN2⟩
        case measure => simp [intOf]; omega
    · go_wp2_with fail
      go_ret
      exact ⟨.inl ⟨rfl, fun j hj => HN.out j (by omega)⟩, rfl⟩
theorem eIntIx : ∀ args w, (callFunc 88 args).run Try.prog w = .ok (.enter 88 args) w := enters (fn := Try.f88) (by kernel_rfl) (by kernel_rfl) (by kernel_rfl)
end Go.Proofs.Ytoaiblhlpdaeoaa
/- Package laurent: Check and small functions. -/
namespace Go.Proofs.Ytoaiblhlpdaeoaa
set_option linter.unusedVariables false
set_option linter.unusedSimpArgs false
open Go.RowKit

theorem eLarge : ∀ args w, (callFunc 119 args).run Try.prog w = .ok (.enter 119 args) w := enters (fn := Try.f119) (by kernel_rfl) (by kernel_rfl) (by kernel_rfl)
set_option maxRecDepth 100000 in
set_option maxHeartbeats 2000000 in
theorem large_any (x : Int) (w : World) :
    Calls Try.prog 119 #[.int .i64 x] w fun e w' => e = .returned (.bool (!LP.okC x)) ∧ w = w' := by
  by_cases h1 : x < -100000000
  · have HR : Hid ((!LP.okC x) = true) := hide (by unfold LP.okC; simp; omega)
    go_enter Try.func119, Try.ntmps119
    go_wp2_with fail
    go_ret
    rw [HR.out]
    exact ⟨rfl, rfl⟩
  by_cases h2 : 100000000 < x
  · have HR : Hid ((!LP.okC x) = true) := hide (by unfold LP.okC; simp; omega)
    go_enter Try.func119, Try.ntmps119
    go_wp2_with fail
    go_ret
    rw [HR.out]
    exact ⟨rfl, rfl⟩
  · have HR : Hid ((!LP.okC x) = false) := hide (by unfold LP.okC; simp; omega)
    go_enter Try.func119, Try.ntmps119
    go_wp2_with fail
    go_ret
    rw [HR.out]
    exact ⟨rfl, rfl⟩

set_option maxRecDepth 100000 in
set_option maxHeartbeats 2000000 in
/-- slices.ContainsFunc of integers, with a function that only answers. -/
theorem containsI_any {fid : FuncId} {caps : List Value} (f : Int → Bool) (hfid : ∀ args w, (callFunc fid args).run Try.prog w = .ok (.enter fid args) w) (A : Option Addr) (n c : Nat) (xs : List Int) (w : World) (ha : IL w A n xs)
    (hf : ∀ x w, Calls Try.prog fid (.int .i64 x :: caps).toArray w fun e w' => e = .returned (.bool (f x)) ∧ w = w') :
    Calls Try.prog 42 #[.slice A n c, .func (.func fid) #[] caps.toArray] w fun e w' => e = .returned (.bool (xs.any f)) ∧ w = w' := by
  have HL := hide ha.len
  have HI := hide (intIndex_any (caps := caps) f hfid A n c xs w ha hf)
  have e1 := eIntIx
  clear ha hf
  go_enter Try.func42, Try.ntmps42
  go_wp2_with fail
  refine HI.out.mono ?_
  rintro e w1 ⟨h | h, rfl⟩
  · obtain ⟨rfl, h⟩ := h
    have HB : Hid (xs.any f = false) := hide (by
      rw [List.any_eq_false]
      intro x hx
      obtain ⟨j, hj, rfl⟩ := List.mem_iff_getElem.1 hx
      have := h j (by rw [← HL.out]; exact hj)
      rw [show xs.getD j 0 = xs[j] by simp [List.getD, List.getElem?_eq_getElem hj]] at this
      simp [this])
    clear HI h
    go_wp2_with fail
    go_ret
    rw [HB.out]
    exact ⟨rfl, rfl⟩
  · obtain ⟨k, rfl, hk, hfk, _⟩ := h
    have HB : Hid (xs.any f = true) := hide (by
      rw [List.any_eq_true]
      have hj : k < xs.length := by rw [HL.out]; exact hk
      rw [show xs.getD k 0 = xs[k] by simp [List.getD, List.getElem?_eq_getElem hj]] at hfk
      exact ⟨xs[k], List.getElem_mem _, hfk⟩)
    clear HI hfk
    go_wp2_with fail
    go_ret
    rw [HB.out]
    exact ⟨rfl, rfl⟩
theorem eContI : ∀ args w, (callFunc 42 args).run Try.prog w = .ok (.enter 42 args) w := enters (fn := Try.f42) (by kernel_rfl) (by kernel_rfl) (by kernel_rfl)
theorem LP.any_large (xs : List Int) : (xs.any fun x => !okC x) = !xs.all okC := by rw [List.not_all_eq_any_not]

set_option maxRecDepth 100000 in
set_option maxHeartbeats 4000000 in
theorem lcheck_any (la : Int) (A : Option Addr) (n c : Nat) (xs : List Int) (w : World) (ha : SL w A n c xs) :
    Calls Try.prog 84 #[PV la A n c] w fun e w' => e = .returned (.int .i64 (LP.pfl la xs)) ∧ Below w.heap.size w w' := by
  have hl := ha.il.len
  have hns := ha.il.small
  have hb0 : Below w.heap.size w (w.alloc (.cells #[.int .i64 la, .slice A n c] 54)) := (Below.refl _ _).alloc (Nat.le_refl _) _
  have HW := hide hb0
  have HA := hide (ha.below hb0)
  have hb1 := Blk.new w 54 #[.int .i64 la, .slice A n c]
  obtain ⟨w0, hw0⟩ : ∃ x, w.alloc (.cells #[.int .i64 la, .slice A n c] 54) = x := ⟨_, rfl⟩
  have HW0 := hide hw0
  rw [hw0] at HW HA hb1
  have B0 := hide hb1
  have hq0 := hb1.cell 0
  have hq1 := hb1.cell 1
  simp at hq0 hq1
  by_cases hbig : 200 < n ∨ 1000 < la ∨ la < -1000
  · have HP := hide (LP.pfl_big (lo := la) (xs := xs) (by omega))
    clear ha hl hb0 hb1
    by_cases h1 : 200 < n
    · go_enter Try.func84, Try.ntmps84
      go_upto_region 2 with fail
      clear hw0
      go_wp2_with fail
      go_ret
      rw [HP.out]
      exact ⟨rfl, HW.out⟩
    by_cases h2 : la < -1000
    · go_enter Try.func84, Try.ntmps84
      go_upto_region 2 with fail
      clear hw0
      go_wp2_with fail
      go_ret
      rw [HP.out]
      exact ⟨rfl, HW.out⟩
    · have h3 : 1000 < la := by omega
      go_enter Try.func84, Try.ntmps84
      go_upto_region 2 with fail
      clear hw0
      go_wp2_with fail
      go_ret
      rw [HP.out]
      exact ⟨rfl, HW.out⟩
  have hN : ¬ (200 < xs.length ∨ 1000 < la ∨ la < -1000) := by omega
  have h1 : n ≤ 200 := by omega
  have h2 : la ≤ 1000 := by omega
  have h3 : -1000 ≤ la := by omega
  have HCN := hide (containsI_any (fid := 119) (caps := []) (fun x => !LP.okC x) eLarge A n c xs w0 HA.out.il (fun x w => large_any x w))
  rw [LP.any_large] at HCN
  have ec := eContI
  by_cases h4 : n = 0
  · by_cases h5 : la = 0
    · have HP := hide (LP.pfl_loop hN (by omega))
      have hx : xs = [] := List.eq_nil_of_length_eq_zero (by omega)
      have HP2 : Hid (LP.pfl la xs = 0) := hide (by rw [HP.out, hx]; rfl)
      have HAL : Hid ((!xs.all LP.okC) = false) := hide (by rw [hx]; rfl)
      rw [HAL.out] at HCN
      clear ha hl hb0 hb1 HP hx HA hN HAL
      subst h4 h5
      go_enter Try.func84, Try.ntmps84
      go_upto_region 2 with fail
      clear hw0
      go_wp2_with fail
      refine HCN.out.mono ?_
      rintro e w1 ⟨rfl, rfl⟩
      go_wp2_with fail
      go_ret
      rw [HP2.out]
      exact ⟨rfl, HW.out⟩
    · have HP := hide (LP.pfl_bad hN (by omega))
      have hb : (la != 0) = true := by simpa using h5
      clear ha hl hb0 hb1 HA hN h5
      subst h4
      go_enter Try.func84, Try.ntmps84
      go_upto_region 2 with fail
      clear hw0
      go_wp2_with fail
      go_ret
      rw [HP.out]
      exact ⟨rfl, HW.out⟩
  · have b4 : ((n : Int) == 0) = false := by simp; omega
    have b5 : decide ((0 : Int) < n) = true := by simp; omega
    have hpos : 0 < n := by omega
    obtain ⟨ad, hA, hal, hac⟩ := HA.out.il.mem hpos
    subst hA
    have c0 := hac 0 hpos
    have cl := hac (n - 1) (by omega)
    obtain ⟨x0, hx0⟩ : ∃ x, xs.getD 0 0 = x := ⟨_, rfl⟩
    obtain ⟨xl, hxl⟩ : ∃ x, xs.getD (n - 1) 0 = x := ⟨_, rfl⟩
    rw [hx0] at c0
    have c0 : w0.cell? ad = some (.int .i64 x0) := by
      have e : ad.add 0 = ad := by cases ad; simp [Addr.add]
      rw [e] at c0; exact c0
    rw [hxl] at cl
    have hw1 : IntKind.i64.wrap ((n : Int) - 1) = ((n - 1 : Nat) : Int) := by rw [IntKind.wrap_i64]; omega
    obtain ⟨k1, hk1⟩ : ∃ k, n - 1 = k := ⟨_, rfl⟩
    rw [hk1] at cl hw1 hxl
    have hkn : k1 < n := by omega
    clear hb0 hb1 hac
    by_cases h6 : x0 = 0
    · have HP := hide (LP.pfl_bad hN (.inr ⟨by omega, .inl (by rw [hx0]; exact h6)⟩))
      subst h6
      clear ha hl hN hk1 cl hw1 hxl hkn hx0 HCN
      go_enter Try.func84, Try.ntmps84
      go_upto_region 2 with fail
      clear hw0
      go_wp2_with fail
      go_ret
      rw [HP.out]
      exact ⟨rfl, HW.out⟩
    have b6 : (x0 == 0) = false := by simpa using h6
    by_cases h7 : xl = 0
    · have HP := hide (LP.pfl_bad hN (.inr ⟨by omega, .inr (by rw [hl, hk1, hxl]; exact h7)⟩))
      subst h7
      clear ha hl hN hk1 hxl hx0 h6 HCN
      go_enter Try.func84, Try.ntmps84
      go_upto_region 2 with fail
      clear hw0
      go_wp2_with fail
      go_ret
      rw [HP.out]
      exact ⟨rfl, HW.out⟩
    have b7 : (xl == 0) = false := by simpa using h7
    have HP := hide (LP.pfl_loop hN (by rw [hx0, hl, hk1, hxl]; omega))
    clear ha hl hN hk1 hxl hx0 h6 h7
    obtain ⟨q, hq⟩ : ∃ q, xs.all LP.okC = q := ⟨_, rfl⟩
    rw [hq] at HP HCN
    clear hq
    go_enter Try.func84, Try.ntmps84
    go_upto_region 2 with fail
    clear hw0
    go_upto_region 6 with fail
    go_wp2_with fail
    refine HCN.out.mono ?_
    rintro e w1 ⟨rfl, rfl⟩
    cases q
    · go_wp2_with fail
      go_ret
      rw [HP.out]
      exact ⟨rfl, HW.out⟩
    · go_wp2_with fail
      go_ret
      rw [HP.out]
      exact ⟨rfl, HW.out⟩
end Go.Proofs.Ytoaiblhlpdaeoaa
/- Package laurent: the end of a polynomial, its coefficients as a function, both checks, what is accepted. -/
namespace Go.Proofs.Ytoaiblhlpdaeoaa
set_option linter.unusedVariables false
set_option linter.unusedSimpArgs false
open Go.RowKit

set_option maxRecDepth 100000 in
set_option maxHeartbeats 2000000 in
theorem endOf_any (la : Int) (A : Option Addr) (n c : Nat) (w : World) (h1 : la.natAbs ≤ 1000000) (h2 : n ≤ 1000000) :
    Calls Try.prog 130 #[PV la A n c] w fun e w' => e = .returned (.int .i64 (la + n)) ∧ w' = w.alloc (.cells #[.int .i64 la, .slice A n c] 54) := by
  have hw : IntKind.i64.wrap (la + (n : Int)) = la + n := by rw [IntKind.wrap_i64]; omega
  have hb1 := Blk.new w 54 #[.int .i64 la, .slice A n c]
  obtain ⟨w0, hw0⟩ : ∃ x, w.alloc (.cells #[.int .i64 la, .slice A n c] 54) = x := ⟨_, rfl⟩
  rw [hw0] at hb1
  have hq0 := hb1.cell 0
  have hq1 := hb1.cell 1
  simp at hq0 hq1
  clear hb1
  have HW0 := hide hw0
  go_enter Try.func130, Try.ntmps130
  go_upto_region 1 with fail
  clear hw0
  go_wp2_with fail
  go_ret
  exact ⟨rfl, HW0.out.symm⟩
theorem eEndOf : ∀ args w, (callFunc 130 args).run Try.prog w = .ok (.enter 130 args) w := enters (fn := Try.f130) (by kernel_rfl) (by kernel_rfl) (by kernel_rfl)

set_option maxRecDepth 100000 in
set_option maxHeartbeats 2000000 in
theorem coefficients_any (la : Int) (A : Option Addr) (n c : Nat) (w : World) :
    Calls Try.prog 128 #[PV la A n c] w fun e w' => e = .returned (.func (.func 133) #[] #[.pointer (some ⟨w.heap.size, 0, none⟩)]) ∧ w' = w.alloc (.cells #[.int .i64 la, .slice A n c] 54) := by
  have hmf : ∀ (fn : Fn) (first cap : Array Value) (w : World), (Instr.makeFunc fn first cap).run Try.prog w = .ok (.func fn first cap) w := fun _ _ _ _ => rfl
  go_enter Try.func128, Try.ntmps128
  go_wp2_with fail
  go_ret
  exact ⟨rfl, rfl⟩
theorem eCoeffs : ∀ args w, (callFunc 128 args).run Try.prog w = .ok (.enter 128 args) w := enters (fn := Try.f128) (by kernel_rfl) (by kernel_rfl) (by kernel_rfl)
theorem eCoeff : ∀ args w, (callFunc 133 args).run Try.prog w = .ok (.enter 133 args) w := enters (fn := Try.f133) (by kernel_rfl) (by kernel_rfl) (by kernel_rfl)

set_option maxRecDepth 100000 in
set_option maxHeartbeats 2000000 in
theorem coeff_any (la : Int) (A : Option Addr) (n c : Nat) (xs : List Int) (b : Nat) (x : Int) (w : World) (ha : SL w A n c xs) (hb : Blk w b 54 #[.int .i64 la, .slice A n c]) (h1 : la.natAbs ≤ 1000000) (h2 : n ≤ 1000000) (h3 : x.natAbs ≤ 100000000) :
    Calls Try.prog 133 #[.int .i64 x, .pointer (some ⟨b, 0, none⟩)] w fun e w' => e = .returned (.int .i64 (LP.co (LP.of la xs) x)) ∧ Below w.heap.size w w' := by
  have hl := ha.il.len
  have HC : Hid (LP.co (LP.of la xs) x = if la ≤ x ∧ x < la + n then xs.getD (x - la).toNat 0 else 0) := hide (by rw [LP.co_of, hl])
  have hq0 := hb.cell 0
  have hq1 := hb.cell 1
  simp at hq0 hq1
  have HE := hide (endOf_any la A n c w h1 h2)
  have hbb : Below w.heap.size w (w.alloc (.cells #[.int .i64 la, .slice A n c] 54)) := (Below.refl _ _).alloc (Nat.le_refl _) _
  have HBB := hide hbb
  by_cases hlo : x < la
  · have HR : Hid (LP.co (LP.of la xs) x = 0) := hide (by rw [HC.out, if_neg (by omega)])
    have HB0 := hide (Below.refl w.heap.size w)
    clear ha hb HE hbb HBB HC
    go_enter Try.func133, Try.ntmps133
    go_wp2_with fail
    go_ret
    rw [HR.out]
    exact ⟨rfl, HB0.out⟩
  by_cases hhi : la + n ≤ x
  · have HR : Hid (LP.co (LP.of la xs) x = 0) := hide (by rw [HC.out, if_neg (by omega)])
    clear ha hb hbb HC
    go_enter Try.func133, Try.ntmps133
    go_wp2_with fail
    refine HE.out.mono ?_
    rintro e w1 ⟨rfl, rfl⟩
    have HBB1 := hide HBB.out
    clear HBB hq0 hq1
    generalize w.alloc (.cells #[.int .i64 la, .slice A n c] 54) = w1 at *
    go_wp2_with fail
    go_ret
    rw [HR.out]
    exact ⟨rfl, HBB1.out⟩
  · obtain ⟨k, hk⟩ : ∃ k : Nat, x = la + k := ⟨(x - la).toNat, by omega⟩
    have hkn : k < n := by omega
    have HR : Hid (LP.co (LP.of la xs) x = xs.getD k 0) := hide (by rw [HC.out, if_pos (by omega), show (x - la).toNat = k by omega])
    obtain ⟨ad, hA, hc⟩ := (ha.below hbb).il.at_ hkn
    have hq2 := (hb.below hbb hb.lt).cell 0
    have hq3 := (hb.below hbb hb.lt).cell 1
    simp at hq2 hq3
    have hw : IntKind.i64.wrap (la + (k : Int) - la) = k := by rw [IntKind.wrap_i64]; omega
    subst hA hk
    obtain ⟨y, hy⟩ : ∃ y, xs.getD k 0 = y := ⟨_, rfl⟩
    rw [hy] at hc HR
    clear hy
    have HC2 := hide hc
    have HQ2 := hide hq2
    have HQ3 := hide hq3
    clear ha hb hbb HC hc hq2 hq3
    go_enter Try.func133, Try.ntmps133
    go_wp2_with fail
    refine HE.out.mono ?_
    rintro e w1 ⟨rfl, rfl⟩
    have HBB1 := hide HBB.out
    clear HBB hq0 hq1
    have hc := HC2.out
    have hq2 := HQ2.out
    have hq3 := HQ3.out
    clear HC2 HQ2 HQ3
    generalize w.alloc (.cells #[.int .i64 la, .slice (some ad) n c] 54) = w1 at *
    go_wp2_with fail
    go_ret
    rw [HR.out]
    exact ⟨rfl, HBB1.out⟩

/-- The error of two polynomials. -/
def LP.pfl2 (la : Int) (xs : List Int) (lb : Int) (ys : List Int) : Int := if pfl la xs = 0 then pfl lb ys else pfl la xs
set_option maxRecDepth 100000 in
set_option maxHeartbeats 2000000 in
theorem checkBoth_any (la : Int) (A : Option Addr) (n c : Nat) (xs : List Int) (lb : Int) (B : Option Addr) (m d : Nat) (ys : List Int) (w : World) (ha : SL w A n c xs) (hb : SL w B m d ys) :
    Calls Try.prog 127 #[PV la A n c, PV lb B m d] w fun e w' => e = .returned (.int .i64 (LP.pfl2 la xs lb ys)) ∧ Below w.heap.size w w' := by
  have h1 : Below w.heap.size w ((w.alloc (.cells #[.int .i64 la, .slice A n c] 54)).alloc (.cells #[.int .i64 lb, .slice B m d] 54)) := ((Below.refl _ _).alloc (Nat.le_refl _) _).alloc (by simp) _
  have hB2 := Blk.new (w.alloc (.cells #[.int .i64 la, .slice A n c] 54)) 54 #[.int .i64 lb, .slice B m d]
  have HW := hide h1
  have HA := hide (lcheck_any la A n c xs _ (ha.below h1))
  have HBS := hide (hb.below h1)
  simp only [World.size_alloc] at hB2
  have HB2 := hide hB2
  clear ha hb hB2 h1
  go_enter Try.func127, Try.ntmps127
  go_upto_region 1 with fail
  obtain ⟨w0, hw0⟩ : ∃ x, ((w.alloc (.cells #[.int .i64 la, .slice A n c] 54)).alloc (.cells #[.int .i64 lb, .slice B m d] 54)) = x := ⟨_, rfl⟩
  have hB1 := (Blk.new w 54 #[.int .i64 la, .slice A n c]).alloc (.cells #[.int .i64 lb, .slice B m d] 54)
  rw [hw0] at HW HA HBS HB2 hB1 ⊢
  have hq0 := hB1.cell 0
  have hq1 := hB1.cell 1
  simp at hq0 hq1
  clear hw0 hB1
  go_wp2_with fail
  refine HA.out.mono ?_
  rintro e w1 ⟨rfl, hb⟩
  have HW1 := hide (HW.out.trans (hb.mono HW.out.size))
  have HB1 := hide (HBS.out.below hb)
  have hk := HB2.out.below hb HB2.out.lt
  have hr0 := hk.cell 0
  have hr1 := hk.cell 1
  simp at hr0 hr1
  obtain ⟨p, hp⟩ : ∃ p, LP.pfl la xs = p := ⟨_, rfl⟩
  have HP : Hid (LP.pfl2 la xs lb ys = if p = 0 then LP.pfl lb ys else p) := hide (by unfold LP.pfl2; rw [hp])
  rw [hp]
  clear hb HA HBS HB2 hq0 hq1 hk hp
  by_cases h0 : p = 0
  · subst h0
    go_wp2_with fail
    refine (lcheck_any lb B m d ys _ HB1.out).mono ?_
    rintro e w2 ⟨rfl, hb⟩
    have HW2 := hide (HW1.out.trans (hb.mono HW1.out.size))
    clear hb hr0 hr1
    go_wp2_with fail
    go_ret
    rw [HP.out, if_pos trivial]
    exact ⟨rfl, HW2.out⟩
  · have hne : (p != 0) = true := by simpa using h0
    go_wp2_with fail
    go_ret
    rw [HP.out, if_neg h0]
    exact ⟨rfl, HW1.out⟩

set_option maxRecDepth 100000 in
set_option maxHeartbeats 2000000 in
theorem accepted_any (la : Int) (A : Option Addr) (n c : Nat) (xs : List Int) (w : World) (ha : SL w A n c xs) :
    Calls Try.prog 134 #[PV la A n c] w fun e w' => ∃ B m d, e = .returned (.tuple #[PV (LP.fitL la xs).2.1 B m d, .int .i64 (LP.fitL la xs).1]) ∧ SL w' B m d (LP.fitL la xs).2.2 ∧ (0 < m → B = A ∧ m = n) ∧ Below w.heap.size w w' := by
  have hb1 := (Blk.new w 54 #[.int .i64 la, .slice A n c]).alloc (.cells #[.int .i64 0, .slice none 0 0] 54)
  have hb2 := Blk.new (w.alloc (.cells #[.int .i64 la, .slice A n c] 54)) 54 #[.int .i64 0, .slice none 0 0]
  have hbw : Below w.heap.size w ((w.alloc (.cells #[.int .i64 la, .slice A n c] 54)).alloc (.cells #[.int .i64 0, .slice none 0 0] 54)) := ((Below.refl _ _).alloc (Nat.le_refl _) _).alloc (by simp) _
  have HA := hide (ha.below hbw)
  have HW := hide hbw
  simp only [World.size_alloc] at hb2
  have B1 := hide hb1
  have B2 := hide hb2
  have hin := ha.inside
  clear hb1 hb2 hbw ha
  have HI := hide hin
  clear hin
  go_enter Try.func134, Try.ntmps134
  go_upto_region 1 with fail
  obtain ⟨w0, hw0⟩ : ∃ x, ((w.alloc (.cells #[.int .i64 la, .slice A n c] 54)).alloc (.cells #[.int .i64 0, .slice none 0 0] 54)) = x := ⟨_, rfl⟩
  rw [hw0] at HA HW B1 B2 ⊢
  clear hw0
  have l1 := B1.out.lt
  have l2 := B2.out.lt
  have hq0 := B1.out.cell 0
  have hq1 := B1.out.cell 1
  simp at hq0 hq1
  go_wp2_with fail
  refine (lcheck_any la A n c xs _ HA.out).mono ?_
  rintro e w1 ⟨rfl, hb⟩
  replace HA := hide (HA.out.below hb)
  replace HW := hide (HW.out.trans (hb.mono HW.out.size))
  replace B1 := hide (B1.out.below hb l1)
  replace B2 := hide (B2.out.below hb l2)
  clear hb hq0 hq1 l1 l2
  have l1 := B1.out.lt
  have l2 := B2.out.lt
  have hq0 := B1.out.cell 0
  have hq1 := B1.out.cell 1
  simp at hq0 hq1
  have hr0 := B2.out.cell 0
  have hr1 := B2.out.cell 1
  simp at hr0 hr1
  have hf0 := B2.out.frozen 0
  have hf1 := B2.out.frozen 1
  have HB0 := hide (Below.refl w.heap.size w)
  by_cases hp : LP.pfl la xs = 0
  · have HR : Hid (LP.fitL la xs = (0, la, xs)) := hide (by unfold LP.fitL; rw [if_pos hp])
    rw [hp]
    go_wp2_with fail
    refine bodyPost_ret (results_pe rfl _ rfl rfl ((B2.out.set_ 0 (.int .i64 la)).set_ 1 (.slice A n c))) rfl ?_
    rw [HR.out]
    refine ⟨A, n, c, rfl, ?_, fun _ => ⟨rfl, rfl⟩, ?_⟩
    · exact (HA.out.setCell (fun h ad e => by have := HI.out h ad e; omega) 0 _).setCell (fun h ad e => by have := HI.out h ad e; omega) 1 _
    · exact (HW.out.setCell (p := ⟨w.heap.size + 1, 0, none⟩) (by show w.heap.size ≤ w.heap.size + 1; omega) _).setCell (p := ⟨w.heap.size + 1, 1, none⟩) (by show w.heap.size ≤ w.heap.size + 1; omega) _
  · have HR : Hid (LP.fitL la xs = (2, 0, [])) := hide (by unfold LP.fitL; rw [if_neg hp])
    have hne : (LP.pfl la xs != 0) = true := by simpa using hp
    clear hp
    go_wp2_with fail
    refine bodyPost_ret (results_pe rfl _ rfl rfl ((B2.out.set_ 0 (.int .i64 0)).set_ 1 (.slice none 0 0))) rfl ?_
    rw [HR.out]
    refine ⟨none, 0, 0, rfl, SL.nil_ _, fun h => absurd h (by omega), ?_⟩
    exact (HW.out.setCell (p := ⟨w.heap.size + 1, 0, none⟩) (by show w.heap.size ≤ w.heap.size + 1; omega) _).setCell (p := ⟨w.heap.size + 1, 1, none⟩) (by show w.heap.size ≤ w.heap.size + 1; omega) _
end Go.Proofs.Ytoaiblhlpdaeoaa
/- Package laurent: trimmed. -/
namespace Go.Proofs.Ytoaiblhlpdaeoaa
set_option linter.unusedVariables false
set_option linter.unusedSimpArgs false
open Go.RowKit

/-- Both lie in the same block. -/
def SameBlk (A B : Option Addr) : Prop := ∃ ad ad', A = some ad ∧ B = some ad' ∧ ad'.block = ad.block
theorem SameBlk.new {w : World} {A B : Option Addr} {n m : Nat} (h : 0 < m → SameBlk A B) (hn : 0 < m → 0 < n) (hA : NewA w A n) : NewA w B m := fun hm ad e => by
  obtain ⟨a, b, e1, e2, e3⟩ := h hm
  rw [e] at e2
  injection e2 with e2
  rw [e2, e3]
  exact hA (hn hm) a e1

set_option maxRecDepth 100000 in
set_option maxHeartbeats 4000000 in
theorem trimmed_any (lo : Int) (A : Option Addr) (n c : Nat) (xs : List Int) (w : World) (ha : SL w A n c xs) (hlo : lo.natAbs ≤ 1000000) (hn : n ≤ 1000000) :
    Calls Try.prog 135 #[.int .i64 lo, .slice A n c] w fun e w' => ∃ B m d, e = .returned (PV (LP.canon (LP.of lo xs)).1 B m d) ∧ SL w' B m d (LP.canon (LP.of lo xs)).2 ∧ (0 < m → SameBlk A B) ∧ Below w.heap.size w w' := by
  have hln := ha.il.len
  have hcap := ha.cap
  have hin := ha.inside
  have HCAN : Hid (∀ l cs, LP.Cano l cs → LP.of l cs = LP.of lo xs → LP.canon (LP.of lo xs) = (l, cs)) := hide (fun lo cs h1 h2 => LP.canon_eq h1 h2)
  have HW0 : Hid (Below w.heap.size w (w.alloc (.cells #[.int .i64 0, .slice none 0 0] 54))) := hide ((Below.refl _ _).alloc (Nat.le_refl _) _)
  have HBK : Hid (Blk (w.alloc (.cells #[.int .i64 0, .slice none 0 0] 54)) w.heap.size 54 #[.int .i64 0, .slice none 0 0]) := hide (Blk.new _ _ _)
  have HSL := hide (ha.below HW0.out)
  have HIN := hide hin
  have hRL : Hid (xs.length = n) := hide hln
  clear ha hin
  generalize LP.canon (LP.of lo xs) = P at *
  go_enter Try.func135, Try.ntmps135
  go_upto_region 1 with fail
  obtain ⟨w0, hw0⟩ : ∃ x, w.alloc (.cells #[.int .i64 0, .slice none 0 0] 54) = x := ⟨_, rfl⟩
  rw [hw0] at HW0 HBK HSL ⊢
  clear hw0
  have hf0 := HBK.out.frozen 0
  have hf1 := HBK.out.frozen 1
  have hc0 := HBK.out.cell 0
  have hc1 := HBK.out.cell 1
  simp at hc0 hc1
  have hbw := HBK.out.lt
  go_loop [1] (fun cv => ∃ k : Nat, cv = .slice A k c ∧ k ≤ n ∧ Hid (∀ j, k ≤ j → j < n → xs.getD j 0 = 0)) (fun cv => lenV cv)
  case atStart => exact ⟨n, rfl, Nat.le_refl _, hide (fun j h1 h2 => absurd h2 (by omega))⟩
  case round =>
    obtain ⟨k, rfl, hk, HZT⟩ := hrel
    by_cases hk0 : k = 0
    · subst hk0
      have HP : Hid (P = (0, [])) := hide (HCAN.out 0 [] (.inl ⟨rfl, rfl⟩) (LP.of_zeros lo fun j hj => HZT.out j (Nat.zero_le _) (by rw [hRL.out] at hj; exact hj)))
      go_wp2_with fail
      refine wp_loop_rounds 1 ?_
      rw [rounds_succ]
      go_wp2_with fail
      refine bodyPost_ret (results_poly rfl _ rfl ((HBK.out.set_ 0 (.int .i64 0)).set_ 1 (.slice none 0 0))) rfl ?_
      rw [HP.out]
      exact ⟨none, 0, 0, rfl, SL.nil_ _, fun h => absurd h (by omega), (HW0.out.setCell (p := ⟨w.heap.size, 0, none⟩) (Nat.le_refl _) _).setCell (p := ⟨w.heap.size, 1, none⟩) (Nat.le_refl _) _⟩
    · obtain ⟨ad, hA, hcl⟩ := HSL.out.il.at_ (k := k - 1) (by omega)
      subst hA
      obtain ⟨y, hy⟩ : ∃ y, xs.getD (k - 1) 0 = y := ⟨_, rfl⟩
      rw [hy] at hcl
      have HY := hide hy
      have hmg2 : decide ((0 : Int) < (k : Int)) = true := decide_eq_true (by omega)
      have hp2 : ((k : Int) - 1).toNat = k - 1 := by omega
      clear hy
      by_cases hy0 : y = 0
      · have hye : (y == 0) = true := by simp [hy0]
        have HZT2 : Hid (∀ j, k - 1 ≤ j → j < n → xs.getD j 0 = 0) := hide (fun j h1 h2 => by
          by_cases e : j = k - 1
          · subst e; rw [HY.out]; exact hy0
          · exact HZT.out j (by omega) h2)
        clear hy0 HY
        go_wp2_with fail
        go_round
        case rel => exact ⟨k - 1, rfl, by omega, HZT2⟩
        case measure => simp [lenV]; omega
      · have hye : (y == 0) = false := by simpa using hy0
        have HE := hide (HSL.out.init_ (k := k) hk (by simp))
        have hab : ad.block < w.heap.size := HIN.out (by omega) ad rfl
        clear HSL
        go_wp2_with fail
        go_loop [0, 1] (fun lv cv => ∃ (i m d : Nat) (ad' : Addr), lv = .int .i64 (lo + i) ∧ cv = .slice (some ad') m d ∧ i + m = k ∧ SL w0 (some ad') m d ((xs.take k).drop i) ∧ ad'.block = ad.block ∧ 0 < m ∧ Hid (∀ j, j < i → xs.getD j 0 = 0)) (fun _ cv => lenV cv)
        case atStart => exact ⟨0, k, c, ad, by simp, rfl, by omega, by rw [List.drop_zero]; exact HE.out, rfl, by omega, hide (fun j hj => absurd hj (by omega))⟩
        case round =>
          clear HE hcl
          obtain ⟨i, m, d, ad', rfl, rfl, him, hsl, hblk, hm0, HZ⟩ := hrel
          have HSL := hide hsl
          have hmd := hsl.cap
          have HBLK := hide hblk
          clear hsl hblk
          obtain ⟨ad2, e2, hc⟩ := HSL.out.il.at_ (k := 0) hm0
          injection e2 with e2
          subst e2
          rw [show ad'.add 0 = ad' by unfold Addr.add; simp] at hc
          have hCi : ((xs.take k).drop i).getD 0 0 = xs.getD i 0 := by simp [List.getD, List.getElem?_take, show i < k by omega]
          rw [hCi] at hc
          have hmg : decide ((0 : Int) < (m : Int)) = true := decide_eq_true (by omega)
          obtain ⟨x, hx⟩ : ∃ x, xs.getD i 0 = x := ⟨_, rfl⟩
          rw [hx] at hc
          have HX := hide hx
          clear hx hCi
          by_cases hx0 : x = 0
          · have hxe : (x == 0) = true := by simp [hx0]
            have hm1 : 1 < m := by
              by_cases h : m = 1
              · have e1 := HY.out
                have e2 := HX.out
                rw [show k - 1 = i by omega, e2] at e1
                exact absurd (e1.symm.trans hx0) hy0
              · omega
            have hd1 : d ≠ 1 := by omega
            have HT : Hid (SL w0 (some ⟨ad'.block, ad'.off + 1, none⟩) (m - 1) (d - 1) ((xs.take k).drop (i + 1))) := hide (by
              have h := HSL.out.tail_ (by omega)
              rw [if_neg hd1] at h
              rwa [List.drop_drop] at h)
            have HZ2 : Hid (∀ j, j < i + 1 → xs.getD j 0 = 0) := hide (fun j hj => by
              by_cases e : j = i
              · subst e; rw [HX.out]; exact hx0
              · exact HZ.out j (by omega))
            clear hx0 HX hy0
            go_wp2_with fail
            go_round
            case rel => exact ⟨i + 1, m - 1, d - 1, _, by go_num, rfl, by omega, HT.out, HBLK.out, by omega, HZ2⟩
            case measure => simp [lenV]; omega
          · have hxe : (x == 0) = false := by simpa using hx0
            have hme : ((m : Int) == 0) = false := by simp; omega
            have hll : ((xs.take k).drop i).length = m := HSL.out.il.len
            have HP : Hid (P = (lo + i, (xs.take k).drop i)) := hide (HCAN.out _ _ (.inr ⟨fun e => by
              rw [e] at hll
              simp at hll
              omega, by
              rw [show ((xs.take k).drop i).getD 0 0 = xs.getD i 0 by simp [List.getD, List.getElem?_take, show i < k by omega], HX.out]
              exact hx0, by
              rw [hll]
              rw [show ((xs.take k).drop i).getD (m - 1) 0 = xs.getD (k - 1) 0 by simp [List.getD, List.getElem?_take, show k - 1 < k by omega, show i + (m - 1) = k - 1 by omega], HY.out]
              exact hy0⟩) (by
                have h := LP.of_trim (C := xs) lo (i := i) (m := m) (by rw [hRL.out]; omega) HZ.out (fun j h1 h2 => HZT.out j (by omega) (by rw [hRL.out] at h2; exact h2))
                rw [← h]
                congr 1
                rw [List.drop_take, show k - i = m by omega]))
            clear hx0 hy0 HX HY hll
            go_wp2_with fail
            refine bodyPost_ret (results_poly rfl _ rfl ((HBK.out.set_ 0 (.int .i64 (lo + i))).set_ 1 (.slice (some ad') m d))) rfl ?_
            rw [HP.out]
            refine ⟨some ad', m, d, rfl, ?_, fun _ => ⟨ad, ad', rfl, rfl, HBLK.out⟩, (HW0.out.setCell (p := ⟨w.heap.size, 0, none⟩) (Nat.le_refl _) _).setCell (p := ⟨w.heap.size, 1, none⟩) (Nat.le_refl _) _⟩
            have hblk := HBLK.out
            exact (HSL.out.setCell (fun _ a e => by injection e with e; subst e; omega) 0 _).setCell (fun _ a e => by injection e with e; subst e; omega) 1 _
end Go.Proofs.Ytoaiblhlpdaeoaa
