/- Several texts in one. -/
import Derived.Test.YtoaiblhlpdaeoaaPart13
import Derived.Test.YtoaiblhlpdaeoaaPart6
import Derived.Test.YtoaiblhlpdaeoaaBase1
import Derived.RangeFuncNested
import Derived.RangeFuncBound
import Derived.RangeFuncCalls
import Derived.RangeFuncLeaves
import Derived.Shelf.Abstract
import Derived.Shelf.RegionOpen
import Derived.WalkKit
import Derived.OwnWalkIn
import Derived.TacticsInMore
import Derived.LoopNIn
import Derived.LoopIn
import Derived.Test.YtoaiblhlpdaeoaaPart1
/- Package garside: tighten. -/
namespace Go.Proofs.Ytoaiblhlpdaeoaa
set_option linter.unusedVariables false
set_option linter.unusedSimpArgs false
open Go.RowKit

/-- What changes the blocks of K at most, and adds new ones. -/
structure Chg (K : Nat → Prop) (w w' : World) : Prop where
  os : w'.os = w.os
  tape : w'.tape = w.tape
  output : w'.output = w.output
  size : w.heap.size ≤ w'.heap.size
  block : ∀ b, b < w.heap.size → ¬ K b → w'.heap[b]? = w.heap[b]?
section
variable {K : Nat → Prop} {w w1 w2 : World}
theorem Chg.below (h : Below w.heap.size w w1) : Chg K w w1 := ⟨h.os, h.tape, h.output, h.size, fun b hb _ => h.block b hb⟩
theorem Chg.grown {g : Nat} (h : w.grownBy w1 (some g)) (hg : K g) : Chg K w w1 := ⟨h.os, h.tape, h.output, h.size, fun b hb hk => h.block b hb (fun e => hk (by injection e with e; rw [e]; exact hg))⟩
/-- A block that was not there before may be changed too. -/
theorem Chg.grownNew {g : Nat} (h : Chg K w w1) (k : w1.grownBy w2 (some g)) (hg : w.heap.size ≤ g ∨ K g) : Chg K w w2 :=
  ⟨k.os.trans h.os, k.tape.trans h.tape, k.output.trans h.output, Nat.le_trans h.size k.size, fun b hb hk => (k.block b (Nat.lt_of_lt_of_le hb h.size) (fun e => by
    injection e with e
    subst e
    rcases hg with hg | hg
    · omega
    · exact hk hg)).trans (h.block b hb hk)⟩
theorem Chg.trans (h : Chg K w w1) (k : Chg K w1 w2) : Chg K w w2 :=
  ⟨k.os.trans h.os, k.tape.trans h.tape, k.output.trans h.output, Nat.le_trans h.size k.size, fun b hb hk => (k.block b (Nat.lt_of_lt_of_le hb h.size) hk).trans (h.block b hb hk)⟩
theorem Chg.mono {K' : Nat → Prop} (h : Chg K w w1) (hk : ∀ b, K b → K' b) : Chg K' w w1 := ⟨h.os, h.tape, h.output, h.size, fun b hb hn => h.block b hb (fun e => hn (hk b e))⟩
theorem Chg.refl (K : Nat → Prop) (w : World) : Chg K w w := ⟨rfl, rfl, rfl, Nat.le_refl _, fun _ _ _ => rfl⟩
theorem Chg.to_below {B : Nat} {w0 : World} (h : Chg K w w1) (h0 : Below B w0 w) (hB : B ≤ w.heap.size) (hk : ∀ b, K b → B ≤ b) : Below B w0 w1 :=
  ⟨h.os.trans h0.os, h.tape.trans h0.tape, h.output.trans h0.output, Nat.le_trans h0.size h.size, fun b hb => (h.block b (by omega) (fun e => by have := hk b e; omega)).trans (h0.block b hb)⟩
theorem OwnI.chg {base n c g : Nat} {xs : List Int} (h : OwnI w base (some ⟨g, 0, none⟩) n c xs) (hc : Chg K w w1) (hk : ¬ K g) : OwnI w1 base (some ⟨g, 0, none⟩) n c xs := by
  refine ⟨⟨h.own.1, ?_⟩, h.small⟩
  rcases h.own.2 with ⟨hv, _⟩ | ⟨g', cap, cur, hv, hg', hh, r⟩
  · simp at hv
  · have e : g = g' := by injection hv with hv; injection hv with hv; injection hv
    subst e
    exact .inr ⟨g, cap, cur, hv, hg', (hc.block g (Blk.lt (w := w) (t := 3) (cs := cur) hh) hk).trans hh, r⟩
end
/-- What a row of naturals reads. -/
def rowOf (w : World) (g n : Nat) : List Nat := (List.range n).map fun j => match w.cell? ⟨g, j, none⟩ with
  | some (.int _ z) => z.toNat
  | _ => 0
theorem rowOf_own {w : World} {base n c g : Nat} {p : List Nat} (h : OwnI w base (some ⟨g, 0, none⟩) n c (zs p)) : rowOf w g n = p := by
  have hl := h.len
  rw [zs_length] at hl
  refine Gar.list_ext (by unfold rowOf; simp [hl]) fun s hs => ?_
  unfold rowOf at hs ⊢
  simp only [List.length_map, List.length_range] at hs
  rw [getD_map_nat (by rw [List.length_range]; exact hs), range_getD hs, h.cell hs, zs_getD]
  rfl

/-- What tighten has done to a pair: b's crossings have gone to a, or nothing. -/
structure Mov (a b a' b' : List Nat) (t : Bool) : Prop where
  no : t = false → a' = a ∧ b' = b ∧ loose (inv a) b = none
  yes : t = true → ∃ d, 0 < d ∧ Gar.len (Gar.elt a') = Gar.len (Gar.elt a) + d ∧ Gar.len (Gar.elt b') + d = Gar.len (Gar.elt b)
  pr : Gar.elt a' * Gar.elt b' = Gar.elt a * Gar.elt b

set_option maxRecDepth 100000 in
set_option maxHeartbeats 8000000 in
theorem gtighten_any (base ga gb n ca cb : Nat) (a b : List Nat) (w : World) (ha : OwnI w base (some ⟨ga, 0, none⟩) n ca (zs a)) (hb : OwnI w base (some ⟨gb, 0, none⟩) n cb (zs b)) (pa : isP a) (pb : isP b) (h6 : n ≤ 6) (hne : ga ≠ gb) :
    Calls Try.prog 95 #[.slice (some ⟨ga, 0, none⟩) n ca, .slice (some ⟨gb, 0, none⟩) n cb] w fun e w' => ∃ (t : Bool) (a' b' : List Nat), e = .returned (.bool t) ∧ OwnI w' base (some ⟨ga, 0, none⟩) n ca (zs a') ∧ OwnI w' base (some ⟨gb, 0, none⟩) n cb (zs b') ∧ isP a' ∧ isP b' ∧ a'.length = n ∧ b'.length = n ∧ Chg (fun g => g = ga ∨ g = gb) w w' ∧ Mov a b a' b' t := by
  have la : a.length = n := by have := ha.len; rwa [zs_length] at this
  have lb : b.length = n := by have := hb.len; rwa [zs_length] at this
  have HI := hide (inverse_ok (some ⟨ga, 0, none⟩) n ca a w ha.il pa (by omega))
  have hga := ha.inBase.2
  have hgb := hb.inBase.2
  have HA := hide ha
  have HB := hide hb
  have HPA := hide pa
  have HPB := hide pb
  have HLA := hide la
  have HLB := hide lb
  clear ha hb pa pb la lb
  go_enter Try.func95, Try.ntmps95
  go_wp2_with fail
  refine HI.out.mono ?_
  rintro e w1 ⟨C, m, cc, rfl, ho, hbw⟩
  have hm : m = n := by have := ho.len; rw [zs_length, inv_length, HLA.out] at this; exact this.symm
  subst hm
  have HG := hide (gloose_any C (some ⟨gb, 0, none⟩) m cc cb (inv a) b w1 ho.il (HB.out.below hbw).il HLB.out)
  have HW := hide hbw
  have HC := hide ho
  clear ho hbw HI
  go_wp2_with fail
  refine HG.out.mono ?_
  rintro e w2 ⟨rfl, hb2⟩
  have HW2 := hide (HW.out.trans (hb2.mono HW.out.size))
  have HC2 := hide (HC.out.below hb2)
  clear hb2 HW HG HC
  cases hl : loose (inv a) b with
  | none =>
    have HM : Hid (Mov a b a b false) := hide ⟨fun _ => ⟨rfl, rfl, hl⟩, fun h => (by cases h), rfl⟩
    have hds : dsI none = -1 := rfl
    rw [hds]
    clear hl
    go_wp2_with fail
    go_ret
    exact ⟨false, a, b, rfl, HA.out.below HW2.out, HB.out.below HW2.out, HPA.out, HPB.out, HLA.out, HLB.out, Chg.below HW2.out, HM.out⟩
  | some i0 =>
    obtain ⟨hi0, _, _⟩ := loose_some hl
    have hm0 : 0 < m := by rw [HLB.out] at hi0; omega
    obtain ⟨gc, rfl, hgc, hgc2⟩ := HC2.out.form hm0
    have HLC : Hid ((inv a).length = m) := hide (by rw [inv_length]; exact HLA.out)
    have HPR : Hid (Gar.elt (inv (inv a)) * Gar.elt b = Gar.elt a * Gar.elt b) := hide (by rw [inv_inv HPA.out])
    have HPC := hide (inv_isP HPA.out)
    have HA2 := hide (HA.out.below HW2.out)
    have HB2 := hide (HB.out.below HW2.out)
    have HK2 : Hid (Chg (fun g => g = ga ∨ g = gb) w w2) := hide (Chg.below HW2.out)
    have HST : Hid (Gar.len (Gar.elt b) ≤ Gar.len (Gar.elt b) ∧ (Gar.len (Gar.elt b) < Gar.len (Gar.elt b) ∨ loose (inv a) b ≠ none)) := hide ⟨Nat.le_refl _, .inr (by rw [hl]; simp)⟩
    have hds : dsI (some i0) = (i0 : Int) := rfl
    have hDS : Hid ((i0 : Int) = dsI (loose (inv a) b)) := hide (by rw [hl]; rfl)
    rw [hds]
    clear hl hi0 hds
    go_wp2_with fail
    go_loopw [7] (fun iv wr => ∃ c1 b1 : List Nat, iv = .int .i64 (dsI (loose c1 b1)) ∧ Hid (isP c1 ∧ isP b1 ∧ c1.length = m ∧ b1.length = m) ∧ Hid (OwnI wr w.heap.size (some ⟨gc, 0, none⟩) m cc (zs c1)) ∧ Hid (OwnI wr base (some ⟨gb, 0, none⟩) m cb (zs b1)) ∧ Hid (OwnI wr base (some ⟨ga, 0, none⟩) m ca (zs a)) ∧ Hid (Gar.elt (inv c1) * Gar.elt b1 = Gar.elt a * Gar.elt b) ∧ Hid (Gar.len (Gar.elt b1) ≤ Gar.len (Gar.elt b) ∧ (Gar.len (Gar.elt b1) < Gar.len (Gar.elt b) ∨ loose c1 b1 ≠ none)) ∧ Hid (Chg (fun g => g = ga ∨ g = gb) w wr)) (fun iv wr => Gar.len (Gar.elt (rowOf wr gb m)))
    case atStart => exact ⟨inv a, b, by rw [hDS.out], hide ⟨HPC.out, HPB.out, HLC.out, HLB.out⟩, HC2, HB2, HA2, HPR, HST, HK2⟩
    case round =>
      clear HC2 HB2 HA2 HPR HST HK2 hDS HPC HLC HA HB HW2
      obtain ⟨c1, b1, rfl, HQ, HCr, HBr, HAr, HPr, HSt, HKr⟩ := hrel
      obtain ⟨pc, pb, lc, lb⟩ := HQ.out
      have hga2 : ga ≠ gc := by omega
      have hgb2 : gb ≠ gc := by omega
      cases hl : loose c1 b1 with
      | some i =>
        obtain ⟨hi, _, _⟩ := loose_some hl
        rw [lb] at hi
        obtain ⟨mv1, mv2⟩ := move_one pc pb lc lb hl
        have HQ2 : Hid (isP (Gar.swapL c1 i) ∧ isP (Gar.swapL b1 i) ∧ (Gar.swapL c1 i).length = m ∧ (Gar.swapL b1 i).length = m) := hide ⟨Gar.swapL_isP pc (by omega), Gar.swapL_isP pb (by omega), by rw [Gar.swapL_length]; exact lc, by rw [Gar.swapL_length]; exact lb⟩
        have HP2 : Hid (Gar.elt (inv (Gar.swapL c1 i)) * Gar.elt (Gar.swapL b1 i) = Gar.elt a * Gar.elt b) := hide (by rw [mv1, HPr.out])
        have HLE : Hid (Gar.len (Gar.elt b1) ≤ Gar.len (Gar.elt b)) := hide HSt.out.1
        have HM2 := hide mv2
        have HRO := hide (rowOf_own HBr.out)
        have HEC := hide (gexch_any w.heap.size gc m cc c1 i wr HCr.out hi)
        have hds : dsI (some i) = (i : Int) := rfl
        rw [hds]
        clear HQ pc pb lc lb hl mv1 mv2 HPr HSt hds
        go_wp2_with fail
        refine HEC.out.mono ?_
        rintro e w3 ⟨rfl, hc3, hg3⟩
        have HC3 := hide hc3
        have hb3 := HBr.out.far hg3 (fun ad e e2 => by injection e with e; subst e; injection e2 with e2; exact hgb2 e2.symm)
        have HA3 := hide (HAr.out.far hg3 (fun ad e e2 => by injection e with e; subst e; injection e2 with e2; exact hga2 e2.symm))
        have HK3 := hide (HKr.out.grownNew hg3 (.inl hgc))
        have HEB := hide (gexch_any base gb m cb b1 i w3 hb3 hi)
        clear hc3 hg3 hb3 HEC HCr HBr HAr HKr
        go_wp2_with fail
        refine HEB.out.mono ?_
        rintro e w4 ⟨rfl, hb4, hg4⟩
        have HB4 := hide hb4
        have HC4 := hide (HC3.out.far hg4 (fun ad e e2 => by injection e with e; subst e; injection e2 with e2; exact hgb2 e2))
        have HA4 := hide (HA3.out.far hg4 (fun ad e e2 => by injection e with e; subst e; injection e2 with e2; exact hne e2.symm))
        have HK4 := hide (HK3.out.grownNew hg4 (.inr (.inr rfl)))
        have HL4 := hide (gloose_any (some ⟨gc, 0, none⟩) (some ⟨gb, 0, none⟩) m cc cb (Gar.swapL c1 i) (Gar.swapL b1 i) w4 HC4.out.il hb4.il HQ2.out.2.2.2)
        clear hb4 hg4 HEB HC3 HA3 HK3
        go_wp2_with fail
        refine HL4.out.mono ?_
        rintro e w5 ⟨rfl, hb5⟩
        have HC5 := hide (HC4.out.below hb5)
        have HB5 := hide (HB4.out.below hb5)
        have HA5 := hide (HA4.out.below hb5)
        have HK5 := hide (HK4.out.trans (Chg.below hb5))
        clear hb5 HC4 HB4 HA4 HK4 HL4
        go_wp2_with fail
        go_roundw
        case rel => exact ⟨_, _, rfl, HQ2, HC5, HB5, HA5, HP2, hide ⟨by have := HM2.out; have := HLE.out; omega, .inl (by have := HM2.out; have := HLE.out; omega)⟩, HK5⟩
        case measure =>
          rw [HRO.out, rowOf_own HB5.out]
          have := HM2.out
          omega
      | none =>
        have HLT : Hid (Gar.len (Gar.elt b1) < Gar.len (Gar.elt b)) := hide (by
          rcases HSt.out.2 with h | h
          · exact h
          · exact absurd hl h)
        have HM : Hid (Mov a b (inv c1) b1 true) := hide ⟨fun h => (by cases h), fun _ => ⟨Gar.len (Gar.elt b) - Gar.len (Gar.elt b1), by have := HLT.out; omega, by
          have h1 := congrArg Gar.len HPr.out
          rw [Gar.len_mul, Gar.len_mul] at h1
          have := HLT.out
          omega, by have := HLT.out; omega⟩, HPr.out⟩
        have HPI := hide (inv_isP pc)
        have HLI : Hid ((inv c1).length = m) := hide (by rw [inv_length]; exact lc)
        have HPB1 := hide pb
        have HLB1 := hide lb
        have HPC1 := hide pc
        have HLC1 := hide lc
        have hds : dsI none = -1 := rfl
        rw [hds]
        clear HQ pc pb lc lb hl HPr HSt hds HLT
        rename World => wo
        go_wp2_with fail
        go_loopw [33] (fun iv wr => ∃ (k : Nat) (ps : List Int), k ≤ m ∧ iv = .int .i64 (k : Int) ∧ Hid (OwnI wr base (some ⟨ga, 0, none⟩) m ca ps) ∧ Hid (∀ j, j < k → ps.getD (c1.getD j 0) 0 = (j : Int)) ∧ Hid (OwnI wr w.heap.size (some ⟨gc, 0, none⟩) m cc (zs c1)) ∧ Hid (OwnI wr base (some ⟨gb, 0, none⟩) m cb (zs b1)) ∧ Hid (Chg (fun g => g = ga ∨ g = gb) w wr)) (fun iv _ => m - (intOf iv).toNat)
        case atStart => exact ⟨0, _, Nat.zero_le _, rfl, HAr, hide (fun j hj => absurd hj (by omega)), HCr, HBr, HKr⟩
        case round =>
          clear HAr HCr HBr HKr
          obtain ⟨k, ps, hk, rfl, HA, HPS, HC, HB, HK⟩ := hrel
          by_cases hlt : k < m
          · have hca := HC.out.cell hlt
            rw [zs_getD] at hca
            have hx : c1.getD k 0 < m := by have := HPC1.out.lt (j := k) (by rw [HLC1.out]; exact hlt); rw [HLC1.out] at this; exact this
            have HS := hide (inv_step HPC1.out HLC1.out hlt HA.out.len HPS.out)
            have hcell := HA.out.cell hx
            have hfr := HA.out.frozen (c1.getD k 0)
            have HA2 := hide (HA.out.set_ (c1.getD k 0) (k : Int))
            have hg := chgA_set (w := wr) (g := ga) (i := c1.getD k 0) (v := .int .i64 (k : Int))
            have HC2 := hide (HC.out.far hg (fun ad e e2 => by injection e with e; subst e; injection e2 with e2; exact hga2 e2))
            have HB2 := hide (HB.out.far hg (fun ad e e2 => by injection e with e; subst e; injection e2 with e2; exact hne e2))
            have HK2 := hide (HK.out.grownNew hg (.inr (.inl rfl)))
            clear hg HA HC HB HK HPS
            generalize c1.getD k 0 = x at *
            generalize ps.getD x 0 = z at *
            go_wp2_with fail
            go_roundw
            case rel => exact ⟨k + 1, _, by omega, by go_num, HA2, HS, HC2, HB2, HK2⟩
            case measure => simp [intOf]; omega
          · have HF : Hid (ps = zs (inv c1)) := hide (inv_unique HPC1.out (by rw [HA.out.len, HLC1.out]) (fun j hj => HPS.out j (by rw [HLC1.out] at hj; omega)))
            have HAF := HA
            rw [HF.out] at HAF
            clear HA HPS HC hk
            go_wp2_with fail
            go_ret
            exact ⟨true, inv c1, b1, rfl, HAF.out, HB.out, HPI.out, HPB1.out, HLI.out, HLB1.out, HK.out, HM.out⟩
end Go.Proofs.Ytoaiblhlpdaeoaa
/- Package garside: tightenAll. -/
namespace Go.Proofs.Ytoaiblhlpdaeoaa
set_option linter.unusedVariables false
set_option linter.unusedSimpArgs false
open Go.RowKit

/-- Rows of permutations, each in a block of its own, from the place lo on. -/
structure FcB (w : World) (base go k N : Nat) (gr cr : Nat → Nat) (lo : Nat) (P : Nat → List Nat) : Prop where
  blk : ∃ cs, Blk w go 22 cs
  out : ∀ i, lo ≤ i → i < k → w.cell? ⟨go, i, none⟩ = some (.slice (some ⟨gr i, 0, none⟩) N (cr i))
  row : ∀ i, lo ≤ i → i < k → OwnI w base (some ⟨gr i, 0, none⟩) N (cr i) (zs (P i))
  per : ∀ i, lo ≤ i → i < k → isP (P i) ∧ (P i).length = N
  ne : ∀ i, lo ≤ i → i < k → gr i ≠ go
  dis : ∀ i j, lo ≤ i → i < k → lo ≤ j → j < k → i ≠ j → gr i ≠ gr j
section
variable {w w' : World} {base go k N lo : Nat} {gr cr : Nat → Nat} {P : Nat → List Nat}
theorem FcB.lt (h : FcB w base go k N gr cr lo P) : go < w.heap.size := by
  obtain ⟨cs, hc⟩ := h.blk
  exact hc.lt
theorem FcB.below (h : FcB w base go k N gr cr lo P) (hb : Below w.heap.size w w') : FcB w' base go k N gr cr lo P := by
  refine ⟨?_, fun i h1 h2 => (hb.cell (p := ⟨go, i, none⟩) h.lt).trans (h.out i h1 h2), fun i h1 h2 => (h.row i h1 h2).below hb, h.per, h.ne, h.dis⟩
  obtain ⟨cs, hc⟩ := h.blk
  exact ⟨cs, hc.below hb hc.lt⟩
theorem FcB.congr {Q : Nat → List Nat} (h : FcB w base go k N gr cr lo P) (e : ∀ i, i < k → P i = Q i) : FcB w base go k N gr cr lo Q :=
  ⟨h.blk, h.out, fun i h1 h2 => by rw [← e i h2]; exact h.row i h1 h2, fun i h1 h2 => by rw [← e i h2]; exact h.per i h1 h2, h.ne, h.dis⟩
theorem Blk.chg {K : Nat → Prop} {g : Nat} {t : TypeId} {cs : Array Value} (h : Blk w g t cs) (hc : Chg K w w') (hk : ¬ K g) : Blk w' g t cs := (hc.block g h.lt hk).trans h
theorem FcB.up {j : Nat} {a b : List Nat} (h : FcB w base go k N gr cr 0 P) (hj : j + 1 < k) (hc : Chg (fun g => g = gr j ∨ g = gr (j + 1)) w w') (ha : OwnI w' base (some ⟨gr j, 0, none⟩) N (cr j) (zs a)) (hb : OwnI w' base (some ⟨gr (j + 1), 0, none⟩) N (cr (j + 1)) (zs b)) (pa : isP a) (pb : isP b) (la : a.length = N) (lb : b.length = N) : FcB w' base go k N gr cr 0 (upF P j a b) := by
  have hgo : ¬ (go = gr j ∨ go = gr (j + 1)) := fun e => by
    rcases e with e | e
    · exact h.ne j (by omega) (by omega) e.symm
    · exact h.ne (j + 1) (by omega) (by omega) e.symm
  obtain ⟨cs, hcs⟩ := h.blk
  refine ⟨⟨cs, hcs.chg hc hgo⟩, fun i h1 h2 => (World.cell?_of_block (a := ⟨go, i, none⟩) (hc.block go h.lt hgo)).trans (h.out i h1 h2), fun i h1 h2 => ?_, fun i h1 h2 => ?_, h.ne, h.dis⟩
  · by_cases e1 : i = j
    · subst e1; rw [upF_a]; exact ha
    · by_cases e2 : i = j + 1
      · subst e2; rw [upF_b]; exact hb
      · rw [upF_o P a b e1 e2]
        exact (h.row i h1 h2).chg hc fun e => by
          rcases e with e | e
          · exact h.dis i j (by omega) h2 (by omega) (by omega) e1 e
          · exact h.dis i (j + 1) (by omega) h2 (by omega) (by omega) e2 e
  · by_cases e1 : i = j
    · subst e1; rw [upF_a]; exact ⟨pa, la⟩
    · by_cases e2 : i = j + 1
      · subst e2; rw [upF_b]; exact ⟨pb, lb⟩
      · rw [upF_o P a b e1 e2]; exact h.per i h1 h2
theorem FcB.read (h : FcB w base go k N gr cr 0 P) : wtF (fun i => rowOf w (gr i) N) k = wtF P k := wtF_congr fun i hi => rowOf_own (h.row i (by omega) hi)
end
def trueN : Value → Nat
  | .bool true => 1
  | _ => 0

theorem eTighten : ∀ args w, (callFunc 95 args).run Try.prog w = .ok (.enter 95 args) w := enters (fn := Try.f95) (by kernel_rfl) (by kernel_rfl) (by kernel_rfl)
set_option maxRecDepth 100000 in
set_option maxHeartbeats 8000000 in
theorem gtightenAll_any (base go k N cap : Nat) (gr cr : Nat → Nat) (P : Nat → List Nat) (w : World) (h : FcB w base go k N gr cr 0 P) (h6 : N ≤ 6) (hk : k ≤ 30) :
    Calls Try.prog 50 #[.slice (some ⟨go, 0, none⟩) k cap] w fun e w' => e = .returned (.tuple #[]) ∧ ∃ P' : Nat → List Nat, FcB w' base go k N gr cr 0 P' ∧ prF P' k = prF P k ∧ (∀ j, j + 1 < k → loose (inv (P' j)) (P' (j + 1)) = none) ∧ Chg (fun g => ∃ i, i < k ∧ g = gr i) w w' := by
  have HF := hide h
  have hw0 : IntKind.i64.wrap ((k : Int) - 1) = (k : Int) - 1 := by rw [IntKind.wrap_i64]; omega
  clear h
  go_enter Try.func50, Try.ntmps50
  go_wp2_with fail
  go_loopw [2] (fun mv wr => ∃ (t : Bool) (P1 : Nat → List Nat), mv = .bool t ∧ Hid (FcB wr base go k N gr cr 0 P1) ∧ Hid (prF P1 k = prF P k) ∧ Hid (t = false → ∀ j, j + 1 < k → loose (inv (P1 j)) (P1 (j + 1)) = none) ∧ Hid (Chg (fun g => ∃ i, i < k ∧ g = gr i) w wr)) (fun mv wr => 2 * wtF (fun i => rowOf wr (gr i) N) k + trueN mv)
  case atStart => exact ⟨true, P, rfl, HF, hide rfl, hide (fun h => by cases h), hide (Chg.refl _ _)⟩
  case round =>
    clear HF
    obtain ⟨t, P1, rfl, HF, HP, HT, HC⟩ := hrel
    cases t with
    | false =>
      have HT2 := hide (HT.out rfl)
      clear HT
      go_wp2_with fail
      go_returns
      exact ⟨rfl, P1, HF.out, HP.out, HT2.out, HC.out⟩
    | true =>
      have HR1 := hide HF.out.read
      clear HT
      rename World => wo
      go_wp2_with fail
      go_loopw [2, 3] (fun mv jv wx => ∃ (t : Bool) (q : Nat) (jz : Int) (P2 : Nat → List Nat), mv = .bool t ∧ jv = .int .i64 jz ∧ q ≤ k ∧ Hid (jz = (q : Int) - 1) ∧ Hid (FcB wx base go k N gr cr 0 P2) ∧ Hid (prF P2 k = prF P k) ∧ Hid (t = false → wtF P2 k = wtF P1 k ∧ ∀ j, q ≤ j + 1 → j + 1 < k → loose (inv (P2 j)) (P2 (j + 1)) = none) ∧ Hid (t = true → wtF P2 k < wtF P1 k) ∧ Hid (Chg (fun g => ∃ i, i < k ∧ g = gr i) w wx)) (fun _ jv _ => (intOf jv + 1).toNat)
      case atStart => exact ⟨false, k, _, P1, rfl, rfl, Nat.le_refl _, hide rfl, HF, HP, hide (fun _ => ⟨rfl, fun j h1 h2 => absurd h2 (by omega)⟩), hide (fun h => by cases h), HC⟩
      case round =>
        clear HF HP HC
        obtain ⟨t, q, jz, P2, rfl, rfl, hq, HJ, HF, HP, HT0, HT1, HC⟩ := hrel
        by_cases hq2 : 2 ≤ q
        · obtain ⟨j, hj⟩ : ∃ j, q = j + 2 := ⟨q - 2, by omega⟩
          obtain ⟨i, hi⟩ : ∃ i, j + 1 = i := ⟨_, rfl⟩
          obtain rfl : jz = (i : Int) := by rw [HJ.out]; omega
          have hik : i < k := by omega
          have hjk : j < k := by omega
          have hw1 : IntKind.i64.wrap ((i : Int) - 1) = (j : Int) := by rw [IntKind.wrap_i64]; omega
          have hw2 : (i : Int) - 1 = (j : Int) := by omega
          have hpos : decide ((0 : Int) < (i : Int)) = true := decide_eq_true (by omega)
          have c0 := HF.out.out j (by omega) hjk
          have c1 := HF.out.out i (by omega) hik
          have HI := hide hi
          have HQJ := hide hj
          have HTI := hide (gtighten_any base (gr j) (gr i) N (cr j) (cr i) (P2 j) (P2 i) wr.drew ((HF.out.row j (by omega) hjk).drew) ((HF.out.row i (by omega) hik).drew) (HF.out.per j (by omega) hjk).1 (HF.out.per i (by omega) hik).1 h6 (HF.out.dis j i (by omega) hjk (by omega) hik (by omega)))
          clear hi hj hq2 HJ
          go_upto_region 6 with fail
          have C0 := hide c0
          have C1 := hide c1
          have hgo := HF.out.lt
          clear c0 c1
          refine wp_region_T (S := fun x => Below wr.heap.size wr x) 9 (by kernel_rfl) (Below.refl _ _).drew (fun hS => ?_)
          refine wpT_tk 0 (v := .slice (some ⟨go, 0, none⟩) k cap) rfl (by kernel_rfl) (by kernel_rfl) (by kernel_rfl) (by kernel_rfl) (yi rfl fun x hx => gives_move (.inl rfl) rfl) hS ?_
          go_frame
          refine wpT_tk 1 (v := .int .i64 i) rfl (by kernel_rfl) (by kernel_rfl) (by kernel_rfl) (by kernel_rfl) (yi rfl fun x hx => gives_move (.inl rfl) rfl) hS ?_
          go_frame
          refine wpT_tk 2 (v := .int .i64 j) rfl (by kernel_rfl) (by kernel_rfl) (by kernel_rfl) (by kernel_rfl) (yi rfl fun x hx => gives_sub rfl rfl rfl hw1) hS ?_
          go_frame
          refine wpT_tk 3 (v := .pointer (some ⟨go, j * 1, none⟩)) rfl (by kernel_rfl) (by kernel_rfl) (by kernel_rfl) (by kernel_rfl) (yi rfl fun x hx => gives_indexB rfl Try.underlying26 (fun w => by kernel_rfl) rfl rfl hjk) hS ?_
          go_frame
          rw [Nat.mul_one]
          refine wpT_tk 4 (v := .slice (some ⟨gr j, 0, none⟩) N (cr j)) rfl (by kernel_rfl) (by kernel_rfl) (by kernel_rfl) (by kernel_rfl) (yi rfl fun x hx => gives_load1 rfl (by kernel_rfl) rfl ((hx.cell (p := ⟨go, j, none⟩) hgo).trans C0.out)) hS ?_
          go_frame
          refine wpT_tk 5 (v := .slice (some ⟨go, 0, none⟩) k cap) rfl (by kernel_rfl) (by kernel_rfl) (by kernel_rfl) (by kernel_rfl) (yi rfl fun x hx => gives_move (.inl rfl) rfl) hS ?_
          go_frame
          refine wpT_tk 6 (v := .int .i64 i) rfl (by kernel_rfl) (by kernel_rfl) (by kernel_rfl) (by kernel_rfl) (yi rfl fun x hx => gives_move (.inl rfl) rfl) hS ?_
          go_frame
          refine wpT_tk 7 (v := .pointer (some ⟨go, i * 1, none⟩)) rfl (by kernel_rfl) (by kernel_rfl) (by kernel_rfl) (by kernel_rfl) (yi rfl fun x hx => gives_indexB rfl Try.underlying26 (fun w => by kernel_rfl) rfl rfl hik) hS ?_
          go_frame
          rw [Nat.mul_one]
          refine wpT_tk 8 (v := .slice (some ⟨gr i, 0, none⟩) N (cr i)) rfl (by kernel_rfl) (by kernel_rfl) (by kernel_rfl) (by kernel_rfl) (yi rfl fun x hx => gives_load1 rfl (by kernel_rfl) rfl ((hx.cell (p := ⟨go, i, none⟩) hgo).trans C1.out)) hS ?_
          go_frame
          refine wpT_1 9 rfl (by kernel_rfl) ?_
          refine wp_call [.slice (some ⟨gr j, 0, none⟩) N (cr j), .slice (some ⟨gr i, 0, none⟩) N (cr i)] rfl rfl eTighten rfl (HTI.out.mono ?_)
          rintro e w6 ⟨t', a', b', rfl, ha, hb, pa, pb, la, lb, hc, hM⟩
          refine ⟨_, rfl, fun h => absurd rfl h, ?_⟩
          go_frame
          refine wpT_done (by kernel_rfl) (noPanic_mk ?_) _
          have hc' : Chg (fun g => g = gr j ∨ g = gr (j + 1)) wr w6 := by
            rw [HI.out]
            exact (Chg.below (Below.refl _ _).drew).trans hc
          have hF6 := HF.out.up (by rw [HI.out]; exact hik) hc' ha (by rw [HI.out]; exact hb) pa pb la lb
          have HC6 : Hid (Chg (fun g => ∃ i, i < k ∧ g = gr i) w w6) := hide (HC.out.trans (hc'.mono fun b h => by
            rcases h with h | h
            · exact ⟨j, hjk, h⟩
            · exact ⟨i, hik, by rw [h, HI.out]⟩))
          have HP6 : Hid (prF (upF P2 j a' b') k = prF P k) := hide (by
            rw [prF_up (by rw [hM.pr, HI.out]) (by have := HI.out; omega)]
            exact HP.out)
          have HF6 := hide hF6
          have HM := hide hM
          clear ha hb pa pb la lb hc hM hc' hF6 HTI hS C0 C1 HF HP HC
          cases t' with
          | true =>
            have HT6 : Hid (wtF (upF P2 j a' b') k < wtF P1 k) := hide (by
              obtain ⟨d, hd, h1, h2⟩ := HM.out.yes rfl
              rw [← HI.out] at h2
              have h3 := wtF_up h1 h2 (k := k) (by have := HI.out; omega)
              cases t with
              | false => have := (HT0.out rfl).1; omega
              | true => have := HT1.out rfl; omega)
            go_wp2_with fail
            go_roundw
            case rel => exact ⟨true, j + 1, _, upF P2 j a' b', rfl, rfl, by omega, hide (by omega), HF6, HP6, hide (fun h => by cases h), hide (fun _ => HT6.out), HC6⟩
            case measure => simp [intOf]; omega
          | false =>
            obtain ⟨m1, m2, m3⟩ := HM.out.no rfl
            have HE : Hid (∀ i, i < k → upF P2 j a' b' i = P2 i) := hide (fun i' _ => by
              by_cases e1 : i' = j
              · subst e1; rw [upF_a, m1]
              · by_cases e2 : i' = j + 1
                · subst e2; rw [upF_b, m2, HI.out]
                · rw [upF_o P2 _ _ e1 e2])
            have HF7 := hide (HF6.out.congr HE.out)
            have HP7 : Hid (prF P2 k = prF P k) := hide (by rw [← HP6.out, prF_congr HE.out])
            have HT7 : Hid (t = false → wtF P2 k = wtF P1 k ∧ ∀ j', j + 1 ≤ j' + 1 → j' + 1 < k → loose (inv (P2 j')) (P2 (j' + 1)) = none) := hide (fun h => ⟨(HT0.out h).1, fun j' h1 h2 => by
              by_cases e : j' = j
              · subst e; rw [HI.out]; exact m3
              · exact (HT0.out h).2 j' (by have := HQJ.out; omega) h2⟩)
            clear m1 m2 m3
            go_wp2_with fail
            go_roundw
            case rel => exact ⟨t, j + 1, _, P2, rfl, rfl, by omega, hide (by omega), HF7, HP7, HT7, HT1, HC6⟩
            case measure => simp [intOf]; omega
        · have hneg : decide ((0 : Int) < jz) = false := decide_eq_false (by have := HJ.out; omega)
          have HRX := hide HF.out.read
          have HTF : Hid (t = false → ∀ j, j + 1 < k → loose (inv (P2 j)) (P2 (j + 1)) = none) := hide (fun h j h1 => (HT0.out h).2 j (by omega) h1)
          have HME : Hid (2 * wtF P2 k + trueN (.bool t) < 2 * wtF P1 k + 1) := hide (by
            cases t with
            | false => have := (HT0.out rfl).1; show 2 * wtF P2 k + 0 < _; omega
            | true => have := HT1.out rfl; show 2 * wtF P2 k + 1 < _; omega)
          clear HT0 HT1 HJ
          go_wp2_with fail
          go_roundw
          case rel => exact ⟨t, P2, rfl, HF, HP, HTF, HC⟩
          case measure =>
            rw [HRX.out, HR1.out]
            exact HME.out
end Go.Proofs.Ytoaiblhlpdaeoaa
/- Package artin: generators; slices.ContainsFunc of words. -/
namespace Go.Proofs.Ytoaiblhlpdaeoaa
set_option linter.unusedVariables false
set_option linter.unusedSimpArgs false
open Go.RowKit

theorem aAny_no {xss : List (List Int)} {f : List Int → Bool} (h : ∀ j, j < xss.length → f (xss.getD j []) = false) : xss.any f = false := by
  rw [List.any_eq_false]
  intro x hx
  obtain ⟨j, hj, rfl⟩ := List.mem_iff_getElem.1 hx
  have := h j hj
  rw [show xss.getD j [] = xss[j] by simp [List.getD, List.getElem?_eq_getElem hj]] at this
  simp [this]
theorem aAny_yes {xss : List (List Int)} {f : List Int → Bool} {j : Nat} (hj : j < xss.length) (h : f (xss.getD j []) = true) : xss.any f = true := by
  rw [List.any_eq_true]
  exact ⟨xss[j], List.getElem_mem _, by rw [← h, show xss.getD j [] = xss[j] by simp [List.getD, List.getElem?_eq_getElem hj]]⟩

set_option maxRecDepth 100000 in
set_option maxHeartbeats 2000000 in
theorem aIndex_any {fid : FuncId} {caps : List Value} (f : List Int → Bool) (hfid : ∀ args w, (callFunc fid args).run Try.prog w = .ok (.enter fid args) w) (A : Option Addr) (n c : Nat) (xss : List (List Int)) (w : World) (ha : ILL w A n xss)
    (hf : ∀ B m d k, k < n → IL w B m (xss.getD k []) → Calls Try.prog fid (.slice B m d :: caps).toArray w fun e w' => e = .returned (.bool (f (xss.getD k []))) ∧ w = w') :
    Calls Try.prog 107 #[.slice A n c, .func (.func fid) #[] caps.toArray] w fun e w' => (∃ z : Int, e = .returned (.int .i64 z) ∧ decide (0 ≤ z) = xss.any f) ∧ w = w' := by
  have hs := ha.small
  have HA := hide ha
  have HF := hide hf
  have HL := hide ha.len
  clear ha hf
  go_enter Try.func107, Try.ntmps107
  go_wp2
  go_loop [8] (fun i => ∃ k : Nat, k ≤ n ∧ i = .int .i64 k ∧ Hid (∀ j, j < k → f (xss.getD j []) = false)) (fun i => n - (intOf i).toNat)
  case atStart => exact ⟨0, Nat.zero_le _, rfl, hide (fun j hj => absurd hj (by omega))⟩
  case round =>
    obtain ⟨k, hk, rfl, HN⟩ := hrel
    by_cases hlt : k < n
    · obtain ⟨ad, B, m, d, rfl, hc, hil⟩ := HA.out.at_ hlt
      have HC := hide (HF.out B m d k hlt hil)
      clear hil
      by_cases hfk : f (xss.getD k []) = true
      · have HY : Hid (xss.any f = true) := hide (aAny_yes (by rw [HL.out]; exact hlt) hfk)
        rw [hfk] at HC
        clear hfk
        go_wp2_with fail
        refine HC.out.mono ?_
        rintro e w1 ⟨rfl, rfl⟩
        go_wp2_with fail
        go_ret
        exact ⟨⟨k, rfl, by rw [HY.out]; exact decide_eq_true (by omega)⟩, rfl⟩
      · have hfk' : f (xss.getD k []) = false := by simpa using hfk
        have HN2 : Hid (∀ j, j < k + 1 → f (xss.getD j []) = false) := hide (fun j hj => by
          by_cases e : j = k
          · rw [e]; exact hfk'
          · exact HN.out j (by omega))
        rw [hfk'] at HC
        clear hfk hfk'
        go_wp2_with fail
        refine HC.out.mono ?_
        rintro e w1 ⟨rfl, rfl⟩
        go_wp2_with fail
        go_round
        case rel => exact ⟨k + 1, by omega, by go_num, HN2⟩
        case measure => simp [intOf]; omega
    · have HY : Hid (xss.any f = false) := hide (aAny_no fun j hj => HN.out j (by rw [HL.out] at hj; omega))
      go_wp2_with fail
      go_ret
      exact ⟨⟨-1, rfl, by rw [HY.out]; rfl⟩, rfl⟩
theorem eAIx : ∀ args w, (callFunc 107 args).run Try.prog w = .ok (.enter 107 args) w := enters (fn := Try.f107) (by kernel_rfl) (by kernel_rfl) (by kernel_rfl)
theorem eALarge : ∀ args w, (callFunc 74 args).run Try.prog w = .ok (.enter 74 args) w := enters (fn := Try.f74) (by kernel_rfl) (by kernel_rfl) (by kernel_rfl)

set_option maxRecDepth 100000 in
set_option maxHeartbeats 2000000 in
theorem aContains_any (A : Option Addr) (n c : Nat) (xss : List (List Int)) (w : World) (ha : ILL w A n xss) :
    Calls Try.prog 73 #[.slice A n c, .func (.func 74) #[] #[]] w fun e w' => e = .returned (.bool (xss.any fun u => decide (3000 < u.length))) ∧ w = w' := by
  have HI := hide (aIndex_any (caps := []) (fun u => decide (3000 < u.length)) eALarge A n c xss w ha (fun B m d k hk hil => alarge_any B m d _ _ hil))
  have e1 := eAIx
  clear ha
  obtain ⟨b, hb⟩ : ∃ b, (xss.any fun u => decide (3000 < u.length)) = b := ⟨_, rfl⟩
  rw [hb] at HI ⊢
  clear hb
  go_enter Try.func73, Try.ntmps73
  go_wp2_with fail
  refine HI.out.mono ?_
  rintro e w1 ⟨⟨z, rfl, hz⟩, rfl⟩
  clear HI
  cases b
  · go_wp2_with fail
    go_ret
    exact ⟨rfl, rfl⟩
  · go_wp2_with fail
    go_ret
    exact ⟨rfl, rfl⟩

theorem OwnV.imB {w : World} {g n : Nat} (h : w.ownsRow g 22 1 (.slice (some ⟨g, 0, none⟩) n n) n (madeCells #[Value.slice none 0 0] (n * 1)).toList) : ImB w g n (fun _ => []) := by
  rw [toList_madeCells_one, Nat.mul_one] at h
  rcases h.2 with ⟨hv, h0⟩ | ⟨g2, cap, cur, hv, hg, hh, r⟩
  · simp at hv
  · simp only [Value.slice.injEq, Option.some.injEq, Addr.mk.injEq, and_true, true_and] at hv
    obtain ⟨rfl, _⟩ := hv
    refine ⟨⟨cur, hh⟩, fun j hj => ⟨none, 0, 0, ?_, SL.nil_ w, fun h0 => absurd h0 (by omega)⟩⟩
    rw [h.cellAt j (by simpa using hj)]
    simp [hj]

set_option maxRecDepth 100000 in
set_option maxHeartbeats 2000000 in
theorem agen_any (n : Nat) (w : World) (hn : n ≤ 6) :
    Calls Try.prog 70 #[.int .i64 n] w fun e w' => e = .returned (.slice (some ⟨w.heap.size, 0, none⟩) n n) ∧ ImB w' w.heap.size n (fun j => [(j : Int) + 1]) ∧ Below w.heap.size w w' := by
  obtain ⟨i0, hi0, hz0, hz1, hz2⟩ := info_parts (show (Try.prog.info? 22).map (fun i => (i.zero, i.size, i.bytes)) = some (some (.slice none 0 0), 1, 24) by kernel_rfl)
  go_enter Try.func70, Try.ntmps70
  go_wp2_with (at_make; refine wpList_make_full _ rfl _ _ 26 rfl w.heap.size 22 i0 (.slice none 0 0) 1 Try.underlying26 hi0 hz0 hz1 .i64 .i64 _ _ n rfl rfl rfl rfl (by rw [hz2]; omega) (by unfold maxLen; omega) (Nat.le_refl _) ?_; intro w2 hown2 hg2)
  have hB2 : Below w.heap.size w w2 := (Below.refl _ _).grown hg2 (Nat.le_refl _) (by intro k hk; cases hk)
  have HM2 := hide (OwnV.imB hown2)
  have HB2 := hide hB2
  clear hown2 hg2 hi0 hz0 hz1 hz2 hB2
  go_loopw [9] (fun iv wr => ∃ k : Nat, iv = .int .i64 k ∧ k ≤ n ∧ Hid (ImB wr w.heap.size n (fun j => if j < k then [(j : Int) + 1] else [])) ∧ Hid (Below w.heap.size w wr)) (fun iv _ => n - (intOf iv).toNat)
  case atStart => exact ⟨0, rfl, Nat.zero_le _, by simpa using HM2, HB2⟩
  case round =>
    clear HM2 HB2
    obtain ⟨k, rfl, hk, HM, HB⟩ := hrel
    by_cases hlt : k < n
    · have hwk : IntKind.i64.wrap ((k : Int) + 1) = (k : Int) + 1 := by rw [IntKind.wrap_i64]; omega
      have hal : Below wr.heap.size wr (wr.alloc (.cells #[.int .i64 ((k : Int) + 1)] 3)) := (Below.refl _ _).alloc (Nat.le_refl _) _
      have hM1 := HM.out.below hal
      have hgl := HM.out.lt
      have hL1 := SL.lit wr [(k : Int) + 1] (by simp) (cs := #[.int .i64 ((k : Int) + 1)]) rfl (m := 1) rfl
      obtain ⟨_, _, _, k0, _, _⟩ := hM1.at_ k hlt
      have f0 := hM1.frozen k
      have hM2 := hM1.set_ hlt hL1 (fun _ ad e => by injection e with e; subst e; exact hgl)
      have HM3 := hide (hM2.congr (Y := fun j => if j < k + 1 then [(j : Int) + 1] else []) (fun j hj => by
        by_cases e : j = k
        · subst e; simp
        · by_cases e2 : j < k
          · simp [e, e2, show j < k + 1 by omega]
          · simp [e, e2, show ¬ j < k + 1 by omega]))
      have HB3 := hide ((HB.out.trans (hal.mono HB.out.size)).setCell (p := ⟨w.heap.size, k, none⟩) (Nat.le_refl _) (.slice (some ⟨wr.heap.size, 0, none⟩) 1 1))
      have hsw := World.setCell_alloc_past (w := wr) (.cells #[.int .i64 ((k : Int) + 1)] 3) w.heap.size k (.slice (some ⟨wr.heap.size, 0, none⟩) 1 1) hgl
      rw [hsw] at HM3 HB3
      clear hM1 hM2 hL1 hal hsw
      go_wp2_with fail
      go_roundw
      case rel => exact ⟨k + 1, by go_num, by omega, HM3, HB3⟩
      case measure => simp [intOf]; omega
    · have hkn : k = n := by omega
      have HE := hide (HM.out.congr (Y := fun j => [(j : Int) + 1]) (fun j hj => by simp [show j < k by omega]))
      clear hkn HM
      go_wp2_with fail
      go_ret
      exact ⟨rfl, HE.out, HB.out⟩
end Go.Proofs.Ytoaiblhlpdaeoaa
/- Ranges over functions: a region that draws its order in a round; slices.Backward over integers. -/
namespace Go.Proofs.Ytoaiblhlpdaeoaa
set_option linter.unusedVariables false
set_option linter.unusedSimpArgs false
open Go.RowKit Go.Shelf
attribute [local go_sem] Oper.semAt_some

/-! ### a region that draws its order, in a round -/
section
variable {P : Program} {l n : Nat} {ops : Array Oper} {Q : Exit → Act → World → Prop} {md : Region.Mode}
theorem oper_inRound {o : Oper} {a : Act} {w : World} {K : Act → World → Prop} (hd : ∀ c, o.op ≠ .defer c) (h : o.wp P a w K Q) : o.wpIn (Fence.wide.inRound l) n P a w K Q := by
  refine ⟨fun f _ => trivial, ?_⟩
  rw [Oper.semAt_eq _ _ _ hd]
  unfold Oper.wp at h
  generalize (execOp a.eval o).run P w = r at *
  cases r with
  | ok x w' =>
    cases x with
    | value v => exact h
    | skip => exact h
    | defer d => exact h
    | enter f args => exact ⟨(fun h => by cases h), CallsIn.inRound l (callsIn_wide.2 h)⟩
    | row row args => exact ⟨(fun h => by cases h), fun c cs _ => by
        obtain ⟨v, w', r, s⟩ := h c cs
        exact ⟨v, w', r, stepsIn_wide.2 s⟩⟩
    | _ => exact h.elim
  | halt x w' =>
    cases x <;> exact h
def noDefer (ops : Array Oper) : Bool := ops.all fun o => match o.op with | .defer _ => false | _ => true
theorem noDefer_spec (h : noDefer ops = true) {i : Nat} {o : Oper} (hi : ops[i]? = some o) : ∀ c, o.op ≠ .defer c := fun c e => by
  have h1 := (Array.all_eq_true'.1 h) o (Array.mem_of_getElem? hi)
  rw [e] at h1
  cases h1
theorem wpOp_inRound (hd : noDefer ops = true) (hL : ¬ LetsOut Q) {i : Nat} {K : Act → World → Prop} {a : Act} {w : World} (h : wpOp P ops Q i K a w) : wpOpIn (Fence.wide.inRound l) n P ops Q i K a w := by
  unfold wpOp at h
  unfold wpOpIn
  split
  · next e => rw [e] at h; exact h
  · next o e =>
    rw [e] at h
    simp only at h
    split
    · next hw =>
      rw [if_pos hw] at h
      rcases h with h | h
      · exact oper_inRound (noDefer_spec hd e) h
      · exact absurd h.2 hL
    · next hw =>
      rw [if_neg hw] at h
      exact ⟨fun f _ => trivial, h⟩
theorem wpAny_inRound (hd : noDefer ops = true) (hL : ¬ LetsOut Q) : ∀ (fuel : Nat) (listed : Array Bool) (a : Act) (w : World), wpAny P md ops Q fuel listed a w → wpAnyIn (Fence.wide.inRound l) n P md ops Q fuel listed a w
  | 0, _, _, _, h => h
  | fuel + 1, _, _, _, h => ⟨h.1, fun i hi => wpOpIn_mono (fun a w h => wpAny_inRound hd hL fuel _ a w h) (wpOp_inRound hd hL (h.2 i hi))⟩
theorem noOut (hL : ∀ a w, ¬ Q .outgrown a w) : ¬ LetsOut (NoPanic Q) := fun ⟨a, w, h⟩ => hL a w h
/-- The same, where operation t breaks S. -/
theorem wpIn_region_T {S : World → Prop} {id : Nat} {a : Act} {w : World} (t : Nat) (hm : P.follows .mixedOrders = true) (hd : noDefer ops = true) (hL : ∀ a w, ¬ Q .outgrown a w) (hS : S w.drew)
    (h : S w.drew → wpT P .any ops (NoPanic Q) S t ops.size (Array.replicate ops.size false) a w.drew) : (Code.region id ops true).wpIn (Fence.wide.inRound l) n P Q a w :=
  wpIn_mono (wpIn_region_any (Q := NoPanic Q) hm (wpAny_inRound hd (noOut hL) _ _ _ _ (wpT_any _ (h hS)))) NoPanic.imp
end

/-! ### slices.Backward -/
/-- What the iterator reads: the slice in its box, an integer in each cell. -/
def BackR (V : Nat → Int → Prop) (Bs : Nat) (A : Option Addr) (m c : Nat) (W : World) : Prop :=
  W.cell? ⟨Bs, 0, none⟩ = some (.slice A m c) ∧ ∀ j, j < m → ∃ ad v, A = some ad ∧ W.cell? (ad.add j) = some (.int .i64 v) ∧ V j v
/-- An index and a number. -/
abbrev BackX (m : Nat) := { p : Nat × Int // p.1 < m }
/-- These have come: the last ones, from the end. -/
def BackS {m : Nat} (V : Nat → Int → Prop) (ys : List (BackX m)) : Prop := ys.length ≤ m ∧ ∀ k y, ys[k]? = some y → y.1.1 = m - 1 - k ∧ V (m - 1 - k) y.1.2
theorem BackS.snoc {m : Nat} {V : Nat → Int → Prop} {ys : List (BackX m)} (h : BackS V ys) (hl : ys.length < m) {y : BackX m} (h1 : y.1.1 = m - 1 - ys.length) (h2 : V (m - 1 - ys.length) y.1.2) : BackS V (ys ++ [y]) :=
  ⟨by simp; omega, fun k z hz => by
    by_cases hk : k < ys.length
    · rw [List.getElem?_append_left hk] at hz; exact h.2 k z hz
    · rw [List.getElem?_append_right (by omega)] at hz
      have hk2 : k = ys.length := by
        by_cases e : k - ys.length = 0
        · omega
        · rw [List.getElem?_eq_none (by simp; omega)] at hz; cases hz
      subst hk2
      simp at hz
      subst hz
      exact ⟨h1, h2⟩⟩

theorem eBackX : ∀ args w, (callFunc 104 args).run Try.prog w = .ok (.enter 104 args) w := enters (fn := Try.f104) (by kernel_rfl) (by kernel_rfl) (by kernel_rfl)

set_option maxRecDepth 100000 in
set_option maxHeartbeats 2000000 in
theorem backF_any (A : Option Addr) (m c : Nat) (w : World) :
    Calls Try.prog 71 #[.slice A m c] w fun e w' => e = .returned (.func (.func 104) #[] #[.pointer (some ⟨w.heap.size, 0, none⟩)]) ∧ w' = w.alloc (.cells #[.slice A m c] 22) := by
  have hmf : ∀ (fn : Fn) (first cap : Array Value) (w : World), (Instr.makeFunc fn first cap).run Try.prog w = .ok (.func fn first cap) w := fun _ _ _ _ => rfl
  go_enter Try.func71, Try.ntmps71
  go_wp2_with fail
  go_ret
  exact ⟨rfl, rfl⟩

theorem backK_b {V : Nat → Int → Prop} {Bs : Nat} {A : Option Addr} {m c : Nat} (W : World) (l : Nat) (o o' : Obj) (h : W.heap[l]? = some o) (ho : o.isCells = false) : BackR V Bs A m c W → BackR V Bs A m c (W.putObj l o') := fun hR =>
  have hk : ∀ {p : Addr} {v : Value}, W.cell? p = some v → (W.putObj l o').cell? p = some v := fun hc => cell_kept hc (grownBy_putObj' W l o') (fun r e => by cases e; exact ⟨o, h, ho⟩)
  ⟨hk hR.1, fun j hj => by
    obtain ⟨ad, v, h1, h2, h3⟩ := hR.2 j hj
    exact ⟨ad, v, h1, hk h2, h3⟩⟩
theorem BackR.setCell {V : Nat → Int → Prop} {Bs : Nat} {A : Option Addr} {m c : Nat} {W : World} (h : BackR V Bs A m c W) {b : Nat} (hb : Bs ≠ b) (hA : 0 < m → ∀ ad, A = some ad → ad.block ≠ b) (i : Nat) (v : Value) : BackR V Bs A m c (W.setCell ⟨b, i, none⟩ v) :=
  ⟨by rw [← h.1]; exact World.cell?_setCell_other (w := W) (a := ⟨b, i, none⟩) (b := ⟨Bs, 0, none⟩) v (by intro e; exact hb (congrArg Addr.block e).symm),
  fun j hj => by
    obtain ⟨ad, u, h1, h2, h3⟩ := h.2 j hj
    refine ⟨ad, u, h1, ?_, h3⟩
    rw [← h2]
    exact World.cell?_setCell_other (w := W) (a := ⟨b, i, none⟩) (b := ad.add j) v (by intro e2; exact hA (by omega) ad h1 (by have := congrArg Addr.block e2; rw [block_of_add] at this; exact this.symm))⟩
theorem BackR.ofIL {Bs : Nat} {A : Option Addr} {m c : Nat} {W : World} {xs : List Int} (h1 : W.cell? ⟨Bs, 0, none⟩ = some (.slice A m c)) (h2 : IL W A m xs) : BackR (fun j v => v = xs.getD j 0) Bs A m c W :=
  ⟨h1, fun j hj => by
    obtain ⟨ad, e, hc⟩ := h2.at_ hj
    exact ⟨ad, _, e, hc, rfl⟩⟩
end Go.Proofs.Ytoaiblhlpdaeoaa
