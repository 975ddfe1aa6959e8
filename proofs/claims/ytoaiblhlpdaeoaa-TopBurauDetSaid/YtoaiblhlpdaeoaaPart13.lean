/- Several texts in one. -/
import Derived.Test.YtoaiblhlpdaeoaaPart9
import Derived.Test.YtoaiblhlpdaeoaaPart5
import Derived.Test.YtoaiblhlpdaeoaaPart12
import Derived.Test.YtoaiblhlpdaeoaaPart4
import Derived.Test.YtoaiblhlpdaeoaaPart3
import Derived.Test.YtoaiblhlpdaeoaaPart1
import Derived.Test.YtoaiblhlpdaeoaaBase1
import Derived.Test.YtoaiblhlpdaeoaaPart6
/- Package braid: identity. -/
namespace Go.Proofs.Ytoaiblhlpdaeoaa
set_option linter.unusedVariables false
set_option linter.unusedSimpArgs false
open Go.RowKit

/-- The unit matrix, new. -/
def GivesId (w : World) (n : Nat) (e : Ending) (w' : World) : Prop :=
  ∃ go gr, e = .returned (.slice (some ⟨go, 0, none⟩) n n) ∧ MatB w' w.heap.size go n gr n oneM ∧ Below w.heap.size w w'
theorem MatB.start {w : World} {base go n : Nat} {X : Mtx LP} {cs : Array Value} (h : Blk w go 58 cs) (hb : base ≤ go) : MatB w base go n (fun _ => 0) 0 X :=
  ⟨⟨_, h⟩, fun i hi => absurd hi (by omega), fun i hi => absurd hi (by omega), fun i hi => absurd hi (by omega), fun i j hi => absurd hi (by omega), hb, fun i hi => absurd hi (by omega)⟩
/-- One row more. -/
theorem MatB.more {w w' : World} {base go n : Nat} {gr : Nat → Nat} {k : Nat} {X : Mtx LP} {v : Value} (h : MatB w base go n gr k X) {g : Nat} (hb : Below w.heap.size w w') (hg : w.heap.size ≤ g) (hbase : base ≤ w.heap.size) (hc : w.cell? ⟨go, k, none⟩ = some v) (hrow : ∀ K, RowB w' g n K (X k)) :
    MatB (w'.setCell ⟨go, k, none⟩ (.slice (some ⟨g, 0, none⟩) n n)) base go n (fun i => if i = k then g else gr i) (k + 1) X := by
  have hlt := h.lt
  have hc' : w'.cell? ⟨go, k, none⟩ = some v := (hb.cell (p := ⟨go, k, none⟩) hlt).trans hc
  have hne : ∀ i, i < k → (if i = k then g else gr i) = gr i := fun i hi => if_neg (by omega)
  have hch : w'.grownBy (w'.setCell ⟨go, k, none⟩ (.slice (some ⟨g, 0, none⟩) n n)) (some go) := chg_set
  have hgl : ∀ i, i < k → gr i < w.heap.size := fun i hi => (h.row i hi).lt
  refine ⟨?_, fun i hi => ?_, fun i hi => ?_, fun i hi => ?_, fun i j hi hj e => ?_, h.base_le.1, fun i hi => ?_⟩
  · obtain ⟨cs, hcs⟩ := (h.below hb).blk
    exact ⟨_, hcs.set_ k _⟩
  · by_cases e : i = k
    · subst e
      show _ = some (Value.slice (some ⟨if i = i then g else gr i, 0, none⟩) n n)
      rw [if_pos rfl]
      exact World.cell?_setCell_same w' _ _ hc'
    · show _ = some (Value.slice (some ⟨if i = k then g else gr i, 0, none⟩) n n)
      rw [if_neg e, World.cell?_setCell_other w' _ _ _ (by intro h2; simp only [Addr.mk.injEq] at h2; omega)]
      exact (h.below hb).out i (by omega)
  · show RowB _ (if i = k then g else gr i) n _ (X i)
    have hF : ∀ b, FreB go (fun i => if i = k then g else gr i) (k + 1) b → b ≠ go := fun b hb => hb.1
    by_cases e : i = k
    · subst e
      rw [if_pos rfl]
      exact (hrow _).grown hch (by omega) hF
    · rw [if_neg e]
      have h1 := (h.row i (by omega)).mono (K' := FreB go (fun i => if i = k then g else gr i) (k + 1)) fun b hbl hf => ⟨hf.1, fun j hj => by
        show (if j = k then g else gr j) ≠ b
        split
        · omega
        · exact hf.2 j (by omega)⟩
      exact (h1.below hb).grown hch (fun e2 => h.ne i (by omega) e2.symm) hF
  · show (if i = k then g else gr i) ≠ go
    split
    · omega
    · exact h.ne i (by omega)
  · replace e : (if i = k then g else gr i) = (if j = k then g else gr j) := e
    by_cases e1 : i = k
    · by_cases e2 : j = k
      · omega
      · rw [if_pos e1, if_neg e2] at e
        have := hgl j (by omega)
        omega
    · by_cases e2 : j = k
      · rw [if_neg e1, if_pos e2] at e
        have := hgl i (by omega)
        omega
      · rw [if_neg e1, if_neg e2] at e
        exact h.inj i j (by omega) (by omega) e
  · show base ≤ (if i = k then g else gr i)
    split
    · omega
    · exact h.base_le.2 i (by omega)
/-- The unit matrix behind k rows. -/
def uM (k : Nat) : Mtx LP := fun i c => if i < k then oneM i c else 0

set_option maxRecDepth 100000 in
set_option maxHeartbeats 8000000 in
theorem identity_any (n : Nat) (w : World) (hn : n ≤ 6) : Calls Try.prog 75 #[.int .i64 n] w (GivesId w n) := by
  obtain ⟨i0, hi0, hz0, hz1, hz2⟩ := info_parts prows_info
  obtain ⟨i1, hi1, hy0, hy1, hy2⟩ := info_parts polys_info
  have HI := hide hi1
  have HY0 := hide hy0
  have HY1 := hide hy1
  have HY2 := hide hy2
  clear hi1 hy0 hy1 hy2
  go_enter Try.func75, Try.ntmps75
  go_wp2_with (at_make; refine wpList_make_full _ rfl _ _ 50 rfl w.heap.size 58 i0 (.slice none 0 0) 1 Try.underlying50 hi0 hz0 hz1 .i64 .i64 _ _ n rfl rfl rfl rfl (by rw [hz2]; omega) (by unfold maxLen; omega) (Nat.le_refl _) ?_; intro w2 hown2 hg2)
  have hB2 : Below w.heap.size w w2 := (Below.refl _ _).grown hg2 (Nat.le_refl _) (by intro k hk; cases hk)
  have ho2 : OwnG 58 1 w2 w.heap.size (some ⟨w.heap.size, 0, none⟩) n n (madeCells #[.slice none 0 0] (n * 1)).toList := ⟨hown2, by omega⟩
  obtain ⟨cs, _, hcs⟩ := ho2.cells _ rfl
  have HM2 : Hid (MatB w2 w.heap.size w.heap.size n (fun _ => 0) 0 (uM 0)) := hide (MatB.start hcs (Nat.le_refl _))
  have HC2 : Hid (∀ i, i < n → ∃ v, w2.cell? ⟨w.heap.size, i, none⟩ = some v) := hide (fun i hi => by
    have h := ho2.cellAt (j := i) (by omega)
    rw [h, Array.getElem?_toList]
    exact ⟨_, Array.getElem?_eq_getElem (by unfold madeCells; simp; omega)⟩)
  have HB2 := hide hB2
  clear hown2 hg2 hB2 ho2 hcs
  go_loopw [9] (fun iv wr => ∃ (k : Nat) (gr : Nat → Nat), iv = .int .i64 k ∧ k ≤ n ∧ Hid (MatB wr w.heap.size w.heap.size n gr k (uM k)) ∧ Hid (∀ i, i < n → ∃ v, wr.cell? ⟨w.heap.size, i, none⟩ = some v) ∧ Hid (Below w.heap.size w wr)) (fun iv _ => n - (intOf iv).toNat)
  case atStart => exact ⟨0, _, rfl, Nat.zero_le _, HM2, HC2, HB2⟩
  case round =>
    clear HM2 HB2 HC2
    obtain ⟨k, gr, rfl, hk, HM, HC, HB⟩ := hrel
    by_cases hlt : k < n
    · obtain ⟨v, hv⟩ := HC.out k hlt
      have hfr : ∃ cs, Blk wr w.heap.size 58 cs := HM.out.blk
      obtain ⟨cs9, hcs9⟩ := hfr
      have HK9 := hide hcs9
      have hbw := HB.out.size
      have HV := hide hv
      clear hcs9 hv
      go_upto_region 6 with (at_make; refine wpList_make_full _ rfl _ _ 58 rfl wr.heap.size 54 i1 (.agg #[.int .i64 0, .slice none 0 0]) 2 Try.underlying58 HI.out HY0.out HY1.out .i64 .i64 _ _ n rfl rfl rfl rfl (by rw [HY2.out]; omega) (by unfold maxLen; omega) (Nat.le_refl _) ?_; intro w3 hown3 hg3; have hb3 : Below wr.heap.size wr w3 := (Below.refl _ _).grown hg3 (Nat.le_refl _) (by intro k hk; cases hk); have hv3 := (hb3.cell (p := ⟨w.heap.size, k, none⟩) HK9.out.lt).trans HV.out; have hf3 := (HK9.out.below hb3 HK9.out.lt).frozen k)
      have hz3 := RowB.zero (base := wr.heap.size) (g := wr.heap.size) (n := n) (w := w3) (K := fun _ => True) (by
        have h := hown3
        rw [show (Value.agg #[Value.int IntKind.i64 0, Value.slice none 0 0]).cells = #[.int .i64 0, .slice none 0 0] from rfl] at h
        exact h) (by omega)
      have hM4 := HM.out.more (g := wr.heap.size) (X := uM k) hb3 (Nat.le_refl _) hbw HV.out (fun K => ((RowB.zero (base := wr.heap.size) (g := wr.heap.size) (n := n) (w := w3) (K := K) (by
        have h := hown3
        rw [show (Value.agg #[Value.int IntKind.i64 0, Value.slice none 0 0]).cells = #[.int .i64 0, .slice none 0 0] from rfl] at h
        exact h) (by omega)).congr (Y := uM k k) fun j _ => (if_neg (Nat.lt_irrefl k)).symm))
      have hC4 : ∀ i, i < n → ∃ v, (w3.setCell ⟨w.heap.size, k, none⟩ (.slice (some ⟨wr.heap.size, 0, none⟩) n n)).cell? ⟨w.heap.size, i, none⟩ = some v := fun i hi => by
        by_cases e : i = k
        · subst e
          exact ⟨_, World.cell?_setCell_same w3 _ _ hv3⟩
        · rw [World.cell?_setCell_other w3 _ _ _ (by intro h2; simp only [Addr.mk.injEq] at h2; omega)]
          obtain ⟨v', hv'⟩ := HC.out i hi
          exact ⟨v', (hb3.cell (p := ⟨w.heap.size, i, none⟩) HK9.out.lt).trans hv'⟩
      have hb4 := (HB.out.trans (hb3.mono hbw)).setCell (p := ⟨w.heap.size, k, none⟩) (Nat.le_refl _) (.slice (some ⟨wr.heap.size, 0, none⟩) n n)
      have hgne : wr.heap.size ≠ w.heap.size := by have := HK9.out.lt; omega
      obtain ⟨g, hg⟩ : ∃ g, wr.heap.size = g := ⟨_, rfl⟩
      obtain ⟨W4, hW4⟩ : ∃ W, w3.setCell ⟨w.heap.size, k, none⟩ (.slice (some ⟨wr.heap.size, 0, none⟩) n n) = W := ⟨_, rfl⟩
      rw [hW4] at hM4 hC4 hb4 ⊢
      rw [hg] at hM4 hgne ⊢
      obtain ⟨gr4, hgr4⟩ : ∃ f : Nat → Nat, f = fun i => if i = k then g else gr i := ⟨_, rfl⟩
      have HGK : Hid (gr4 k = g) := hide (by rw [hgr4]; exact if_pos rfl)
      rw [← hgr4] at hM4
      have HM4 := hide hM4
      have HC4 := hide hC4
      have HB4 := hide hb4
      have hoc := hM4.out k (by omega)
      rw [HGK.out] at hoc
      have HOC := hide hoc
      have hgo : w.heap.size < W4.heap.size := hM4.lt
      have hrw := hM4.row k (by omega)
      rw [HGK.out] at hrw
      have hgl : g < W4.heap.size := hrw.lt
      have HRW := hide hrw
      clear hown3 hg3 hb3 hv3 hf3 hM4 hC4 hb4 hg hW4 hgr4 hoc hrw HM HC HB HV HK9 hbw hz3 hgne
      obtain ⟨i2, hi2, hx0, hx1, hx2⟩ := info_parts int_info
      have HI2 := hide hi2
      have HX0 := hide hx0
      have HX1 := hide hx1
      clear hi2 hx0 hx1 hx2
      refine wp_region_T (S := fun x => Below W4.heap.size W4 x) 8 (by kernel_rfl) (Below.refl _ _).drew (fun hS => ?_)
      refine wpT_tk 0 (v := .slice (some ⟨w.heap.size, 0, none⟩) n n) rfl (by kernel_rfl) (by kernel_rfl) (by kernel_rfl) (by kernel_rfl) (yi rfl fun x hx => gives_move (.inl rfl) rfl) hS ?_
      go_frame
      refine wpT_tk 1 (v := .int .i64 k) rfl (by kernel_rfl) (by kernel_rfl) (by kernel_rfl) (by kernel_rfl) (yi rfl fun x hx => gives_move (.inl rfl) rfl) hS ?_
      go_frame
      refine wpT_tk 2 (v := .pointer (some ⟨w.heap.size, k * 1, none⟩)) rfl (by kernel_rfl) (by kernel_rfl) (by kernel_rfl) (by kernel_rfl) (yi rfl fun x hx => gives_indexB rfl Try.underlying50 (fun w => by kernel_rfl) rfl rfl hlt) hS ?_
      go_frame
      rw [Nat.mul_one]
      refine wpT_tk 3 (v := .slice (some ⟨g, 0, none⟩) n n) rfl (by kernel_rfl) (by kernel_rfl) (by kernel_rfl) (by kernel_rfl) (yi rfl fun x hx => gives_load1 rfl (by kernel_rfl) rfl ((hx.cell (p := ⟨w.heap.size, k, none⟩) hgo).trans HOC.out)) hS ?_
      go_frame
      refine wpT_tk 4 (v := .int .i64 k) rfl (by kernel_rfl) (by kernel_rfl) (by kernel_rfl) (by kernel_rfl) (yi rfl fun x hx => gives_move (.inl rfl) rfl) hS ?_
      go_frame
      refine wpT_1 5 rfl (by kernel_rfl) ?_
      refine wp_lit_int rfl Try.underlying22 i2 HI2.out HX0.out HX1.out (v := 1) rfl ?_
      have hS5 : Below W4.heap.size W4 (W4.drew.alloc (.cells #[.int .i64 1] 3)) := hS.alloc (Nat.le_refl _) _
      have hl5 := SL.lit W4.drew [1] (by decide) (cs := #[.int .i64 1]) rfl (m := 1) rfl
      refine ⟨fun _ => hS5, ?_⟩
      go_frame
      refine wpT_1 6 rfl (by kernel_rfl) ?_
      refine wp_call [.int .i64 0, .slice (some ⟨W4.drew.heap.size, 0, none⟩) 1 1] rfl rfl eBpoly rfl ((bpoly_any 0 _ 1 1 (W4.drew.alloc (.cells #[.int .i64 1] 3))).mono ?_)
      rintro e w6 ⟨rfl, hb6⟩
      have hS6 : Below W4.heap.size W4 w6 := hS5.trans (hb6.mono hS5.size)
      refine ⟨_, rfl, fun _ => hS6, ?_⟩
      go_frame
      refine wpT_tk 7 (v := .pointer (some ⟨g, k * 2, none⟩)) rfl (by kernel_rfl) (by kernel_rfl) (by kernel_rfl) (by kernel_rfl) (yi rfl fun x hx => gives_indexB rfl Try.underlying58 (fun w => by kernel_rfl) rfl rfl hlt) hS6 ?_
      go_frame
      refine wpT_1 8 rfl (by kernel_rfl) ?_
      have hrow6 := HRW.out.below hS6
      obtain ⟨_, _, _, q0, q1, _⟩ := hrow6.at_ k hlt
      have f0 := hrow6.frozen (k * 2)
      have f1 := hrow6.frozen (k * 2 + 1)
      refine wp_store_mid _ _ _ rfl g (k * 2) #[.int .i64 0, .slice (some ⟨W4.drew.heap.size, 0, none⟩) 1 1] rfl rfl (fun j hj => ?_) (by kernel_rfl) (by kernel_rfl) ?_
      · replace hj : j < 2 := hj
        match j, hj with
        | 0, _ => exact ⟨by rw [Nat.add_zero, q0]; rfl, f0⟩
        | 1, _ => exact ⟨by rw [q1]; rfl, f1⟩
      refine ⟨fun h => absurd rfl h, ?_⟩
      go_frame
      refine wpT_done (by kernel_rfl) (noPanic_mk ?_) _
      have HM6 := HM4.out.below hS6
      have hl6 : SL w6 (some ⟨W4.heap.size, 0, none⟩) 1 1 (LP.canon 1).2 := by rw [canon_one]; exact hl5.below hb6
      have hfr := HM4.out.fresh
      have hset := hrow6.set_ (k := k) (x := 1) (fun h => h.2 k (Nat.lt_succ_self k) HGK.out) hlt (SLK.mk hl6 (fun _ ad e => by injection e with e; subst e; exact hfr _ (Nat.le_refl _)))
      rw [canon_one] at hset
      have hchg : w6.grownBy ((w6.setCell ⟨g, k * 2, none⟩ (.int .i64 0)).setCell ⟨g, k * 2 + 1, none⟩ (.slice (some ⟨W4.heap.size, 0, none⟩) 1 1)) (some (gr4 k)) := by rw [HGK.out]; exact chg_trans chg_set chg_set
      have hM7 := HM6.chg (r := k) (Y := uM (k + 1)) (Nat.lt_succ_self k) hchg (by
        rw [HGK.out]
        refine hset.congr fun j hj => ?_
        show (if j = k then (1 : LP) else uM k k j) = uM (k + 1) k j
        unfold uM
        rw [if_neg (Nat.lt_irrefl k), if_pos (Nat.lt_succ_self k)]
        unfold oneM
        by_cases e : j = k
        · rw [if_pos e, if_pos e.symm]
        · rw [if_neg e, if_neg (fun h => e h.symm)]) (fun i hi hne c hc => by
        unfold uM
        rw [if_pos (by omega), if_pos (by omega)])
      have HM7 := hide hM7
      have HB7 := hide (((HB4.out.trans (hS6.mono HB4.out.size)).setCell (p := ⟨g, k * 2, none⟩) (HM4.out.base_le.2 k (Nat.lt_succ_self k) |> fun h => by rw [HGK.out] at h; exact h) (.int .i64 0)).setCell (p := ⟨g, k * 2 + 1, none⟩) (HM4.out.base_le.2 k (Nat.lt_succ_self k) |> fun h => by rw [HGK.out] at h; exact h) (.slice (some ⟨W4.heap.size, 0, none⟩) 1 1))
      have HC7 : Hid (∀ i, i < n → ∃ v, ((w6.setCell ⟨g, k * 2, none⟩ (.int .i64 0)).setCell ⟨g, k * 2 + 1, none⟩ (.slice (some ⟨W4.heap.size, 0, none⟩) 1 1)).cell? ⟨w.heap.size, i, none⟩ = some v) := hide (fun i hi => by
        obtain ⟨v', hv'⟩ := HC4.out i hi
        refine ⟨v', ?_⟩
        have hne := HM4.out.ne k (Nat.lt_succ_self k)
        rw [HGK.out] at hne
        rw [World.cell?_setCell_other _ _ _ _ (by intro h2; simp only [Addr.mk.injEq] at h2; omega), World.cell?_setCell_other _ _ _ _ (by intro h2; simp only [Addr.mk.injEq] at h2; omega)]
        exact (hS6.cell (p := ⟨w.heap.size, i, none⟩) hgo).trans hv')
      clear hS hS5 hS6 hl5 hl6 hb6 hrow6 q0 q1 f0 f1 HM6 hfr hset hchg hM7 HM4 HC4 HB4 HOC HRW
      rw [show W4.drew.heap.size = W4.heap.size from rfl, show w6.setCells g (k * 2) [.int .i64 0, .slice (some ⟨W4.heap.size, 0, none⟩) 1 1] = (w6.setCell ⟨g, k * 2, none⟩ (.int .i64 0)).setCell ⟨g, k * 2 + 1, none⟩ (.slice (some ⟨W4.heap.size, 0, none⟩) 1 1) from rfl]
      generalize (w6.setCell ⟨g, k * 2, none⟩ (.int .i64 0)).setCell ⟨g, k * 2 + 1, none⟩ (.slice (some ⟨W4.heap.size, 0, none⟩) 1 1) = w7 at *
      go_wp2_with fail
      go_roundw
      case rel => exact ⟨k + 1, _, by go_num, by omega, HM7, HC7, HB7⟩
      case measure => simp [intOf]; omega
    · have hkn : k = n := by omega
      have HE : Hid (MatB wr w.heap.size w.heap.size n gr n oneM) := hide (by
        have h := HM.out
        rw [hkn] at h
        exact h.congr fun i hi c _ => if_pos hi)
      clear HM HC
      go_wp2_with fail
      go_ret
      exact ⟨_, _, rfl, HE.out, HB.out⟩

set_option maxRecDepth 100000 in
set_option maxHeartbeats 8000000 in
theorem burau_any' (F : PolyC) (m : Int) (A : Option Addr) (n c : Nat) (xs : List Int) (w : World) (ha : SL w A n c xs) (hm : (Lit.int .i64 m).wf = true) :
    Calls Try.prog 34 #[.int .i64 m, .slice A n c] w (GivesMP w (burE m xs) (burL m xs)) := by
  have HC := hide (bcheck_any m A n c xs w ha hm)
  have HL := hide ha.il.len
  have HA := hide ha.il
  have hns := ha.il.small
  clear ha
  obtain ⟨f, hf⟩ : ∃ f, bfault m xs = f := ⟨_, rfl⟩
  have HF := hide hf
  rw [hf] at HC
  clear hf
  by_cases h0 : f = 0
  case neg =>
    have HE : Hid (burE m xs = f) := hide (by unfold burE; rw [HF.out, if_neg h0])
    have HV : Hid (burL m xs = []) := hide (by unfold burL; rw [HE.out, if_neg h0])
    have hne : (f != 0) = true := by simpa using h0
    clear h0
    go_enter Try.func34, Try.ntmps34
    go_wp2_with fail
    refine HC.out.mono ?_
    rintro e w1 ⟨rfl, hww⟩
    subst hww
    go_wp2_with fail
    go_ret2
    rw [HE.out, HV.out]
    exact ⟨none, 0, 0, rfl, ⟨rfl, by omega, fun _ => ⟨rfl, rfl⟩, Nat.le_refl _, fun h => absurd h (by omega)⟩, Below.refl _ _⟩
  subst h0
  by_cases h16 : 16 < n
  · have HE : Hid (burE m xs = 2) := hide (by unfold burE; rw [HF.out, if_pos rfl, if_pos (by rw [HL.out]; exact h16)])
    have HV : Hid (burL m xs = []) := hide (by unfold burL; rw [HE.out]; rfl)
    go_enter Try.func34, Try.ntmps34
    go_wp2_with fail
    refine HC.out.mono ?_
    rintro e w1 ⟨rfl, hww⟩
    subst hww
    go_wp2_with fail
    go_ret2
    rw [HE.out, HV.out]
    exact ⟨none, 0, 0, rfl, ⟨rfl, by omega, fun _ => ⟨rfl, rfl⟩, Nat.le_refl _, fun h => absurd h (by omega)⟩, Below.refl _ _⟩
  have HE : Hid (burE m xs = 0) := hide (by unfold burE; rw [HF.out, if_pos rfl, if_neg (by rw [HL.out]; exact h16)])
  have HV : Hid (burL m xs = buL m.toNat xs) := hide (by unfold burL; rw [HE.out, if_pos rfl])
  have hz := bfault_zero HF.out
  obtain ⟨N, hN⟩ : ∃ N : Nat, m = (N : Int) := ⟨m.toNat, by omega⟩
  subst hN
  have hN6 : N ≤ 6 := by omega
  rw [Int.toNat_natCast] at HV
  have HX : Hid (∀ k, k < n → xs.getD k 0 ≠ 0 ∧ (xs.getD k 0).natAbs < N) := hide (fun k hk => by
    have hlx : k < xs.length := by rw [HL.out]; exact hk
    have := hz.2.2.2 (xs.getD k 0) (by rw [show xs.getD k 0 = xs[k] by simp [List.getD, hlx]]; exact List.getElem_mem _)
    omega)
  clear hz
  have HF9 := hide F
  have HP : Hid (∀ l, l < n → 3 ^ l ≤ 20000000) := hide (fun l hl => Nat.le_trans (Nat.pow_le_pow_right (by omega) (show l ≤ 15 by omega)) (by decide))
  have HP16 : Hid (3 ^ n ≤ 100000000) := hide (Nat.le_trans (Nat.pow_le_pow_right (by omega) (show n ≤ 16 by omega)) (by decide))
  have HST : Hid (∀ l, l < n → ∀ r, r < N → ∀ c, c < N → bu N (xs.take (l + 1)) r c = stepR (xs.getD l 0) (bu N (xs.take l) r) c) := hide (fun l hl r hr c hc => by
    have hlx : l < xs.length := by rw [HL.out]; exact hl
    rw [List.take_succ_eq_append_getElem hlx, ← show xs.getD l 0 = xs[l] by simp [List.getD, hlx]]
    exact bu_snoc (HX.out l hl).1 (HX.out l hl).2 hr hc)
  have HBN : Hid (∀ l, l < n → ∀ r, r < N → ∀ j, j < N → LP.N1 (bu N (xs.take l) r j) l (3 ^ l)) := hide (fun l hl r hr j hj => by
    have h := (bu_rn (n := N) (xs.take l)).entry hr hj
    rw [List.length_take, HL.out, Nat.min_eq_left (by omega)] at h
    exact h)
  have HRT : Hid (∀ i, i < N → ∀ j, j < N → LP.Rt (bu N xs i j)) := hide (fun i hi j hj => by
    have h := (bu_rn (n := N) xs).entry hi hj
    rw [HL.out] at h
    exact h.rt (by omega) HP16.out)
  clear F
  go_enter Try.func34, Try.ntmps34
  go_wp2_with fail
  refine HC.out.mono ?_
  rintro e w1 ⟨rfl, hww⟩
  subst hww
  go_wp2_with fail
  refine (identity_any N w hN6).mono ?_
  rintro e w1 ⟨go, gr, rfl, hM, hb⟩
  have HM : Hid (MatB w1 w.heap.size go N gr N (fun i j => if i < 0 then bu N xs i j else bu N (xs.take 0) i j)) := hide (hM.congr fun i hi c hc => (by rw [List.take_zero, if_neg (by omega)]; rfl))
  have HB := hide hb
  clear hM hb
  go_wp2_with fail
  go_loopw [25] (fun iv wr => ∃ k : Nat, iv = .int .i64 k ∧ k ≤ N ∧ Hid (MatB wr w.heap.size go N gr N (fun i j => if i < k then bu N xs i j else bu N (xs.take 0) i j)) ∧ Hid (Below w.heap.size w wr)) (fun iv _ => N - (intOf iv).toNat)
  case atStart => exact ⟨0, rfl, Nat.zero_le _, HM, HB⟩
  case round =>
    clear HM HB
    obtain ⟨k, rfl, hk, HM, HB⟩ := hrel
    by_cases hlt : k < N
    · have hoc := HM.out.out k hlt
      have HML : Hid (MatB wr w.heap.size go N gr N (fun i j => if i < k then bu N xs i j else if i = k then bu N (xs.take 0) i j else bu N (xs.take 0) i j)) := hide (HM.out.congr fun i hi c hc => by
        show (if i < k then _ else _) = if i < k then _ else _
        split
        · rfl
        · split <;> rfl)
      have HBL := HB
      have HLT := hide hlt
      rename World => wo
      clear HM HB
      go_wp2_with fail
      clear hoc hlt
      go_loopw [31] (fun jv wx => ∃ l : Nat, jv = .int .i64 l ∧ l ≤ n ∧ Hid (MatB wx w.heap.size go N gr N (fun i j => if i < k then bu N xs i j else if i = k then bu N (xs.take l) i j else bu N (xs.take 0) i j)) ∧ Hid (Below w.heap.size w wx)) (fun jv _ => n - (intOf jv).toNat)
      case atStart => exact ⟨0, rfl, Nat.zero_le _, HML, HBL⟩
      case round =>
        clear HML HBL
        obtain ⟨l, rfl, hl, HM, HB⟩ := hrel
        by_cases hln : l < n
        · obtain ⟨ad, rfl, hx⟩ := (HA.out.below HB.out).at_ hln
          obtain ⟨hx0, hx1⟩ := HX.out l hln
          have hrow := (HM.out.row k HLT.out).congr (Y := bu N (xs.take l) k) fun j hj => by show (if k < k then _ else if k = k then _ else _) = _; rw [if_neg (Nat.lt_irrefl k), if_pos rfl]
          have HAP := hide (apply_any HF9.out (gr k) N (FreB go gr N) (bu N (xs.take l) k) (xs.getD l 0) l (3 ^ l) wr hrow HM.out.fresh (fun h => h.2 k HLT.out rfl) hx0 hx1 hN6 (by omega) (HP.out l hln) (HBN.out l hln k HLT.out))
          have HS := hide (HST.out l hln)
          clear hrow hx0 hx1
          generalize xs.getD l 0 = x at *
          go_wp2_with fail
          refine HAP.out.mono ?_
          rintro e w2 ⟨rfl, hrow2, hg2⟩
          have hM2 := HM.out.chg (r := k) (Y := fun i j => if i < k then bu N xs i j else if i = k then bu N (xs.take (l + 1)) i j else bu N (xs.take 0) i j) HLT.out hg2 (hrow2.congr fun j hj => by
            show _ = (if k < k then _ else if k = k then _ else _)
            rw [if_neg (Nat.lt_irrefl k), if_pos rfl]
            exact (HS.out k HLT.out j hj).symm) (fun i hi hne c hc => by
            show (if i < k then _ else if i = k then _ else _) = (if i < k then _ else if i = k then _ else _)
            rw [if_neg hne, if_neg hne])
          have HM2 := hide hM2
          have HB2 := hide (HB.out.grown hg2 HB.out.size (fun b hb => by injection hb with hb; rw [← hb]; exact HM.out.base_le.2 k HLT.out))
          clear hrow2 hg2 hM2 HAP HS HM HB hx
          go_wp2_with fail
          go_roundw
          case rel => exact ⟨l + 1, by go_num, by omega, HM2, HB2⟩
          case measure => simp [intOf]; omega
        · have hle : l = n := by omega
          have HM2 : Hid (MatB wr w.heap.size go N gr N (fun i j => if i < k + 1 then bu N xs i j else bu N (xs.take 0) i j)) := hide (HM.out.congr fun i hi c hc => by
            show (if i < k then _ else if i = k then _ else _) = if i < k + 1 then _ else _
            rw [hle, List.take_of_length_le (Nat.le_of_eq HL.out)]
            by_cases h1 : i < k
            · rw [if_pos h1, if_pos (by omega)]
            · by_cases h2 : i = k
              · rw [if_neg h1, if_pos h2, if_pos (by omega)]
              · rw [if_neg h1, if_neg h2, if_neg (by omega)])
          have hlt := HLT.out
          clear HM hle
          go_wp2_with fail
          go_roundw
          case rel => exact ⟨k + 1, by go_num, by omega, HM2, HB⟩
          case measure => simp [intOf]; omega
    · have hkn : k = N := by omega
      have HS : Hid (SPP wr (some ⟨go, 0, none⟩) N N (burL (N : Int) xs)) := hide (by
        rw [HV.out]
        refine (HM.out.congr (Y := bu N xs) fun i hi c hc => ?_).spp (by omega) HRT.out
        exact if_pos (by omega))
      clear HM hkn
      go_wp2_with fail
      go_ret2
      exact ⟨_, _, _, by rw [HE.out]; rfl, HS.out, HB.out⟩

end Go.Proofs.Ytoaiblhlpdaeoaa
/- Package braid keeps its contracts (those that a seat has functions for). -/
namespace Go.Proofs.Ytoaiblhlpdaeoaa
open Go.RowKit
theorem braidC : BraidC where
  check := fun m A n c xs w h hm => (bcheck_any m A n c xs w h hm).mono fun e w' ⟨h1, h2⟩ => ⟨h1, by rw [← h2]; exact Below.refl _ _⟩
  perm := bperm_any -- 41
  expo := bexpo_any -- 39
  inverse := binv_any -- 32
  burau := burau_any' polyC -- 34
end Go.Proofs.Ytoaiblhlpdaeoaa
/- timbref1.Written. -/
namespace Go.Proofs.Ytoaiblhlpdaeoaa
set_option linter.unusedVariables false
set_option linter.unusedSimpArgs false
open Go.RowKit

theorem wrd_splW (p : List Nat) : wrd p = splW (p.length * p.length) p := rfl
theorem wrd_len (p : List Nat) : (wrd p).length ≤ p.length * p.length := by rw [wrd_splW]; exact splW_le
theorem half_len2 : (halfW 2).length = 1 ∧ (halfW 3).length = 3 ∧ (halfW 4).length = 6 ∧ (halfW 5).length = 10 ∧ (halfW 6).length = 15 := by decide +kernel
theorem half_len {n : Nat} (h1 : 2 ≤ n) (h6 : n ≤ 6) : 0 < (halfW n).length ∧ (halfW n).length ≤ 15 ∧ 2 * (halfW n).length = n * (n - 1) := by
  obtain ⟨a, b, c, d, e⟩ := half_len2
  have hn : n = 2 ∨ n = 3 ∨ n = 4 ∨ n = 5 ∨ n = 6 := by omega
  rcases hn with rfl | rfl | rfl | rfl | rfl <;> omega
set_option maxRecDepth 100000 in
set_option maxHeartbeats 2000000 in
theorem repeat_zero (A : Option Addr) (l c : Nat) (xs : List Int) (w : World) (ha : IL w A l xs) (hl6 : l ≤ 1000) :
    Calls Try.prog 60 #[.slice A l c, .int .i64 0] w (GivesOwn w []) := by
  have HM : Hid (∀ w, Calls Try.prog 101 #[.int .u64 l, .int .u64 0] w fun e w' => e = .returned (.tuple #[.int .u64 0, .int .u64 0]) ∧ w = w') := fun w => by
    refine (bits_Mul l 0 (by omega) (by omega) w).mono ?_
    rintro e w' ⟨rfl, rfl⟩
    rw [Nat.mul_zero]
    exact ⟨rfl, rfl⟩
  obtain ⟨i0, hi0, hz0, hz1, hz2⟩ := info_parts int_info
  have HI0 := hide hi0
  have HZ0 := hide hz0
  have HZ1 := hide hz1
  have HI3 : Hid ((Try.prog.info? 3).map (·.size) = some 1) := by
    rw [HI0.out]
    exact congrArg some HZ1.out
  have h48 : i0.bytes * 0 ≤ 281474976710656 := by omega
  clear ha hi0 hz0 hz1 hz2
  go_enter Try.func60, Try.ntmps60
  have HMR : Hid ((w.alloc (.cells (madeCells #[.int .i64 0] 0) 3)).heap[w.heap.size]? = some (.cells (([] : List Value)).toArray 3 (0, 0))) := hide (by
    have h := heap_alloc_new w (.cells (madeCells #[.int .i64 0] 0) 3)
    have e0 : madeCells #[Value.int .i64 0] 0 = #[] := by unfold madeCells; simp
    rw [e0] at h ⊢
    exact h)
  have HB0 := hide ((Below.refl w.heap.size w).alloc (Nat.le_refl _) (.cells (madeCells #[.int .i64 0] 0) 3))
  go_wp2_with (first | (go_at_call 101; refine (HM.out _).mono ?_; rintro e w' ⟨rfl, rfl⟩) | (at_make; refine wpList_make_row _ rfl _ _ 22 rfl 3 i0 (.int .i64 0) Try.underlying22 HI0.out HZ0.out HZ1.out rfl .i64 .i64 0 rfl rfl h48 (by omega) ?_) | ((with_reducible show wpList _ _ _ (Oper.mk _ (.call { callee := .builtin .copy, args := _, argTypes := _ }) _ _ _ _ :: _) _ _); go_loud (refine wpList_copy_splice rfl (.tmp 31) (.tmp 32) 22 22 rfl 3 Try.underlying22 HI3.out (some ⟨w.heap.size, 0, none⟩) A 0 0 l c rfl rfl w.heap.size 0 [] 3 HMR.out [] (by simp) (fun h => absurd h (by simp)) (by simp) (fun v hv => by cases hv) w.heap.size w HB0.out (Nat.le_refl _) ?_; intro w2 hg2 hb2)))
  have HO : Hid (OwnI w2 w.heap.size (some ⟨w.heap.size, 0, none⟩) 0 0 []) := hide (OwnI.ofRow (Nat.le_refl _) (xs := []) (by have h := hg2.out; rw [show splice [] 0 [] = ([] : List Value) from rfl] at h; exact h) rfl (by omega))
  have HB2 := hide hb2
  clear hg2 hb2 HB0 HMR
  go_loop [8] (fun iv => iv = .int .i64 0) (fun iv => 0)
  case atStart => rfl
  case round =>
    obtain rfl := hrel
    go_wp2_with fail
    go_ret
    exact ⟨_, _, _, rfl, HO.out, HB2.out⟩

set_option maxRecDepth 100000 in
set_option maxHeartbeats 2000000 in
theorem repeat_all (A : Option Addr) (l c k : Nat) (xs : List Int) (w : World) (ha : IL w A l xs) (hlp : 0 < l) (hl6 : l ≤ 1000) (hs : k * l ≤ 1000000) :
    Calls Try.prog 60 #[.slice A l c, .int .i64 k] w (GivesOwn w (rep xs k)) := by
  by_cases hk : k = 0
  · subst hk
    rw [rep_zero]
    exact repeat_zero A l c xs w ha hl6
  · exact repeat_any A l c k xs w ha hlp (by omega) hs
theorem facW_take {l : List (List Nat)} {j : Nat} (hj : j < l.length) : facW (l.take (j + 1)) = facW (l.take j) ++ wrd (l.getD j []) := by
  unfold facW
  rw [List.take_succ_eq_append_getElem hj, List.flatMap_append, show l.getD j [] = l[j] by simp [List.getD, hj]]
  simp
theorem facW_len {n : Nat} : ∀ {l : List (List Nat)}, (∀ p ∈ l, p.length = n) → n ≤ 6 → (facW l).length ≤ 36 * l.length
  | [], _, _ => by simp [facW]
  | p :: l, h, h6 => by
    have h1 := wrd_len p
    have h2 := facW_len (l := l) (fun q hq => h q (by simp [hq])) h6
    have h3 := h p (by simp)
    rw [h3] at h1
    have h4 : n * n ≤ 36 := by have := Nat.mul_le_mul h6 h6; omega
    show (wrd p ++ facW l).length ≤ _
    rw [List.length_append, List.length_cons]
    omega

end Go.Proofs.Ytoaiblhlpdaeoaa
/- Package garside: factorOf, isTight, wordOf. -/
namespace Go.Proofs.Ytoaiblhlpdaeoaa
set_option linter.unusedVariables false
set_option linter.unusedSimpArgs false
open Go.RowKit

theorem inv_inv {a : List Nat} (h : isP a) : inv (inv a) = a := by
  refine Gar.list_ext (by rw [inv_length, inv_length]) fun s hs => ?_
  rw [inv_length, inv_length] at hs
  have h1 := inv_getD_self (inv_isP h) (j := a.getD s 0) (by rw [inv_length]; exact h.lt hs)
  rw [inv_getD_self h hs] at h1
  exact h1
theorem bfault_one {N : Nat} {x : Int} (h1 : 1 ≤ N) (h6 : N ≤ 6) (hx : Gar.okl N x) : bfault (N : Int) [x] = 0 :=
  bfault_ok (by omega) (by omega) (by simp) fun y hy => by
    rw [List.mem_singleton] at hy
    subst hy
    unfold Gar.okl at hx
    omega

set_option maxRecDepth 100000 in
set_option maxHeartbeats 4000000 in
theorem gfactor_any (N : Nat) (x : Int) (w : World) (h1 : 1 ≤ N) (h6 : N ≤ 6) (hx : Gar.okl N x) :
    Calls Try.prog 94 #[.int .i64 N, .int .i64 x] w (GivesOwn w (zs (facL N x))) := by
  have HF := hide (bfault_one h1 h6 hx)
  have HV : Hid (permE (N : Int) [x] = zs (endsL N [x])) := hide (by unfold permE; rw [HF.out, if_pos rfl, Int.toNat_natCast])
  obtain ⟨i, hi⟩ : ∃ i, x.natAbs = i + 1 := ⟨x.natAbs - 1, by unfold Gar.okl at hx; omega⟩
  obtain ⟨p1, p2, _⟩ := endsL_one hx hi
  have HP1 := hide p1
  have HP2 := hide p2
  have HX := hide hx
  clear hx hi p1 p2
  by_cases hn : x < 0
  · have HE : Hid (facL N x = comp (Gar.fullL N) (endsL N [x])) := hide (by unfold facL; rw [if_neg (by omega)])
    go_enter Try.func94, Try.ntmps94
    go_wp2_with fail
    have hl1 := SL.lit w [x] (by simp) rfl rfl
    have HB0 := hide ((Below.refl w.heap.size w).alloc (Nat.le_refl _) (.cells #[.int .i64 x] 3))
    refine (bperm_own N _ 1 1 [x] _ hl1 (wfI (by omega))).mono ?_
    rintro e w1 ⟨A1, n1, c1, rfl, hs, hb, ho⟩
    have HO := hide (ho HF.out)
    rw [HV.out] at HO
    rw [HF.out]
    have HB1 := hide (HB0.out.trans (hb.mono HB0.out.size))
    clear hs hb ho hl1 HB0
    go_wp2_with fail
    refine (ghalf_any N w1 (by omega)).mono ?_
    rintro e w2 ⟨F, fn, fc, rfl, hf, hb2⟩
    have HC := hide (compose_ok F A1 fn n1 fc c1 (Gar.fullL N) (endsL N [x]) w2 hf.il (HO.out.below hb2).il (full_isP N).1 HP1.out (by rw [(full_isP N).2, HP2.out]) (by rw [(full_isP N).2]; omega))
    have HB2 := hide (HB1.out.trans (hb2.mono HB1.out.size))
    clear hf hb2
    go_wp2_with fail
    refine HC.out.mono ?_
    rintro e w3 ⟨R, rn, rc, rfl, hr, hb3⟩
    have HR := hide (hr.mono HB2.out.size)
    have HB3 := hide (HB2.out.trans (hb3.mono HB2.out.size))
    clear hr hb3 HC
    go_wp2_with fail
    go_ret
    rw [HE.out]
    exact ⟨_, _, _, rfl, HR.out, HB3.out⟩
  · have hx0 : 0 < x := by have := HX.out; unfold Gar.okl at this; omega
    have HE : Hid (facL N x = endsL N [x]) := hide (by unfold facL; rw [if_pos hx0])
    clear hx0
    go_enter Try.func94, Try.ntmps94
    go_wp2_with fail
    have hl1 := SL.lit w [x] (by simp) rfl rfl
    have HB0 := hide ((Below.refl w.heap.size w).alloc (Nat.le_refl _) (.cells #[.int .i64 x] 3))
    refine (bperm_own N _ 1 1 [x] _ hl1 (wfI (by omega))).mono ?_
    rintro e w1 ⟨A1, n1, c1, rfl, hs, hb, ho⟩
    have HO := hide ((ho HF.out).mono HB0.out.size)
    rw [HV.out] at HO
    rw [HF.out]
    have HB1 := hide (HB0.out.trans (hb.mono HB0.out.size))
    clear hs hb ho hl1 HB0
    go_wp2_with fail
    go_ret
    rw [HE.out]
    exact ⟨_, _, _, rfl, HO.out, HB1.out⟩

set_option maxRecDepth 100000 in
set_option maxHeartbeats 4000000 in
theorem gisTight_any (A B : Option Addr) (n ca cb : Nat) (a b : List Nat) (w : World) (ha : SL w A n ca (zs a)) (hb : SL w B n cb (zs b)) (pa : isP a) (hl : b.length = n) (h9 : n ≤ 9) :
    Calls Try.prog 64 #[.slice A n ca, .slice B n cb] w fun e w' => e = .returned (.bool (Gar.tightB a b (inv a))) ∧ Below w.heap.size w w' := by
  have hla : a.length = n := by have := ha.il.len; rwa [zs_length] at this
  have HI := hide (inverse_ok A n ca a w ha.il pa (by omega))
  have HB := hide hb
  have HL := hide hl
  have HLI : Hid ((inv a).length = n) := hide (by rw [inv_length]; exact hla)
  have HV : Hid (decide (dsI (loose (inv a) b) < 0) = Gar.tightB a b (inv a)) := hide (by
    rw [← loose_tightB (n := n) hla hl]
    cases loose (inv a) b with
    | none => rfl
    | some i => show decide (((i : Nat) : Int) < 0) = false; rw [decide_eq_false (by omega)])
  clear ha hb pa hl hla
  go_enter Try.func64, Try.ntmps64
  go_wp2_with fail
  refine HI.out.mono ?_
  rintro e w1 ⟨C, m, cc, rfl, ho, hbw⟩
  have hm : m = n := by have := ho.len; rw [zs_length, HLI.out] at this; exact this.symm
  subst hm
  have HG := hide (gloose_any C B m cc cb (inv a) b w1 ho.il (HB.out.below hbw).il HL.out)
  have HW := hide hbw
  clear ho hbw HI
  go_wp2_with fail
  refine HG.out.mono ?_
  rintro e w2 ⟨rfl, hb2⟩
  have HW2 := hide (HW.out.trans (hb2.mono HW.out.size))
  generalize dsI (loose (inv a) b) = d at *
  clear hb2
  go_wp2_with fail
  go_ret
  exact ⟨by rw [← HV.out]; rfl, HW2.out⟩

/-- An own row is not touched by what changes another block. -/
theorem OwnI.far {w w' : World} {base n c : Nat} {D : Option Addr} {xs : List Int} {row : Option Nat} (h : OwnI w base D n c xs) (hg : w.grownBy w' row) (hne : ∀ ad, D = some ad → row ≠ some ad.block) : OwnI w' base D n c xs := by
  refine ⟨⟨h.own.1, ?_⟩, h.small⟩
  rcases h.own.2 with h2 | ⟨g', cap, cur, hv, hg', hh, r⟩
  · exact .inl h2
  · have e : D = some ⟨g', 0, none⟩ := by injection hv
    exact .inr ⟨g', cap, cur, hv, hg', (hg.block g' (Blk.lt (w := w) (t := 3) (cs := cur) hh) (fun e2 => hne _ e e2.symm)).trans hh, r⟩
theorem OwnI.inBase {w : World} {base n c g : Nat} {xs : List Int} (h : OwnI w base (some ⟨g, 0, none⟩) n c xs) : base ≤ g ∧ g < w.heap.size := by
  rcases h.own.2 with ⟨hv, _⟩ | ⟨g', cap, cur, hv, hg', hh, r⟩
  · simp at hv
  · simp only [Value.slice.injEq, Option.some.injEq, Addr.mk.injEq, and_true, true_and] at hv
    obtain ⟨rfl, _⟩ := hv
    exact ⟨hg', Blk.lt (w := w) (t := 3) (cs := cur) hh⟩
def slcN : Value → Nat
  | .slice _ n _ => n
  | _ => 0
set_option maxRecDepth 100000 in
set_option maxHeartbeats 8000000 in
theorem gword_any (A : Option Addr) (n c : Nat) (p : List Nat) (w : World) (ha : SL w A n c (zs p)) (hp : isP p) (hl : p.length = n) (h1 : 1 ≤ n) (h6 : n ≤ 6) :
    Calls Try.prog 61 #[.slice A n c] w (GivesOwn w (wrd p)) := by
  obtain ⟨i0, hi0, hz0, hz1, hz2⟩ := info_parts int_info
  have HI0 := hide hi0
  have HZ0 := hide hz0
  have HZ1 := hide hz1
  have HZ2 := hide hz2
  have hn36 : n * n ≤ 36 := by have := Nat.mul_le_mul h6 h6; omega
  have HC := hide (clone_any A n c (zs p) w ha.il (fun h => by have := ha.nil h; omega))
  have HW0 : Hid (wrd p = [] ++ splW (n * n) p) := hide (by rw [wrd_splW, hl]; rfl)
  have HI0' : Hid (Gar.inv (fun s => p.getD s 0) n ≤ n * n) := hide (by have := Gar.inv_max (n := n) (fun s => p.getD s 0); omega)
  have HP := hide hp
  have HL := hide hl
  clear ha hp hl hi0 hz0 hz1 hz2
  generalize hnn : n * n = F at *
  clear hnn
  go_enter Try.func61, Try.ntmps61
  go_wp2_with fail
  refine HC.out.mono ?_
  rintro e w1 ⟨E, en, ec, rfl, hown, hb1⟩
  have hen : en = n := by have := hown.len; rw [zs_length, HL.out] at this; exact this.symm
  subst hen
  obtain ⟨g, rfl, hg, _⟩ := hown.form (by omega)
  have HD := hide (gdescent_any (some ⟨g, 0, none⟩) en ec p w1 hown.il HL.out)
  have HO := hide hown
  have HB1 := hide hb1
  clear hown hb1 HC
  go_wp2_with fail
  refine HD.out.mono ?_
  rintro e w2 ⟨rfl, hb2⟩
  have HO2 := hide (HO.out.below hb2)
  have HB2 := hide (HB1.out.trans (hb2.mono HB1.out.size))
  clear hb2 HO HB1 HD
  go_wp2_with fail
  go_loopw [4, 5] (fun ov iv wr => ∃ (q : List Nat) (f : Nat) (D : Option Addr) (dn dc : Nat) (u : List Int), ov = .slice D dn dc ∧ iv = .int .i64 (dsI (Gar.firstD q)) ∧ dn + f = F ∧ Hid (isP q ∧ q.length = en ∧ Gar.inv (fun s => q.getD s 0) en ≤ f) ∧ Hid (wrd p = u ++ splW f q) ∧ Hid (OwnI wr w.heap.size (some ⟨g, 0, none⟩) en ec (zs q)) ∧ Hid (OwnI wr w.heap.size D dn dc u) ∧ Hid (∀ ad, D = some ad → ad.block ≠ g) ∧ Hid (Below w.heap.size w wr)) (fun ov iv _ => F - slcN ov)
  case atStart => exact ⟨p, F, none, 0, 0, [], rfl, rfl, by omega, hide ⟨HP.out, HL.out, HI0'.out⟩, HW0, HO2, hide (OwnI.nil_ _ _), hide (fun ad h => by cases h), HB2⟩
  case round =>
    clear HO2 HB2 HW0 HI0' HP HL
    obtain ⟨q, f, D, dn, dc, u, rfl, rfl, hdf, HQ, HU, HO, HD, HNE, HB⟩ := hrel
    obtain ⟨qp, ql, qi⟩ := HQ.out
    cases hfd : Gar.firstD q with
    | none =>
      have HE : Hid (wrd p = u) := hide (by
        rw [HU.out]
        unfold splW
        cases f with
        | zero => simp [Gar.spl]
        | succ f => unfold Gar.spl; rw [hfd]; simp)
      have hc : decide ((0 : Int) ≤ -1) = false := by decide
      clear HU HQ qp ql qi hfd
      have hds : dsI none = -1 := rfl
      rw [hds]
      go_wp2_with fail
      go_ret
      rw [HE.out]
      exact ⟨_, _, _, rfl, HD.out, HB.out⟩
    | some i =>
      obtain ⟨hi, hlt⟩ := Gar.firstD_some hfd
      rw [ql] at hi
      have hinv := Gar.inv_sw' (f := fun s => q.getD s 0) (i := i) (n := en) hi
      rw [if_pos hlt, if_neg (by omega)] at hinv
      obtain ⟨f', rfl⟩ : ∃ f', f = f' + 1 := ⟨f - 1, by omega⟩
      have HSP := hide (splW_succ hfd f')
      have HQ2 : Hid (isP (Gar.swapL q i) ∧ (Gar.swapL q i).length = en ∧ Gar.inv (fun s => (Gar.swapL q i).getD s 0) en ≤ f') := hide ⟨Gar.swapL_isP qp (by omega), by rw [Gar.swapL_length]; exact ql, by
        have h2 : Gar.inv (fun s => (Gar.swapL q i).getD s 0) en = Gar.inv (fun s => q.getD (Gar.sw i s) 0) en := Gar.inv_congr fun s _ => Gar.swapL_getD (by omega)
        omega⟩
      have HU2 : Hid (wrd p = (u ++ [(i : Int) + 1]) ++ splW f' (Gar.swapL q i)) := hide (by rw [HU.out, HSP.out]; simp)
      have hds : dsI (some i) = (i : Int) := rfl
      have hw1 : IntKind.i64.wrap ((i : Int) + 1) = (i : Int) + 1 := by rw [IntKind.wrap_i64]; omega
      have hdn : dn ≤ 36 := by omega
      rw [hds]
      clear HU HQ qp ql qi hfd hinv HSP hlt hds
      have hsz := HB.out.size
      have HLI := hide (OwnI.lit wr [(i : Int) + 1] (base := wr.heap.size) (Nat.le_refl _) (by simp) rfl rfl rfl)
      have HAL := hide ((Below.refl wr.heap.size wr).alloc (Nat.le_refl _) (.cells #[.int .i64 ((i : Int) + 1)] 3))
      have HD2 := hide (HD.out.below HAL.out)
      have HO2 := hide (HO.out.below HAL.out)
      have HB2 := hide (HB.out.trans (HAL.out.mono hsz))
      have hsz2 := HB2.out.size
      go_wp2_with (at_builtin; refine wpList_append_int _ rfl (.tmp 14) (.tmp 17) 22 rfl w.heap.size i0 Try.underlying22 HI0.out HZ0.out HZ1.out HZ2.out D dn dc _ rfl HD2.out (some ⟨wr.heap.size, 0, none⟩) 1 1 [(i : Int) + 1] rfl HLI.out.il (by omega) hsz2 ?_; intro A9 c9 w9 happ)
      have HO9 := hide happ.own
      have hb9 : Below w.heap.size w w9 := HB2.out.grown happ.grown hsz2 (fun b hb => (HD2.out.lt b (by rw [ownBlock_len D dn (dn + 1) dc dc]; exact hb)).1)
      have HB9 := hide hb9
      have hgl := HO2.out.inBase
      have HO92 := hide (HO2.out.far happ.grown (fun ad e e2 => by
        injection e with e
        subst e
        cases D with
        | none => cases e2
        | some dd => injection e2 with e2; exact HNE.out dd rfl e2))
      have HNE9 : Hid (∀ ad, A9 = some ad → ad.block ≠ g) := hide (fun ad e => by
        subst e
        rcases happ.lies with e2 | e2
        · cases D with
          | none => cases e2
          | some dd => injection e2 with e2; rw [e2]; exact HNE.out dd rfl
        · injection e2 with e2
          rw [e2]
          omega)
      have HEX := hide (gexch_any w.heap.size g en ec q i w9 HO92.out hi)
      clear happ hb9 hgl HD2 HO2 HB2 hsz2 HLI HAL hsz HO HD HNE HB
      refine HEX.out.mono ?_
      rintro e w10 ⟨rfl, ho10, hg10⟩
      have HD10 := hide (HO9.out.far hg10 (fun ad e e2 => by injection e2 with e2; exact HNE9.out ad e e2.symm))
      have hgb := ho10.inBase.1
      have HB10 := hide (HB9.out.grown hg10 HB9.out.size (fun k e => by injection e with e; subst e; exact hgb))
      have HDS := hide (gdescent_any (some ⟨g, 0, none⟩) en ec (Gar.swapL q i) w10 ho10.il HQ2.out.2.1)
      have HO10 := hide ho10
      clear ho10 hg10 HEX HO92 HO9 HB9
      go_wp2_with fail
      refine HDS.out.mono ?_
      rintro e w11 ⟨rfl, hb11⟩
      have HD11 := hide (HD10.out.below hb11)
      have HO11 := hide (HO10.out.below hb11)
      have HB11 := hide (HB10.out.trans (hb11.mono HB10.out.size))
      clear hb11 HD10 HO10 HB10 HDS
      go_wp2_with fail
      go_roundw
      case rel => exact ⟨_, f', A9, dn + 1, c9, _, rfl, rfl, by omega, HQ2, HU2, HO11, HD11, HNE9, HB11⟩
      case measure => simp [slcN]; omega
end Go.Proofs.Ytoaiblhlpdaeoaa
