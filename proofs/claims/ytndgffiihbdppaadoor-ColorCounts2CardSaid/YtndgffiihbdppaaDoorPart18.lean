/- Several texts in one. -/
import Derived.Test.YtndgffiihbdppaaDoorPart13
import Derived.Test.YtndgffiihbdppaaDoorPart6
import Derived.Test.YtndgffiihbdppaaDoorPart17
import Derived.Test.YtndgffiihbdppaaDoorPart3
import Derived.Test.YtndgffiihbdppaaDoorPart8
import Derived.Test.YtndgffiihbdppaaDoorPart11
/- Package braid: identity. -/
namespace Go.Proofs.YtndgffiihbdppaaDoor
set_option linter.unusedVariables false
set_option linter.unusedSimpArgs false
open Go.RowKit

/-- The unit matrix, new. -/
def GivesId (w : World) (n : Nat) (e : Ending) (w' : World) : Prop :=
  ∃ go gr, e = .returned (.slice (some ⟨go, 0, none⟩) n n) ∧ MatB w' w.heap.size go n gr n oneM ∧ Below w.heap.size w w'
theorem MatB.start {w : World} {base go n : Nat} {X : Mtx LP} {cs : Array Value} (h : Blk w go 83 cs) (hb : base ≤ go) : MatB w base go n (fun _ => 0) 0 X :=
  ⟨⟨_, h⟩, fun i hi => absurd hi (by omega), fun i hi => absurd hi (by omega), fun i hi => absurd hi (by omega), fun i j hi => absurd hi (by omega), hb, fun i hi => absurd hi (by omega)⟩
/-- One row more. -/
theorem MatB.more {w w' : World} {base go n : Nat} {gr : Nat → Nat} {k : Nat} {X : Mtx LP} {v : Value} (h : MatB w base go n gr k X) {g : Nat} (hb : Below w.heap.size w w') (hg : w.heap.size ≤ g) (hbase : base ≤ w.heap.size) (hc : w.cell? ⟨go, k, none⟩ = some v) (hrow : ∀ K, RowB w' g n K (X k)) :
    MatB (w'.setCell ⟨go, k, none⟩ (.slice (some ⟨g, 0, none⟩) n n)) base go n (fun i => if i = k then g else gr i) (k + 1) X := by
  have hlt := h.lt
  have hc' : w'.cell? ⟨go, k, none⟩ = some v := (hb.cell (p := ⟨go, k, none⟩) hlt).trans hc
  have hne : ∀ i, i < k → (if i = k then g else gr i) = gr i := fun i hi => if_neg (by omega)
  have hch : w'.grownBy (w'.setCell ⟨go, k, none⟩ (.slice (some ⟨g, 0, none⟩) n n)) (some go) := chg_set
  have hgl : ∀ i, i < k → gr i < w.heap.size := fun i hi => (h.row i hi).lt
  refine ⟨?_, fun i hi => ?_, fun i hi => ?_, fun i hi => ?_, fun i j hi hj e => ?_, h.base_le.1, fun i hi => ?_⟩
  · obtain ⟨cs, hcs⟩ := (h.below hb).blk
    exact ⟨_, hcs.set_ k _⟩
  · by_cases e : i = k
    · subst e
      show _ = some (Value.slice (some ⟨if i = i then g else gr i, 0, none⟩) n n)
      rw [if_pos rfl]
      exact World.cell?_setCell_same w' _ _ hc'
    · show _ = some (Value.slice (some ⟨if i = k then g else gr i, 0, none⟩) n n)
      rw [if_neg e, World.cell?_setCell_other w' _ _ _ (by intro h2; simp only [Addr.mk.injEq] at h2; omega)]
      exact (h.below hb).out i (by omega)
  · show RowB _ (if i = k then g else gr i) n _ (X i)
    have hF : ∀ b, FreB go (fun i => if i = k then g else gr i) (k + 1) b → b ≠ go := fun b hb => hb.1
    by_cases e : i = k
    · subst e
      rw [if_pos rfl]
      exact (hrow _).grown hch (by omega) hF
    · rw [if_neg e]
      have h1 := (h.row i (by omega)).mono (K' := FreB go (fun i => if i = k then g else gr i) (k + 1)) fun b hbl hf => ⟨hf.1, fun j hj => by
        show (if j = k then g else gr j) ≠ b
        split
        · omega
        · exact hf.2 j (by omega)⟩
      exact (h1.below hb).grown hch (fun e2 => h.ne i (by omega) e2.symm) hF
  · show (if i = k then g else gr i) ≠ go
    split
    · omega
    · exact h.ne i (by omega)
  · replace e : (if i = k then g else gr i) = (if j = k then g else gr j) := e
    by_cases e1 : i = k
    · by_cases e2 : j = k
      · omega
      · rw [if_pos e1, if_neg e2] at e
        have := hgl j (by omega)
        omega
    · by_cases e2 : j = k
      · rw [if_neg e1, if_pos e2] at e
        have := hgl i (by omega)
        omega
      · rw [if_neg e1, if_neg e2] at e
        exact h.inj i j (by omega) (by omega) e
  · show base ≤ (if i = k then g else gr i)
    split
    · omega
    · exact h.base_le.2 i (by omega)
/-- The unit matrix behind k rows. -/
def uM (k : Nat) : Mtx LP := fun i c => if i < k then oneM i c else 0

set_option maxRecDepth 100000 in
set_option maxHeartbeats 8000000 in
theorem identity_any (n : Nat) (w : World) (hn : n ≤ 6) : Calls Tryd.prog 69 #[.int .i64 n] w (GivesId w n) := by
  obtain ⟨i0, hi0, hz0, hz1, hz2⟩ := info_parts prows_info
  obtain ⟨i1, hi1, hy0, hy1, hy2⟩ := info_parts polys_info
  have HI := hide hi1
  have HY0 := hide hy0
  have HY1 := hide hy1
  have HY2 := hide hy2
  clear hi1 hy0 hy1 hy2
  go_enter Tryd.func69, Tryd.ntmps69
  go_wp2_with (at_make; refine wpList_make_full _ rfl _ _ 70 rfl w.heap.size 83 i0 (.slice none 0 0) 1 Tryd.underlying70 hi0 hz0 hz1 .i64 .i64 _ _ n rfl rfl rfl rfl (by rw [hz2]; omega) (by unfold maxLen; omega) (Nat.le_refl _) ?_; intro w2 hown2 hg2)
  have hB2 : Below w.heap.size w w2 := (Below.refl _ _).grown hg2 (Nat.le_refl _) (by intro k hk; cases hk)
  have ho2 : OwnG 83 1 w2 w.heap.size (some ⟨w.heap.size, 0, none⟩) n n (madeCells #[.slice none 0 0] (n * 1)).toList := ⟨hown2, by omega⟩
  obtain ⟨cs, _, hcs⟩ := ho2.cells _ rfl
  have HM2 : Hid (MatB w2 w.heap.size w.heap.size n (fun _ => 0) 0 (uM 0)) := hide (MatB.start hcs (Nat.le_refl _))
  have HC2 : Hid (∀ i, i < n → ∃ v, w2.cell? ⟨w.heap.size, i, none⟩ = some v) := hide (fun i hi => by
    have h := ho2.cellAt (j := i) (by omega)
    rw [h, Array.getElem?_toList]
    exact ⟨_, Array.getElem?_eq_getElem (by unfold madeCells; simp; omega)⟩)
  have HB2 := hide hB2
  clear hown2 hg2 hB2 ho2 hcs
  go_loopw [9] (fun iv wr => ∃ (k : Nat) (gr : Nat → Nat), iv = .int .i64 k ∧ k ≤ n ∧ Hid (MatB wr w.heap.size w.heap.size n gr k (uM k)) ∧ Hid (∀ i, i < n → ∃ v, wr.cell? ⟨w.heap.size, i, none⟩ = some v) ∧ Hid (Below w.heap.size w wr)) (fun iv _ => n - (intOf iv).toNat)
  case atStart => exact ⟨0, _, rfl, Nat.zero_le _, HM2, HC2, HB2⟩
  case round =>
    clear HM2 HB2 HC2
    obtain ⟨k, gr, rfl, hk, HM, HC, HB⟩ := hrel
    by_cases hlt : k < n
    · obtain ⟨v, hv⟩ := HC.out k hlt
      have hfr : ∃ cs, Blk wr w.heap.size 83 cs := HM.out.blk
      obtain ⟨cs9, hcs9⟩ := hfr
      have HK9 := hide hcs9
      have hbw := HB.out.size
      have HV := hide hv
      clear hcs9 hv
      go_upto_region 6 with (at_make; refine wpList_make_full _ rfl _ _ 83 rfl wr.heap.size 50 i1 (.agg #[.int .i64 0, .slice none 0 0]) 2 Tryd.underlying83 HI.out HY0.out HY1.out .i64 .i64 _ _ n rfl rfl rfl rfl (by rw [HY2.out]; omega) (by unfold maxLen; omega) (Nat.le_refl _) ?_; intro w3 hown3 hg3; have hb3 : Below wr.heap.size wr w3 := (Below.refl _ _).grown hg3 (Nat.le_refl _) (by intro k hk; cases hk); have hv3 := (hb3.cell (p := ⟨w.heap.size, k, none⟩) HK9.out.lt).trans HV.out; have hf3 := (HK9.out.below hb3 HK9.out.lt).frozen k)
      have hz3 := RowB.zero (base := wr.heap.size) (g := wr.heap.size) (n := n) (w := w3) (K := fun _ => True) (by
        have h := hown3
        rw [show (Value.agg #[Value.int IntKind.i64 0, Value.slice none 0 0]).cells = #[.int .i64 0, .slice none 0 0] from rfl] at h
        exact h) (by omega)
      have hM4 := HM.out.more (g := wr.heap.size) (X := uM k) hb3 (Nat.le_refl _) hbw HV.out (fun K => ((RowB.zero (base := wr.heap.size) (g := wr.heap.size) (n := n) (w := w3) (K := K) (by
        have h := hown3
        rw [show (Value.agg #[Value.int IntKind.i64 0, Value.slice none 0 0]).cells = #[.int .i64 0, .slice none 0 0] from rfl] at h
        exact h) (by omega)).congr (Y := uM k k) fun j _ => (if_neg (Nat.lt_irrefl k)).symm))
      have hC4 : ∀ i, i < n → ∃ v, (w3.setCell ⟨w.heap.size, k, none⟩ (.slice (some ⟨wr.heap.size, 0, none⟩) n n)).cell? ⟨w.heap.size, i, none⟩ = some v := fun i hi => by
        by_cases e : i = k
        · subst e
          exact ⟨_, World.cell?_setCell_same w3 _ _ hv3⟩
        · rw [World.cell?_setCell_other w3 _ _ _ (by intro h2; simp only [Addr.mk.injEq] at h2; omega)]
          obtain ⟨v', hv'⟩ := HC.out i hi
          exact ⟨v', (hb3.cell (p := ⟨w.heap.size, i, none⟩) HK9.out.lt).trans hv'⟩
      have hb4 := (HB.out.trans (hb3.mono hbw)).setCell (p := ⟨w.heap.size, k, none⟩) (Nat.le_refl _) (.slice (some ⟨wr.heap.size, 0, none⟩) n n)
      have hgne : wr.heap.size ≠ w.heap.size := by have := HK9.out.lt; omega
      obtain ⟨g, hg⟩ : ∃ g, wr.heap.size = g := ⟨_, rfl⟩
      obtain ⟨W4, hW4⟩ : ∃ W, w3.setCell ⟨w.heap.size, k, none⟩ (.slice (some ⟨wr.heap.size, 0, none⟩) n n) = W := ⟨_, rfl⟩
      rw [hW4] at hM4 hC4 hb4 ⊢
      rw [hg] at hM4 hgne ⊢
      obtain ⟨gr4, hgr4⟩ : ∃ f : Nat → Nat, f = fun i => if i = k then g else gr i := ⟨_, rfl⟩
      have HGK : Hid (gr4 k = g) := hide (by rw [hgr4]; exact if_pos rfl)
      rw [← hgr4] at hM4
      have HM4 := hide hM4
      have HC4 := hide hC4
      have HB4 := hide hb4
      have hoc := hM4.out k (by omega)
      rw [HGK.out] at hoc
      have HOC := hide hoc
      have hgo : w.heap.size < W4.heap.size := hM4.lt
      have hrw := hM4.row k (by omega)
      rw [HGK.out] at hrw
      have hgl : g < W4.heap.size := hrw.lt
      have HRW := hide hrw
      clear hown3 hg3 hb3 hv3 hf3 hM4 hC4 hb4 hg hW4 hgr4 hoc hrw HM HC HB HV HK9 hbw hz3 hgne
      obtain ⟨i2, hi2, hx0, hx1, hx2⟩ := info_parts int_info
      have HI2 := hide hi2
      have HX0 := hide hx0
      have HX1 := hide hx1
      clear hi2 hx0 hx1 hx2
      refine wp_region_T (S := fun x => Below W4.heap.size W4 x) 8 (by kernel_rfl) (Below.refl _ _).drew (fun hS => ?_)
      refine wpT_tk 0 (v := .slice (some ⟨w.heap.size, 0, none⟩) n n) rfl (by kernel_rfl) (by kernel_rfl) (by kernel_rfl) (by kernel_rfl) (yi rfl fun x hx => gives_move (.inl rfl) rfl) hS ?_
      go_frame
      refine wpT_tk 1 (v := .int .i64 k) rfl (by kernel_rfl) (by kernel_rfl) (by kernel_rfl) (by kernel_rfl) (yi rfl fun x hx => gives_move (.inl rfl) rfl) hS ?_
      go_frame
      refine wpT_tk 2 (v := .pointer (some ⟨w.heap.size, k * 1, none⟩)) rfl (by kernel_rfl) (by kernel_rfl) (by kernel_rfl) (by kernel_rfl) (yi rfl fun x hx => gives_indexB rfl Tryd.underlying70 (fun w => by kernel_rfl) rfl rfl hlt) hS ?_
      go_frame
      rw [Nat.mul_one]
      refine wpT_tk 3 (v := .slice (some ⟨g, 0, none⟩) n n) rfl (by kernel_rfl) (by kernel_rfl) (by kernel_rfl) (by kernel_rfl) (yi rfl fun x hx => gives_load1 rfl (by kernel_rfl) rfl ((hx.cell (p := ⟨w.heap.size, k, none⟩) hgo).trans HOC.out)) hS ?_
      go_frame
      refine wpT_tk 4 (v := .int .i64 k) rfl (by kernel_rfl) (by kernel_rfl) (by kernel_rfl) (by kernel_rfl) (yi rfl fun x hx => gives_move (.inl rfl) rfl) hS ?_
      go_frame
      refine wpT_1 5 rfl (by kernel_rfl) ?_
      refine wp_lit_int rfl Tryd.underlying22 i2 HI2.out HX0.out HX1.out (v := 1) rfl ?_
      have hS5 : Below W4.heap.size W4 (W4.drew.alloc (.cells #[.int .i64 1] 3)) := hS.alloc (Nat.le_refl _) _
      have hl5 := SL.lit W4.drew [1] (by decide) (cs := #[.int .i64 1]) rfl (m := 1) rfl
      refine ⟨fun _ => hS5, ?_⟩
      go_frame
      refine wpT_1 6 rfl (by kernel_rfl) ?_
      refine wp_call [.int .i64 0, .slice (some ⟨W4.drew.heap.size, 0, none⟩) 1 1] rfl rfl eBpoly rfl ((bpoly_any 0 _ 1 1 (W4.drew.alloc (.cells #[.int .i64 1] 3))).mono ?_)
      rintro e w6 ⟨rfl, hb6⟩
      have hS6 : Below W4.heap.size W4 w6 := hS5.trans (hb6.mono hS5.size)
      refine ⟨_, rfl, fun _ => hS6, ?_⟩
      go_frame
      refine wpT_tk 7 (v := .pointer (some ⟨g, k * 2, none⟩)) rfl (by kernel_rfl) (by kernel_rfl) (by kernel_rfl) (by kernel_rfl) (yi rfl fun x hx => gives_indexB rfl Tryd.underlying83 (fun w => by kernel_rfl) rfl rfl hlt) hS6 ?_
      go_frame
      refine wpT_1 8 rfl (by kernel_rfl) ?_
      have hrow6 := HRW.out.below hS6
      obtain ⟨_, _, _, q0, q1, _⟩ := hrow6.at_ k hlt
      have f0 := hrow6.frozen (k * 2)
      have f1 := hrow6.frozen (k * 2 + 1)
      refine wp_store_mid _ _ _ rfl g (k * 2) #[.int .i64 0, .slice (some ⟨W4.drew.heap.size, 0, none⟩) 1 1] rfl rfl (fun j hj => ?_) (by kernel_rfl) (by kernel_rfl) ?_
      · replace hj : j < 2 := hj
        match j, hj with
        | 0, _ => exact ⟨by rw [Nat.add_zero, q0]; rfl, f0⟩
        | 1, _ => exact ⟨by rw [q1]; rfl, f1⟩
      refine ⟨fun h => absurd rfl h, ?_⟩
      go_frame
      refine wpT_done (by kernel_rfl) (noPanic_mk ?_) _
      have HM6 := HM4.out.below hS6
      have hl6 : SL w6 (some ⟨W4.heap.size, 0, none⟩) 1 1 (LP.canon 1).2 := by rw [canon_one]; exact hl5.below hb6
      have hfr := HM4.out.fresh
      have hset := hrow6.set_ (k := k) (x := 1) (fun h => h.2 k (Nat.lt_succ_self k) HGK.out) hlt (SLK.mk hl6 (fun _ ad e => by injection e with e; subst e; exact hfr _ (Nat.le_refl _)))
      rw [canon_one] at hset
      have hchg : w6.grownBy ((w6.setCell ⟨g, k * 2, none⟩ (.int .i64 0)).setCell ⟨g, k * 2 + 1, none⟩ (.slice (some ⟨W4.heap.size, 0, none⟩) 1 1)) (some (gr4 k)) := by rw [HGK.out]; exact chg_trans chg_set chg_set
      have hM7 := HM6.chg (r := k) (Y := uM (k + 1)) (Nat.lt_succ_self k) hchg (by
        rw [HGK.out]
        refine hset.congr fun j hj => ?_
        show (if j = k then (1 : LP) else uM k k j) = uM (k + 1) k j
        unfold uM
        rw [if_neg (Nat.lt_irrefl k), if_pos (Nat.lt_succ_self k)]
        unfold oneM
        by_cases e : j = k
        · rw [if_pos e, if_pos e.symm]
        · rw [if_neg e, if_neg (fun h => e h.symm)]) (fun i hi hne c hc => by
        unfold uM
        rw [if_pos (by omega), if_pos (by omega)])
      have HM7 := hide hM7
      have HB7 := hide (((HB4.out.trans (hS6.mono HB4.out.size)).setCell (p := ⟨g, k * 2, none⟩) (HM4.out.base_le.2 k (Nat.lt_succ_self k) |> fun h => by rw [HGK.out] at h; exact h) (.int .i64 0)).setCell (p := ⟨g, k * 2 + 1, none⟩) (HM4.out.base_le.2 k (Nat.lt_succ_self k) |> fun h => by rw [HGK.out] at h; exact h) (.slice (some ⟨W4.heap.size, 0, none⟩) 1 1))
      have HC7 : Hid (∀ i, i < n → ∃ v, ((w6.setCell ⟨g, k * 2, none⟩ (.int .i64 0)).setCell ⟨g, k * 2 + 1, none⟩ (.slice (some ⟨W4.heap.size, 0, none⟩) 1 1)).cell? ⟨w.heap.size, i, none⟩ = some v) := hide (fun i hi => by
        obtain ⟨v', hv'⟩ := HC4.out i hi
        refine ⟨v', ?_⟩
        have hne := HM4.out.ne k (Nat.lt_succ_self k)
        rw [HGK.out] at hne
        rw [World.cell?_setCell_other _ _ _ _ (by intro h2; simp only [Addr.mk.injEq] at h2; omega), World.cell?_setCell_other _ _ _ _ (by intro h2; simp only [Addr.mk.injEq] at h2; omega)]
        exact (hS6.cell (p := ⟨w.heap.size, i, none⟩) hgo).trans hv')
      clear hS hS5 hS6 hl5 hl6 hb6 hrow6 q0 q1 f0 f1 HM6 hfr hset hchg hM7 HM4 HC4 HB4 HOC HRW
      rw [show W4.drew.heap.size = W4.heap.size from rfl, show w6.setCells g (k * 2) [.int .i64 0, .slice (some ⟨W4.heap.size, 0, none⟩) 1 1] = (w6.setCell ⟨g, k * 2, none⟩ (.int .i64 0)).setCell ⟨g, k * 2 + 1, none⟩ (.slice (some ⟨W4.heap.size, 0, none⟩) 1 1) from rfl]
      generalize (w6.setCell ⟨g, k * 2, none⟩ (.int .i64 0)).setCell ⟨g, k * 2 + 1, none⟩ (.slice (some ⟨W4.heap.size, 0, none⟩) 1 1) = w7 at *
      go_wp2_with fail
      go_roundw
      case rel => exact ⟨k + 1, _, by go_num, by omega, HM7, HC7, HB7⟩
      case measure => simp [intOf]; omega
    · have hkn : k = n := by omega
      have HE : Hid (MatB wr w.heap.size w.heap.size n gr n oneM) := hide (by
        have h := HM.out
        rw [hkn] at h
        exact h.congr fun i hi c _ => if_pos hi)
      clear HM HC
      go_wp2_with fail
      go_ret
      exact ⟨_, _, rfl, HE.out, HB.out⟩

set_option maxRecDepth 100000 in
set_option maxHeartbeats 8000000 in
theorem burau_any' (F : PolyC) (m : Int) (A : Option Addr) (n c : Nat) (xs : List Int) (w : World) (ha : SL w A n c xs) (hm : (Lit.int .i64 m).wf = true) :
    Calls Tryd.prog 52 #[.int .i64 m, .slice A n c] w (GivesMP w (burE m xs) (burL m xs)) := by
  have HC := hide (bcheck_any m A n c xs w ha hm)
  have HL := hide ha.il.len
  have HA := hide ha.il
  have hns := ha.il.small
  clear ha
  obtain ⟨f, hf⟩ : ∃ f, bfault m xs = f := ⟨_, rfl⟩
  have HF := hide hf
  rw [hf] at HC
  clear hf
  by_cases h0 : f = 0
  case neg =>
    have HE : Hid (burE m xs = f) := hide (by unfold burE; rw [HF.out, if_neg h0])
    have HV : Hid (burL m xs = []) := hide (by unfold burL; rw [HE.out, if_neg h0])
    have hne : (f != 0) = true := by simpa using h0
    clear h0
    go_enter Tryd.func52, Tryd.ntmps52
    go_wp2_with fail
    refine HC.out.mono ?_
    rintro e w1 ⟨rfl, hww⟩
    subst hww
    go_wp2_with fail
    go_ret2
    rw [HE.out, HV.out]
    exact ⟨none, 0, 0, rfl, ⟨rfl, by omega, fun _ => ⟨rfl, rfl⟩, Nat.le_refl _, fun h => absurd h (by omega)⟩, Below.refl _ _⟩
  subst h0
  by_cases h16 : 16 < n
  · have HE : Hid (burE m xs = 2) := hide (by unfold burE; rw [HF.out, if_pos rfl, if_pos (by rw [HL.out]; exact h16)])
    have HV : Hid (burL m xs = []) := hide (by unfold burL; rw [HE.out]; rfl)
    go_enter Tryd.func52, Tryd.ntmps52
    go_wp2_with fail
    refine HC.out.mono ?_
    rintro e w1 ⟨rfl, hww⟩
    subst hww
    go_wp2_with fail
    go_ret2
    rw [HE.out, HV.out]
    exact ⟨none, 0, 0, rfl, ⟨rfl, by omega, fun _ => ⟨rfl, rfl⟩, Nat.le_refl _, fun h => absurd h (by omega)⟩, Below.refl _ _⟩
  have HE : Hid (burE m xs = 0) := hide (by unfold burE; rw [HF.out, if_pos rfl, if_neg (by rw [HL.out]; exact h16)])
  have HV : Hid (burL m xs = buL m.toNat xs) := hide (by unfold burL; rw [HE.out, if_pos rfl])
  have hz := bfault_zero HF.out
  obtain ⟨N, hN⟩ : ∃ N : Nat, m = (N : Int) := ⟨m.toNat, by omega⟩
  subst hN
  have hN6 : N ≤ 6 := by omega
  rw [Int.toNat_natCast] at HV
  have HX : Hid (∀ k, k < n → xs.getD k 0 ≠ 0 ∧ (xs.getD k 0).natAbs < N) := hide (fun k hk => by
    have hlx : k < xs.length := by rw [HL.out]; exact hk
    have := hz.2.2.2 (xs.getD k 0) (by rw [show xs.getD k 0 = xs[k] by simp [List.getD, hlx]]; exact List.getElem_mem _)
    omega)
  clear hz
  have HF9 := hide F
  have HP : Hid (∀ l, l < n → 3 ^ l ≤ 20000000) := hide (fun l hl => Nat.le_trans (Nat.pow_le_pow_right (by omega) (show l ≤ 15 by omega)) (by decide))
  have HP16 : Hid (3 ^ n ≤ 100000000) := hide (Nat.le_trans (Nat.pow_le_pow_right (by omega) (show n ≤ 16 by omega)) (by decide))
  have HST : Hid (∀ l, l < n → ∀ r, r < N → ∀ c, c < N → bu N (xs.take (l + 1)) r c = stepR (xs.getD l 0) (bu N (xs.take l) r) c) := hide (fun l hl r hr c hc => by
    have hlx : l < xs.length := by rw [HL.out]; exact hl
    rw [List.take_succ_eq_append_getElem hlx, ← show xs.getD l 0 = xs[l] by simp [List.getD, hlx]]
    exact bu_snoc (HX.out l hl).1 (HX.out l hl).2 hr hc)
  have HBN : Hid (∀ l, l < n → ∀ r, r < N → ∀ j, j < N → LP.N1 (bu N (xs.take l) r j) l (3 ^ l)) := hide (fun l hl r hr j hj => by
    have h := (bu_rn (n := N) (xs.take l)).entry hr hj
    rw [List.length_take, HL.out, Nat.min_eq_left (by omega)] at h
    exact h)
  have HRT : Hid (∀ i, i < N → ∀ j, j < N → LP.Rt (bu N xs i j)) := hide (fun i hi j hj => by
    have h := (bu_rn (n := N) xs).entry hi hj
    rw [HL.out] at h
    exact h.rt (by omega) HP16.out)
  clear F
  go_enter Tryd.func52, Tryd.ntmps52
  go_wp2_with fail
  refine HC.out.mono ?_
  rintro e w1 ⟨rfl, hww⟩
  subst hww
  go_wp2_with fail
  refine (identity_any N w hN6).mono ?_
  rintro e w1 ⟨go, gr, rfl, hM, hb⟩
  have HM : Hid (MatB w1 w.heap.size go N gr N (fun i j => if i < 0 then bu N xs i j else bu N (xs.take 0) i j)) := hide (hM.congr fun i hi c hc => (by rw [List.take_zero, if_neg (by omega)]; rfl))
  have HB := hide hb
  clear hM hb
  go_wp2_with fail
  go_loopw [25] (fun iv wr => ∃ k : Nat, iv = .int .i64 k ∧ k ≤ N ∧ Hid (MatB wr w.heap.size go N gr N (fun i j => if i < k then bu N xs i j else bu N (xs.take 0) i j)) ∧ Hid (Below w.heap.size w wr)) (fun iv _ => N - (intOf iv).toNat)
  case atStart => exact ⟨0, rfl, Nat.zero_le _, HM, HB⟩
  case round =>
    clear HM HB
    obtain ⟨k, rfl, hk, HM, HB⟩ := hrel
    by_cases hlt : k < N
    · have hoc := HM.out.out k hlt
      have HML : Hid (MatB wr w.heap.size go N gr N (fun i j => if i < k then bu N xs i j else if i = k then bu N (xs.take 0) i j else bu N (xs.take 0) i j)) := hide (HM.out.congr fun i hi c hc => by
        show (if i < k then _ else _) = if i < k then _ else _
        split
        · rfl
        · split <;> rfl)
      have HBL := HB
      have HLT := hide hlt
      rename World => wo
      clear HM HB
      go_wp2_with fail
      clear hoc hlt
      go_loopw [31] (fun jv wx => ∃ l : Nat, jv = .int .i64 l ∧ l ≤ n ∧ Hid (MatB wx w.heap.size go N gr N (fun i j => if i < k then bu N xs i j else if i = k then bu N (xs.take l) i j else bu N (xs.take 0) i j)) ∧ Hid (Below w.heap.size w wx)) (fun jv _ => n - (intOf jv).toNat)
      case atStart => exact ⟨0, rfl, Nat.zero_le _, HML, HBL⟩
      case round =>
        clear HML HBL
        obtain ⟨l, rfl, hl, HM, HB⟩ := hrel
        by_cases hln : l < n
        · obtain ⟨ad, rfl, hx⟩ := (HA.out.below HB.out).at_ hln
          obtain ⟨hx0, hx1⟩ := HX.out l hln
          have hrow := (HM.out.row k HLT.out).congr (Y := bu N (xs.take l) k) fun j hj => by show (if k < k then _ else if k = k then _ else _) = _; rw [if_neg (Nat.lt_irrefl k), if_pos rfl]
          have HAP := hide (apply_any HF9.out (gr k) N (FreB go gr N) (bu N (xs.take l) k) (xs.getD l 0) l (3 ^ l) wr hrow HM.out.fresh (fun h => h.2 k HLT.out rfl) hx0 hx1 hN6 (by omega) (HP.out l hln) (HBN.out l hln k HLT.out))
          have HS := hide (HST.out l hln)
          clear hrow hx0 hx1
          generalize xs.getD l 0 = x at *
          go_wp2_with fail
          refine HAP.out.mono ?_
          rintro e w2 ⟨rfl, hrow2, hg2⟩
          have hM2 := HM.out.chg (r := k) (Y := fun i j => if i < k then bu N xs i j else if i = k then bu N (xs.take (l + 1)) i j else bu N (xs.take 0) i j) HLT.out hg2 (hrow2.congr fun j hj => by
            show _ = (if k < k then _ else if k = k then _ else _)
            rw [if_neg (Nat.lt_irrefl k), if_pos rfl]
            exact (HS.out k HLT.out j hj).symm) (fun i hi hne c hc => by
            show (if i < k then _ else if i = k then _ else _) = (if i < k then _ else if i = k then _ else _)
            rw [if_neg hne, if_neg hne])
          have HM2 := hide hM2
          have HB2 := hide (HB.out.grown hg2 HB.out.size (fun b hb => by injection hb with hb; rw [← hb]; exact HM.out.base_le.2 k HLT.out))
          clear hrow2 hg2 hM2 HAP HS HM HB hx
          go_wp2_with fail
          go_roundw
          case rel => exact ⟨l + 1, by go_num, by omega, HM2, HB2⟩
          case measure => simp [intOf]; omega
        · have hle : l = n := by omega
          have HM2 : Hid (MatB wr w.heap.size go N gr N (fun i j => if i < k + 1 then bu N xs i j else bu N (xs.take 0) i j)) := hide (HM.out.congr fun i hi c hc => by
            show (if i < k then _ else if i = k then _ else _) = if i < k + 1 then _ else _
            rw [hle, List.take_of_length_le (Nat.le_of_eq HL.out)]
            by_cases h1 : i < k
            · rw [if_pos h1, if_pos (by omega)]
            · by_cases h2 : i = k
              · rw [if_neg h1, if_pos h2, if_pos (by omega)]
              · rw [if_neg h1, if_neg h2, if_neg (by omega)])
          have hlt := HLT.out
          clear HM hle
          go_wp2_with fail
          go_roundw
          case rel => exact ⟨k + 1, by go_num, by omega, HM2, HB⟩
          case measure => simp [intOf]; omega
    · have hkn : k = N := by omega
      have HS : Hid (SPP wr (some ⟨go, 0, none⟩) N N (burL (N : Int) xs)) := hide (by
        rw [HV.out]
        refine (HM.out.congr (Y := bu N xs) fun i hi c hc => ?_).spp (by omega) HRT.out
        exact if_pos (by omega))
      clear HM hkn
      go_wp2_with fail
      go_ret2
      exact ⟨_, _, _, by rw [HE.out]; rfl, HS.out, HB.out⟩

end Go.Proofs.YtndgffiihbdppaaDoor
/- Package braid keeps its contracts (those that a seat has functions for). -/
namespace Go.Proofs.YtndgffiihbdppaaDoor
open Go.RowKit
theorem braidC : BraidC where
  check := fun m A n c xs w h hm => (bcheck_any m A n c xs w h hm).mono fun e w' ⟨h1, h2⟩ => ⟨h1, by rw [← h2]; exact Below.refl _ _⟩
  perm := bperm_any -- 27
  burau := burau_any' polyC -- 52
end Go.Proofs.YtndgffiihbdppaaDoor
/- Package coloring: Count, Propagate; the package keeps its contracts. -/
namespace Go.Proofs.YtndgffiihbdppaaDoor
set_option linter.unusedVariables false
set_option linter.unusedSimpArgs false
open Go.RowKit

theorem colV_bad' {nn kk : Int} {xs : List Int} (h : colE nn xs kk ≠ 0) : colV nn xs kk = 0 := by unfold colV; rw [if_neg h]
theorem colE_zero {m k : Int} {xs : List Int} (h : colE m xs k = 0) : bfault m xs = 0 ∧ 1 ≤ k ∧ k ≤ 13 := by
  unfold colE at h
  by_cases h0 : bfault m xs = 0
  · rw [if_neg (by omega)] at h
    by_cases h1 : k < 1 ∨ 13 < k
    · rw [if_pos h1] at h; omega
    · exact ⟨h0, by omega, by omega⟩
  · rw [if_pos h0] at h; exact absurd h h0

set_option maxRecDepth 100000 in
set_option maxHeartbeats 4000000 in
theorem clcount_any (m : Int) (A : Option Addr) (n c : Nat) (xs : List Int) (k : Int) (w : World) (ha : SL w A n c xs) (hT : TabW w) (hm : (Lit.int .i64 m).wf = true) (hwk : (Lit.int .i64 k).wf = true) :
    Calls Tryd.prog 9 #[.int .i64 m, .slice A n c, .int .i64 k] w fun e w' => e = .returned (.tuple #[.int .i64 (colV m xs k), .int .i64 (colE m xs k)]) ∧ Below w.heap.size w w' := by
  have HC := hide (clcheck_any braidC m A n c xs k w ha hm)
  by_cases h0 : colE m xs k = 0
  · obtain ⟨hb, hk1, hk2⟩ := colE_zero h0
    obtain ⟨g1, g6, gl, gx⟩ := bfault_zero hb
    obtain ⟨N, rfl⟩ : ∃ N : Nat, m = N := ⟨m.toNat, by omega⟩
    obtain ⟨K, rfl⟩ : ∃ K : Nat, k = K := ⟨k.toNat, by omega⟩
    have hx : ∀ x ∈ xs, x ≠ 0 ∧ x.natAbs < N := fun x h => by have := gx x h; omega
    have HV : Hid (colV N xs K = (cntC N K xs : Int)) := hide (by unfold colV; rw [if_pos h0, Int.toNat_natCast, Int.toNat_natCast])
    have HS := hide (dMx_sol (m := K) (n := N) (w := xs) (by omega) (by omega) (by omega) (by omega) hx)
    have HD := hide (fun (w : World) (h : SL w A n c xs) => cldiff_any A n c xs K N w h hx (by omega) (by omega) (by omega) (by omega))
    have HA := hide ha
    have HTB := hide hT
    have HWK := hide hwk
    rw [h0, HV.out]
    rw [h0] at HC
    clear ha hT hwk hm hb hx gx gl h0 HV g1 g6 hk1 hk2
    go_enter Tryd.func9, Tryd.ntmps9
    go_wp2_with fail
    refine HC.out.mono ?_
    rintro e w1 ⟨rfl, hb⟩
    have HW := hide hb
    clear hb HC
    go_wp2_with fail
    refine (HD.out _ (HA.out.below HW.out)).mono ?_
    rintro e w2 ⟨g, rfl, hs, hb⟩
    replace HW := hide (HW.out.trans (hb.mono HW.out.size))
    have HSL := hide hs
    clear hb hs HD
    go_wp2_with fail
    refine (imsol_any _ N N _ (K : Int) _ HSL.out (HTB.out.below HW.out) HWK.out).mono ?_
    rintro e w3 ⟨rfl, hb⟩
    replace HW := hide (HW.out.trans (hb.mono HW.out.size))
    rw [HS.out.1, HS.out.2]
    clear hb
    go_wp2_with fail
    go_ret2
    exact ⟨rfl, HW.out⟩
  · have HV : Hid (colV m xs k = 0) := hide (colV_bad' h0)
    rw [HV.out]
    generalize colE m xs k = E at *
    have hb0 : (E != 0) = true := by simpa using h0
    clear ha hT HV hm hwk h0
    go_enter Tryd.func9, Tryd.ntmps9
    go_wp2_with fail
    refine HC.out.mono ?_
    rintro e w1 ⟨rfl, hb⟩
    have HW := hide hb
    clear hb HC
    go_wp2_with fail
    go_ret2
    exact ⟨rfl, HW.out⟩

set_option maxRecDepth 100000 in
set_option maxHeartbeats 4000000 in
theorem clpropagate_any (m : Int) (A : Option Addr) (n c : Nat) (xs : List Int) (B : Option Addr) (l d : Nat) (ys : List Int) (k : Int) (w : World) (ha : SL w A n c xs) (hb : SL w B l d ys) (hm : (Lit.int .i64 m).wf = true) (hwk : (Lit.int .i64 k).wf = true) :
    Calls Tryd.prog 11 #[.int .i64 m, .slice A n c, .slice B l d, .int .i64 k] w (GivesLE w (proE m xs ys k) (proV m xs ys k)) := by
  have HC := hide (clcheck_any braidC m A n c xs k w ha hm)
  have HA := hide ha
  have HB := hide hb
  have HLN : Hid (ys.length = l) := hide hb.il.len
  have hlm := hb.il.small
  by_cases h0 : colE m xs k = 0
  case neg =>
    have HE : Hid (proE m xs ys k = colE m xs k) := hide (by unfold proE; rw [if_pos h0])
    have HV : Hid (proV m xs ys k = []) := hide (by unfold proV; rw [if_neg (by rw [HE.out]; exact h0)])
    rw [HE.out, HV.out]
    generalize colE m xs k = E at *
    have hb0 : (E != 0) = true := by simpa using h0
    clear ha hb HE HV hm hwk h0
    go_enter Tryd.func11, Tryd.ntmps11
    go_wp2_with fail
    refine HC.out.mono ?_
    rintro e w1 ⟨rfl, hb⟩
    have HW := hide hb
    clear hb HC
    go_wp2_with fail
    go_ret2
    exact ⟨none, 0, 0, rfl, SL.nil_ _, HW.out⟩
  case pos =>
    obtain ⟨hbf, hk1, hk2⟩ := colE_zero h0
    obtain ⟨g1, g6, gl, gx⟩ := bfault_zero hbf
    obtain ⟨N, rfl⟩ : ∃ N : Nat, m = N := ⟨m.toNat, by omega⟩
    obtain ⟨K, rfl⟩ : ∃ K : Nat, k = K := ⟨k.toNat, by omega⟩
    have hx : ∀ x ∈ xs, x ≠ 0 ∧ x.natAbs < N := fun x h => by have := gx x h; omega
    rw [h0] at HC
    by_cases hln : l = N
    case neg =>
      have HE : Hid (proE N xs ys K = 3) := hide (by unfold proE; rw [if_neg (by omega), if_pos (by rw [HLN.out]; omega)])
      have HV : Hid (proV N xs ys K = []) := hide (by unfold proV; rw [if_neg (by rw [HE.out]; omega)])
      rw [HE.out, HV.out]
      have hne : ((l : Int) != (N : Int)) = true := by simp; omega
      clear ha hb HE HV hm hwk h0 hbf gx hx
      go_enter Tryd.func11, Tryd.ntmps11
      go_wp2_with fail
      refine HC.out.mono ?_
      rintro e w1 ⟨rfl, hb⟩
      have HW := hide hb
      clear hb HC
      go_wp2_with fail
      go_ret2
      exact ⟨none, 0, 0, rfl, SL.nil_ _, HW.out⟩
    case pos =>
      subst hln
      have hne : ((l : Int) != (l : Int)) = false := by simp
      have HE : Hid (proE l xs ys K = if badC K ys then 1 else 0) := hide (by unfold proE; rw [if_neg (by omega), if_neg (by rw [HLN.out]; simp)])
      have HVb : Hid (badC K ys = true → proV l xs ys K = []) := hide (fun h => by unfold proV; rw [HE.out, if_pos h, if_neg (by omega)])
      have HVg : Hid (badC K ys = false → proV l xs ys K = cCol K xs ys) := hide (fun h => by unfold proV; rw [HE.out, h]; simp)
      have HBT : Hid (∀ j, j < l → (ys.getD j 0 < 0 ∨ (K : Int) ≤ ys.getD j 0) → badC K ys = true) := hide (fun j hj hb => by
        unfold badC
        rw [List.any_eq_true]
        have hj2 : j < ys.length := by rw [HLN.out]; exact hj
        refine ⟨ys[j], List.getElem_mem _, ?_⟩
        rw [show ys.getD j 0 = ys[j] by simp [List.getD, hj2]] at hb
        simp
        omega)
      have HBF : Hid ((∀ j, j < l → ¬ (ys.getD j 0 < 0 ∨ (K : Int) ≤ ys.getD j 0)) → badC K ys = false) := hide (fun h => by
        cases hc : badC K ys with
        | false => rfl
        | true =>
          unfold badC at hc
          rw [List.any_eq_true] at hc
          obtain ⟨y, hy, hp⟩ := hc
          obtain ⟨j, hj, rfl⟩ := List.mem_iff_getElem.1 hy
          have := h j (by rw [← HLN.out]; exact hj)
          rw [show ys.getD j 0 = ys[j] by simp [List.getD, hj]] at this
          simp at hp
          omega)
      have HX := hide hx
      rw [HE.out]
      obtain ⟨eb, heb⟩ : ∃ z : Int, (if badC (K : Int) ys = true then 1 else 0) = z := ⟨_, rfl⟩
      obtain ⟨V, hV⟩ : ∃ V, proV (l : Int) xs ys (K : Int) = V := ⟨_, rfl⟩
      have HE1 : Hid (badC (K : Int) ys = true → eb = 1) := hide (fun h => by rw [← heb, if_pos h])
      have HE0 : Hid (badC (K : Int) ys = false → eb = 0) := hide (fun h => by rw [← heb, h]; rfl)
      rw [hV] at HVb HVg
      rw [heb, hV]
      clear heb hV
      clear ha hb HE hm hwk h0 hbf gx hx
      go_enter Tryd.func11, Tryd.ntmps11
      go_wp2_with fail
      refine HC.out.mono ?_
      rintro e w1 ⟨rfl, hb⟩
      have HW := hide hb
      replace HA := hide (HA.out.below hb)
      replace HB := hide (HB.out.below hb)
      clear hb HC
      go_wp2_with fail
      go_loop [26] (fun iv => ∃ j : Nat, j ≤ l ∧ iv = .int .i64 j ∧ Hid (∀ i, i < j → ¬ (ys.getD i 0 < 0 ∨ (K : Int) ≤ ys.getD i 0))) (fun iv => l - (intOf iv).toNat)
      case atStart => exact ⟨0, Nat.zero_le _, rfl, hide (fun i hi => absurd hi (Nat.not_lt_zero _))⟩
      case round =>
        obtain ⟨j, hj, rfl, HG⟩ := hrel
        by_cases hlt : j < l
        · obtain ⟨ad, rfl, hcl⟩ := HB.out.il.at_ hlt
          by_cases hbad : ys.getD j 0 < 0 ∨ (K : Int) ≤ ys.getD j 0
          · have hbt := HBT.out j hlt hbad
            have e1 := HE1.out hbt
            have e2 := HVb.out hbt
            clear hbt HVb HVg HBT HBF HG HE0 HE1
            subst e1 e2
            generalize ys.getD j 0 = y at *
            by_cases hy : y < 0
            · have d1 : decide (y < 0) = true := decide_eq_true hy
              clear hbad hy
              go_wp2_with fail
              go_ret2
              exact ⟨none, 0, 0, rfl, SL.nil_ _, HW.out⟩
            · have d1 : decide (y < 0) = false := decide_eq_false hy
              have d2 : decide ((K : Int) ≤ y) = true := decide_eq_true (by omega)
              clear hbad hy
              go_wp2_with fail
              go_ret2
              exact ⟨none, 0, 0, rfl, SL.nil_ _, HW.out⟩
          · have HG2 : Hid (∀ i, i < j + 1 → ¬ (ys.getD i 0 < 0 ∨ (K : Int) ≤ ys.getD i 0)) := hide (fun i hi => by
              by_cases e : i = j
              · rw [e]; exact hbad
              · exact HG.out i (by omega))
            generalize ys.getD j 0 = y at *
            have d1 : decide (y < 0) = false := decide_eq_false (by omega)
            have d2 : decide ((K : Int) ≤ y) = false := decide_eq_false (by omega)
            clear hbad HG
            go_wp2_with fail
            go_round
            case rel => exact ⟨j + 1, by omega, by go_num, HG2⟩
            case measure => simp [intOf]; omega
        · have hjl : j = l := by omega
          have hbf := HBF.out (fun i hi => HG.out i (by omega))
          have e1 := HE0.out hbf
          have e2 := HVg.out hbf
          have HIC := hide (isC_badC HLN.out hbf)
          clear HG HVb HVg HBT HBF hbf HE0 HE1
          subst e1 e2
          go_wp2_with fail
          refine (clprop_any A n c xs B l d ys K l _ HA.out HB.out HIC.out HX.out (by omega) (by omega) (by omega)).mono ?_
          rintro e w2 ⟨R, rn, rc, rfl, ho, hb⟩
          have HR := hide ho.sl
          have HW2 := hide (HW.out.trans (hb.mono HW.out.size))
          clear hb ho
          go_wp2_with fail
          go_ret2
          exact ⟨_, _, _, rfl, HR.out, HW2.out⟩

/-- THE PACKAGE KEEPS ITS CONTRACTS. -/
theorem colC : ColC where
  prop := fun m A n c xs B l d ys k w h1 h2 h3 h4 => clpropagate_any m A n c xs B l d ys k w h1 h2 h3 h4 -- 11
  count := fun m A n c xs k w h1 hT h3 h4 => clcount_any m A n c xs k w h1 hT h3 h4
end Go.Proofs.YtndgffiihbdppaaDoor
