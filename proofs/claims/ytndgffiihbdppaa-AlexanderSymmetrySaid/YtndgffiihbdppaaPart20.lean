/- Several texts in one. -/
import Derived.Test.YtndgffiihbdppaaPart12
import Derived.Deep.RegionWith
import Derived.Test.YtndgffiihbdppaaPart8
import Derived.Test.YtndgffiihbdppaaPart19
import Derived.Test.YtndgffiihbdppaaPart7
import Derived.Test.YtndgffiihbdppaaPart3
import Derived.Test.YtndgffiihbdppaaPart14
import Derived.Test.YtndgffiihbdppaaPart15
/- Package braid: identity; the matrix as the call builds it. -/
namespace Go.Proofs.Ytndgffiihbdppaa
set_option linter.unusedVariables false
set_option linter.unusedSimpArgs false
open Go.RowKit

theorem bu_snoc {n : Nat} {w : List Int} {x : Int} (hx : x ≠ 0) (hxn : x.natAbs < n) {r c : Nat} (hr : r < n) (hc : c < n) : bu n (w ++ [x]) r c = stepR x (bu n w r) c := by
  have h1 : bu n (w ++ [x]) r c = mulM n (bu n w) (bl x) r c := by
    rw [bu_append n w [x] r hr c hc]
    exact ((EqM.refl n _).mul (EqM.mul_one n (bl x))) r hr c hc
  rw [h1]
  show CR.sumN n (fun k => bu n w r k * bl x k c) = _
  generalize bu n w r = Y
  unfold stepR e00 e01 e10 e11 bl
  obtain ⟨a, ha⟩ : ∃ a, x.natAbs = a := ⟨_, rfl⟩
  have ha1 : 1 ≤ a := by omega
  rw [ha] at hxn ⊢
  by_cases c1 : c + 1 = a
  · rw [if_pos c1, sumN_two (a := c) (b := c + 1) hc (by omega) (by omega) (fun i _ h3 h4 => by
      rw [if_neg (by omega), if_neg (by omega), if_neg (by omega), CR.mul_zero])]
    simp only [if_pos c1, if_neg (show ¬ c + 1 + 1 = a by omega), if_true, if_neg (show ¬ c = c + 1 by omega)]
  · rw [if_neg c1]
    by_cases c2 : c = a
    · rw [if_pos c2, sumN_two (a := c - 1) (b := c) (by omega) hc (by omega) (fun i _ h3 h4 => by
        rw [if_neg (by omega), if_neg (by omega), if_neg (by omega), CR.mul_zero])]
      have e1 : c - 1 + 1 = c := by omega
      simp only [e1, if_pos c2, if_neg c1, if_true, if_neg (show ¬ c = c - 1 by omega), if_neg (show ¬ c + 1 = c by omega)]
    · rw [if_neg c2, CR.sumN_single (k := c) hc (fun i _ h3 => ?_)]
      · rw [if_neg c1, if_neg c2, if_pos rfl, CR.mul_one]
      · by_cases h4 : i + 1 = a
        · rw [if_pos h4]
          simp only [if_neg (show ¬ c = i by omega), if_neg (show ¬ c = i + 1 by omega)]
          split <;> exact CR.mul_zero _
        · by_cases h5 : i = a
          · rw [if_neg h4, if_pos h5]
            simp only [if_neg (show ¬ c + 1 = i by omega), if_neg (show ¬ c = i by omega)]
            split <;> exact CR.mul_zero _
          · rw [if_neg h4, if_neg h5, if_neg h3, CR.mul_zero]

theorem RowB.grown {w w' : World} {g g' n : Nat} {K : Nat → Prop} {X : Nat → LP} (h : RowB w g n K X) (hg : w.grownBy w' (some g')) (hne : g' ≠ g) (hK : ∀ b, K b → b ≠ g') : RowB w' g n K X :=
  ((h.mono (K' := fun b => b < w.heap.size ∧ K b) fun b hl hb => ⟨hl, hb⟩).keep (fun b hb => by
    rcases hb with rfl | ⟨hl, hb⟩
    · exact hg.block b h.lt (fun e => hne (by injection e with e; exact e.symm))
    · exact hg.block b hl (fun e => hK b hb (by injection e))) hg.size).mono fun b _ hb => hb.2
/-- None of the blocks of the matrix. -/
def FreB (go : Nat) (gr : Nat → Nat) (k : Nat) (b : Nat) : Prop := b ≠ go ∧ ∀ i, i < k → gr i ≠ b
/-- The first k rows of a matrix. -/
structure MatB (w : World) (base go n : Nat) (gr : Nat → Nat) (k : Nat) (X : Mtx LP) : Prop where
  blk : ∃ cs, Blk w go 89 cs
  out : ∀ i, i < k → w.cell? ⟨go, i, none⟩ = some (.slice (some ⟨gr i, 0, none⟩) n n)
  row : ∀ i, i < k → RowB w (gr i) n (FreB go gr k) (X i)
  ne : ∀ i, i < k → gr i ≠ go
  inj : ∀ i j, i < k → j < k → gr i = gr j → i = j
  base_le : base ≤ go ∧ ∀ i, i < k → base ≤ gr i
theorem MatB.lt {w : World} {base go n : Nat} {gr : Nat → Nat} {k : Nat} {X : Mtx LP} (h : MatB w base go n gr k X) : go < w.heap.size := by
  obtain ⟨cs, hc⟩ := h.blk
  exact hc.lt
theorem MatB.fresh {w : World} {base go n : Nat} {gr : Nat → Nat} {k : Nat} {X : Mtx LP} (h : MatB w base go n gr k X) : ∀ b, w.heap.size ≤ b → FreB go gr k b := fun b hb =>
  ⟨fun e => by have := h.lt; omega, fun i hi e => by have := (h.row i hi).lt; omega⟩
/-- A row has changed. -/
theorem MatB.chg {w w' : World} {base go n : Nat} {gr : Nat → Nat} {k : Nat} {X Y : Mtx LP} (h : MatB w base go n gr k X) {r : Nat} (hr : r < k) (hg : w.grownBy w' (some (gr r))) (hrow : RowB w' (gr r) n (FreB go gr k) (Y r)) (hY : ∀ i, i < k → i ≠ r → ∀ c, c < n → X i c = Y i c) : MatB w' base go n gr k Y := by
  have hgo : w'.heap[go]? = w.heap[go]? := hg.block go h.lt (fun e => h.ne r hr (by injection e with e; exact e.symm))
  refine ⟨?_, fun i hi => ?_, fun i hi => ?_, h.ne, h.inj, h.base_le⟩
  · obtain ⟨cs, hc⟩ := h.blk
    exact ⟨cs, hgo.trans hc⟩
  · rw [← h.out i hi]
    exact World.cell?_of_block (w := w) (a := ⟨go, i, none⟩) hgo
  · by_cases e : i = r
    · subst e; exact hrow
    · exact ((h.row i hi).grown hg (fun e2 => e (h.inj i r hi hr e2.symm)) (fun b hb e2 => hb.2 r hr e2.symm)).congr (hY i hi e)
theorem MatB.below {w w' : World} {base go n : Nat} {gr : Nat → Nat} {k : Nat} {X : Mtx LP} (h : MatB w base go n gr k X) (hb : Below w.heap.size w w') : MatB w' base go n gr k X := by
  refine ⟨?_, fun i hi => ?_, fun i hi => (h.row i hi).below hb, h.ne, h.inj, h.base_le⟩
  · obtain ⟨cs, hc⟩ := h.blk
    exact ⟨cs, hc.below hb hc.lt⟩
  · rw [← h.out i hi]
    exact hb.cell (p := ⟨go, i, none⟩) h.lt
theorem MatB.congr {w : World} {base go n : Nat} {gr : Nat → Nat} {k : Nat} {X Y : Mtx LP} (h : MatB w base go n gr k X) (hY : ∀ i, i < k → ∀ c, c < n → X i c = Y i c) : MatB w base go n gr k Y :=
  ⟨h.blk, h.out, fun i hi => (h.row i hi).congr (hY i hi), h.ne, h.inj, h.base_le⟩
/-- All rows: a matrix as its readers want it. -/
theorem RowB.spo {w : World} {g n : Nat} {K : Nat → Prop} {X : Nat → LP} (h : RowB w g n K X) (hn : n ≤ 1000) (hR : ∀ j, j < n → LP.Rt (X j)) : SPo w (some ⟨g, 0, none⟩) n n ((List.range n).map fun j => cP (X j)) := by
  refine ⟨by simp, by omega, fun e => (by cases e), Nat.le_refl _, fun h0 => ⟨_, rfl, h.lt, fun j hj => ?_⟩⟩
  obtain ⟨B, m, d, h1, h2, h3⟩ := h.at_ j hj
  have e1 : ((List.range n).map fun j => cP (X j)).getD j (0, []) = cP (X j) := by simp [List.getD, hj]
  have e2 : (⟨g, 0, none⟩ : Addr).add (j * 2) = ⟨g, j * 2, none⟩ := by unfold Addr.add; split <;> simp_all
  rw [e1, e2]
  exact ⟨B, m, d, h1, h2, h3.sl, (hR j hj).wf⟩
theorem MatB.spp {w : World} {base go n : Nat} {gr : Nat → Nat} {X : Mtx LP} (h : MatB w base go n gr n X) (hn : n ≤ 1000) (hR : ∀ i, i < n → ∀ j, j < n → LP.Rt (X i j)) : SPP w (some ⟨go, 0, none⟩) n n ((List.range n).map fun i => (List.range n).map fun j => cP (X i j)) := by
  refine ⟨by simp, by omega, fun e => (by cases e), Nat.le_refl _, fun h0 => ⟨_, rfl, h.lt, fun i hi => ?_⟩⟩
  have e1 : ((List.range n).map fun i => (List.range n).map fun j => cP (X i j)).getD i [] = (List.range n).map fun j => cP (X i j) := by simp [List.getD, hi]
  have e2 : (⟨go, 0, none⟩ : Addr).add i = ⟨go, i, none⟩ := by unfold Addr.add; split <;> simp_all
  rw [e1, e2]
  exact ⟨_, _, _, h.out i hi, (h.row i hi).spo hn (hR i hi)⟩
/-- A new row of zeros. -/
theorem RowB.zero {w : World} {base g n : Nat} {K : Nat → Prop} (h : w.ownsRow base 36 2 (.slice (some ⟨g, 0, none⟩) n n) n (madeCells #[.int .i64 0, .slice none 0 0] (n * 2)).toList) (hn : n ≤ 1000) : RowB w g n K (fun _ => 0) := by
  have ho : OwnG 36 2 w base (some ⟨g, 0, none⟩) n n (madeCells #[.int .i64 0, .slice none 0 0] (n * 2)).toList := ⟨h, by omega⟩
  obtain ⟨cs, _, hc⟩ := ho.cells g rfl
  refine ⟨⟨cs, hc⟩, fun j hj => ⟨none, 0, 0, ?_, ?_, ?_⟩⟩
  · show w.cell? _ = some (.int .i64 (LP.canon 0).1)
    rw [ho.cellAt (by omega), canon_zero, Array.getElem?_toList]
    unfold madeCells
    simp [show j * 2 < n * 2 by omega]
  · rw [ho.cellAt (by omega), Array.getElem?_toList]
    unfold madeCells
    simp [show j * 2 + 1 < n * 2 by omega]
  · show SLK K w none 0 0 (LP.canon 0).2
    rw [canon_zero]
    exact ⟨SL.nil_ _, fun h0 => absurd h0 (by omega)⟩
end Go.Proofs.Ytndgffiihbdppaa
/- Package braid: identity. -/
namespace Go.Proofs.Ytndgffiihbdppaa
set_option linter.unusedVariables false
set_option linter.unusedSimpArgs false
open Go.RowKit

/-- The unit matrix, new. -/
def GivesId (w : World) (n : Nat) (e : Ending) (w' : World) : Prop :=
  ∃ go gr, e = .returned (.slice (some ⟨go, 0, none⟩) n n) ∧ MatB w' w.heap.size go n gr n oneM ∧ Below w.heap.size w w'
theorem MatB.start {w : World} {base go n : Nat} {X : Mtx LP} {cs : Array Value} (h : Blk w go 89 cs) (hb : base ≤ go) : MatB w base go n (fun _ => 0) 0 X :=
  ⟨⟨_, h⟩, fun i hi => absurd hi (by omega), fun i hi => absurd hi (by omega), fun i hi => absurd hi (by omega), fun i j hi => absurd hi (by omega), hb, fun i hi => absurd hi (by omega)⟩
/-- One row more. -/
theorem MatB.more {w w' : World} {base go n : Nat} {gr : Nat → Nat} {k : Nat} {X : Mtx LP} {v : Value} (h : MatB w base go n gr k X) {g : Nat} (hb : Below w.heap.size w w') (hg : w.heap.size ≤ g) (hbase : base ≤ w.heap.size) (hc : w.cell? ⟨go, k, none⟩ = some v) (hrow : ∀ K, RowB w' g n K (X k)) :
    MatB (w'.setCell ⟨go, k, none⟩ (.slice (some ⟨g, 0, none⟩) n n)) base go n (fun i => if i = k then g else gr i) (k + 1) X := by
  have hlt := h.lt
  have hc' : w'.cell? ⟨go, k, none⟩ = some v := (hb.cell (p := ⟨go, k, none⟩) hlt).trans hc
  have hne : ∀ i, i < k → (if i = k then g else gr i) = gr i := fun i hi => if_neg (by omega)
  have hch : w'.grownBy (w'.setCell ⟨go, k, none⟩ (.slice (some ⟨g, 0, none⟩) n n)) (some go) := chg_set
  have hgl : ∀ i, i < k → gr i < w.heap.size := fun i hi => (h.row i hi).lt
  refine ⟨?_, fun i hi => ?_, fun i hi => ?_, fun i hi => ?_, fun i j hi hj e => ?_, h.base_le.1, fun i hi => ?_⟩
  · obtain ⟨cs, hcs⟩ := (h.below hb).blk
    exact ⟨_, hcs.set_ k _⟩
  · by_cases e : i = k
    · subst e
      show _ = some (Value.slice (some ⟨if i = i then g else gr i, 0, none⟩) n n)
      rw [if_pos rfl]
      exact World.cell?_setCell_same w' _ _ hc'
    · show _ = some (Value.slice (some ⟨if i = k then g else gr i, 0, none⟩) n n)
      rw [if_neg e, World.cell?_setCell_other w' _ _ _ (by intro h2; simp only [Addr.mk.injEq] at h2; omega)]
      exact (h.below hb).out i (by omega)
  · show RowB _ (if i = k then g else gr i) n _ (X i)
    have hF : ∀ b, FreB go (fun i => if i = k then g else gr i) (k + 1) b → b ≠ go := fun b hb => hb.1
    by_cases e : i = k
    · subst e
      rw [if_pos rfl]
      exact (hrow _).grown hch (by omega) hF
    · rw [if_neg e]
      have h1 := (h.row i (by omega)).mono (K' := FreB go (fun i => if i = k then g else gr i) (k + 1)) fun b hbl hf => ⟨hf.1, fun j hj => by
        show (if j = k then g else gr j) ≠ b
        split
        · omega
        · exact hf.2 j (by omega)⟩
      exact (h1.below hb).grown hch (fun e2 => h.ne i (by omega) e2.symm) hF
  · show (if i = k then g else gr i) ≠ go
    split
    · omega
    · exact h.ne i (by omega)
  · replace e : (if i = k then g else gr i) = (if j = k then g else gr j) := e
    by_cases e1 : i = k
    · by_cases e2 : j = k
      · omega
      · rw [if_pos e1, if_neg e2] at e
        have := hgl j (by omega)
        omega
    · by_cases e2 : j = k
      · rw [if_neg e1, if_pos e2] at e
        have := hgl i (by omega)
        omega
      · rw [if_neg e1, if_neg e2] at e
        exact h.inj i j (by omega) (by omega) e
  · show base ≤ (if i = k then g else gr i)
    split
    · omega
    · exact h.base_le.2 i (by omega)
/-- The unit matrix behind k rows. -/
def uM (k : Nat) : Mtx LP := fun i c => if i < k then oneM i c else 0

set_option maxRecDepth 100000 in
set_option maxHeartbeats 8000000 in
theorem identity_any (n : Nat) (w : World) (hn : n ≤ 6) : Calls Try.prog 103 #[.int .i64 n] w (GivesId w n) := by
  obtain ⟨i0, hi0, hz0, hz1, hz2⟩ := info_parts prows_info
  obtain ⟨i1, hi1, hy0, hy1, hy2⟩ := info_parts polys_info
  have HI := hide hi1
  have HY0 := hide hy0
  have HY1 := hide hy1
  have HY2 := hide hy2
  clear hi1 hy0 hy1 hy2
  go_enter Try.func103, Try.ntmps103
  go_wp2_with (at_make; refine wpList_make_full _ rfl _ _ 68 rfl w.heap.size 89 i0 (.slice none 0 0) 1 Try.underlying68 hi0 hz0 hz1 .i64 .i64 _ _ n rfl rfl rfl rfl (by rw [hz2]; omega) (by unfold maxLen; omega) (Nat.le_refl _) ?_; intro w2 hown2 hg2)
  have hB2 : Below w.heap.size w w2 := (Below.refl _ _).grown hg2 (Nat.le_refl _) (by intro k hk; cases hk)
  have ho2 : OwnG 89 1 w2 w.heap.size (some ⟨w.heap.size, 0, none⟩) n n (madeCells #[.slice none 0 0] (n * 1)).toList := ⟨hown2, by omega⟩
  obtain ⟨cs, _, hcs⟩ := ho2.cells _ rfl
  have HM2 : Hid (MatB w2 w.heap.size w.heap.size n (fun _ => 0) 0 (uM 0)) := hide (MatB.start hcs (Nat.le_refl _))
  have HC2 : Hid (∀ i, i < n → ∃ v, w2.cell? ⟨w.heap.size, i, none⟩ = some v) := hide (fun i hi => by
    have h := ho2.cellAt (j := i) (by omega)
    rw [h, Array.getElem?_toList]
    exact ⟨_, Array.getElem?_eq_getElem (by unfold madeCells; simp; omega)⟩)
  have HB2 := hide hB2
  clear hown2 hg2 hB2 ho2 hcs
  go_loopw [9] (fun iv wr => ∃ (k : Nat) (gr : Nat → Nat), iv = .int .i64 k ∧ k ≤ n ∧ Hid (MatB wr w.heap.size w.heap.size n gr k (uM k)) ∧ Hid (∀ i, i < n → ∃ v, wr.cell? ⟨w.heap.size, i, none⟩ = some v) ∧ Hid (Below w.heap.size w wr)) (fun iv _ => n - (intOf iv).toNat)
  case atStart => exact ⟨0, _, rfl, Nat.zero_le _, HM2, HC2, HB2⟩
  case round =>
    clear HM2 HB2 HC2
    obtain ⟨k, gr, rfl, hk, HM, HC, HB⟩ := hrel
    by_cases hlt : k < n
    · obtain ⟨v, hv⟩ := HC.out k hlt
      have hfr : ∃ cs, Blk wr w.heap.size 89 cs := HM.out.blk
      obtain ⟨cs9, hcs9⟩ := hfr
      have HK9 := hide hcs9
      have hbw := HB.out.size
      have HV := hide hv
      clear hcs9 hv
      go_upto_region 6 with (at_make; refine wpList_make_full _ rfl _ _ 89 rfl wr.heap.size 36 i1 (.agg #[.int .i64 0, .slice none 0 0]) 2 Try.underlying89 HI.out HY0.out HY1.out .i64 .i64 _ _ n rfl rfl rfl rfl (by rw [HY2.out]; omega) (by unfold maxLen; omega) (Nat.le_refl _) ?_; intro w3 hown3 hg3; have hb3 : Below wr.heap.size wr w3 := (Below.refl _ _).grown hg3 (Nat.le_refl _) (by intro k hk; cases hk); have hv3 := (hb3.cell (p := ⟨w.heap.size, k, none⟩) HK9.out.lt).trans HV.out; have hf3 := (HK9.out.below hb3 HK9.out.lt).frozen k)
      have hz3 := RowB.zero (base := wr.heap.size) (g := wr.heap.size) (n := n) (w := w3) (K := fun _ => True) (by
        have h := hown3
        rw [show (Value.agg #[Value.int IntKind.i64 0, Value.slice none 0 0]).cells = #[.int .i64 0, .slice none 0 0] from rfl] at h
        exact h) (by omega)
      have hM4 := HM.out.more (g := wr.heap.size) (X := uM k) hb3 (Nat.le_refl _) hbw HV.out (fun K => ((RowB.zero (base := wr.heap.size) (g := wr.heap.size) (n := n) (w := w3) (K := K) (by
        have h := hown3
        rw [show (Value.agg #[Value.int IntKind.i64 0, Value.slice none 0 0]).cells = #[.int .i64 0, .slice none 0 0] from rfl] at h
        exact h) (by omega)).congr (Y := uM k k) fun j _ => (if_neg (Nat.lt_irrefl k)).symm))
      have hC4 : ∀ i, i < n → ∃ v, (w3.setCell ⟨w.heap.size, k, none⟩ (.slice (some ⟨wr.heap.size, 0, none⟩) n n)).cell? ⟨w.heap.size, i, none⟩ = some v := fun i hi => by
        by_cases e : i = k
        · subst e
          exact ⟨_, World.cell?_setCell_same w3 _ _ hv3⟩
        · rw [World.cell?_setCell_other w3 _ _ _ (by intro h2; simp only [Addr.mk.injEq] at h2; omega)]
          obtain ⟨v', hv'⟩ := HC.out i hi
          exact ⟨v', (hb3.cell (p := ⟨w.heap.size, i, none⟩) HK9.out.lt).trans hv'⟩
      have hb4 := (HB.out.trans (hb3.mono hbw)).setCell (p := ⟨w.heap.size, k, none⟩) (Nat.le_refl _) (.slice (some ⟨wr.heap.size, 0, none⟩) n n)
      have hgne : wr.heap.size ≠ w.heap.size := by have := HK9.out.lt; omega
      obtain ⟨g, hg⟩ : ∃ g, wr.heap.size = g := ⟨_, rfl⟩
      obtain ⟨W4, hW4⟩ : ∃ W, w3.setCell ⟨w.heap.size, k, none⟩ (.slice (some ⟨wr.heap.size, 0, none⟩) n n) = W := ⟨_, rfl⟩
      rw [hW4] at hM4 hC4 hb4 ⊢
      rw [hg] at hM4 hgne ⊢
      obtain ⟨gr4, hgr4⟩ : ∃ f : Nat → Nat, f = fun i => if i = k then g else gr i := ⟨_, rfl⟩
      have HGK : Hid (gr4 k = g) := hide (by rw [hgr4]; exact if_pos rfl)
      rw [← hgr4] at hM4
      have HM4 := hide hM4
      have HC4 := hide hC4
      have HB4 := hide hb4
      have hoc := hM4.out k (by omega)
      rw [HGK.out] at hoc
      have HOC := hide hoc
      have hgo : w.heap.size < W4.heap.size := hM4.lt
      have hrw := hM4.row k (by omega)
      rw [HGK.out] at hrw
      have hgl : g < W4.heap.size := hrw.lt
      have HRW := hide hrw
      clear hown3 hg3 hb3 hv3 hf3 hM4 hC4 hb4 hg hW4 hgr4 hoc hrw HM HC HB HV HK9 hbw hz3 hgne
      obtain ⟨i2, hi2, hx0, hx1, hx2⟩ := info_parts int_info
      have HI2 := hide hi2
      have HX0 := hide hx0
      have HX1 := hide hx1
      clear hi2 hx0 hx1 hx2
      refine wp_region_T (S := fun x => Below W4.heap.size W4 x) 8 (by kernel_rfl) (Below.refl _ _).drew (fun hS => ?_)
      refine wpT_tk 0 (v := .slice (some ⟨w.heap.size, 0, none⟩) n n) rfl (by kernel_rfl) (by kernel_rfl) (by kernel_rfl) (by kernel_rfl) (yi rfl fun x hx => gives_move (.inl rfl) rfl) hS ?_
      go_frame
      refine wpT_tk 1 (v := .int .i64 k) rfl (by kernel_rfl) (by kernel_rfl) (by kernel_rfl) (by kernel_rfl) (yi rfl fun x hx => gives_move (.inl rfl) rfl) hS ?_
      go_frame
      refine wpT_tk 2 (v := .pointer (some ⟨w.heap.size, k * 1, none⟩)) rfl (by kernel_rfl) (by kernel_rfl) (by kernel_rfl) (by kernel_rfl) (yi rfl fun x hx => gives_indexB rfl Try.underlying68 (fun w => by kernel_rfl) rfl rfl hlt) hS ?_
      go_frame
      rw [Nat.mul_one]
      refine wpT_tk 3 (v := .slice (some ⟨g, 0, none⟩) n n) rfl (by kernel_rfl) (by kernel_rfl) (by kernel_rfl) (by kernel_rfl) (yi rfl fun x hx => gives_load1 rfl (by kernel_rfl) rfl ((hx.cell (p := ⟨w.heap.size, k, none⟩) hgo).trans HOC.out)) hS ?_
      go_frame
      refine wpT_tk 4 (v := .int .i64 k) rfl (by kernel_rfl) (by kernel_rfl) (by kernel_rfl) (by kernel_rfl) (yi rfl fun x hx => gives_move (.inl rfl) rfl) hS ?_
      go_frame
      refine wpT_1 5 rfl (by kernel_rfl) ?_
      refine wp_lit_int rfl Try.underlying22 i2 HI2.out HX0.out HX1.out (v := 1) rfl ?_
      have hS5 : Below W4.heap.size W4 (W4.drew.alloc (.cells #[.int .i64 1] 3)) := hS.alloc (Nat.le_refl _) _
      have hl5 := SL.lit W4.drew [1] (by decide) (cs := #[.int .i64 1]) rfl (m := 1) rfl
      refine ⟨fun _ => hS5, ?_⟩
      go_frame
      refine wpT_1 6 rfl (by kernel_rfl) ?_
      refine wp_call [.int .i64 0, .slice (some ⟨W4.drew.heap.size, 0, none⟩) 1 1] rfl rfl eBpoly rfl ((bpoly_any 0 _ 1 1 (W4.drew.alloc (.cells #[.int .i64 1] 3))).mono ?_)
      rintro e w6 ⟨rfl, hb6⟩
      have hS6 : Below W4.heap.size W4 w6 := hS5.trans (hb6.mono hS5.size)
      refine ⟨_, rfl, fun _ => hS6, ?_⟩
      go_frame
      refine wpT_tk 7 (v := .pointer (some ⟨g, k * 2, none⟩)) rfl (by kernel_rfl) (by kernel_rfl) (by kernel_rfl) (by kernel_rfl) (yi rfl fun x hx => gives_indexB rfl Try.underlying89 (fun w => by kernel_rfl) rfl rfl hlt) hS6 ?_
      go_frame
      refine wpT_1 8 rfl (by kernel_rfl) ?_
      have hrow6 := HRW.out.below hS6
      obtain ⟨_, _, _, q0, q1, _⟩ := hrow6.at_ k hlt
      have f0 := hrow6.frozen (k * 2)
      have f1 := hrow6.frozen (k * 2 + 1)
      refine wp_store_mid _ _ _ rfl g (k * 2) #[.int .i64 0, .slice (some ⟨W4.drew.heap.size, 0, none⟩) 1 1] rfl rfl (fun j hj => ?_) (by kernel_rfl) (by kernel_rfl) ?_
      · replace hj : j < 2 := hj
        match j, hj with
        | 0, _ => exact ⟨by rw [Nat.add_zero, q0]; rfl, f0⟩
        | 1, _ => exact ⟨by rw [q1]; rfl, f1⟩
      refine ⟨fun h => absurd rfl h, ?_⟩
      go_frame
      refine wpT_done (by kernel_rfl) (noPanic_mk ?_) _
      have HM6 := HM4.out.below hS6
      have hl6 : SL w6 (some ⟨W4.heap.size, 0, none⟩) 1 1 (LP.canon 1).2 := by rw [canon_one]; exact hl5.below hb6
      have hfr := HM4.out.fresh
      have hset := hrow6.set_ (k := k) (x := 1) (fun h => h.2 k (Nat.lt_succ_self k) HGK.out) hlt (SLK.mk hl6 (fun _ ad e => by injection e with e; subst e; exact hfr _ (Nat.le_refl _)))
      rw [canon_one] at hset
      have hchg : w6.grownBy ((w6.setCell ⟨g, k * 2, none⟩ (.int .i64 0)).setCell ⟨g, k * 2 + 1, none⟩ (.slice (some ⟨W4.heap.size, 0, none⟩) 1 1)) (some (gr4 k)) := by rw [HGK.out]; exact chg_trans chg_set chg_set
      have hM7 := HM6.chg (r := k) (Y := uM (k + 1)) (Nat.lt_succ_self k) hchg (by
        rw [HGK.out]
        refine hset.congr fun j hj => ?_
        show (if j = k then (1 : LP) else uM k k j) = uM (k + 1) k j
        unfold uM
        rw [if_neg (Nat.lt_irrefl k), if_pos (Nat.lt_succ_self k)]
        unfold oneM
        by_cases e : j = k
        · rw [if_pos e, if_pos e.symm]
        · rw [if_neg e, if_neg (fun h => e h.symm)]) (fun i hi hne c hc => by
        unfold uM
        rw [if_pos (by omega), if_pos (by omega)])
      have HM7 := hide hM7
      have HB7 := hide (((HB4.out.trans (hS6.mono HB4.out.size)).setCell (p := ⟨g, k * 2, none⟩) (HM4.out.base_le.2 k (Nat.lt_succ_self k) |> fun h => by rw [HGK.out] at h; exact h) (.int .i64 0)).setCell (p := ⟨g, k * 2 + 1, none⟩) (HM4.out.base_le.2 k (Nat.lt_succ_self k) |> fun h => by rw [HGK.out] at h; exact h) (.slice (some ⟨W4.heap.size, 0, none⟩) 1 1))
      have HC7 : Hid (∀ i, i < n → ∃ v, ((w6.setCell ⟨g, k * 2, none⟩ (.int .i64 0)).setCell ⟨g, k * 2 + 1, none⟩ (.slice (some ⟨W4.heap.size, 0, none⟩) 1 1)).cell? ⟨w.heap.size, i, none⟩ = some v) := hide (fun i hi => by
        obtain ⟨v', hv'⟩ := HC4.out i hi
        refine ⟨v', ?_⟩
        have hne := HM4.out.ne k (Nat.lt_succ_self k)
        rw [HGK.out] at hne
        rw [World.cell?_setCell_other _ _ _ _ (by intro h2; simp only [Addr.mk.injEq] at h2; omega), World.cell?_setCell_other _ _ _ _ (by intro h2; simp only [Addr.mk.injEq] at h2; omega)]
        exact (hS6.cell (p := ⟨w.heap.size, i, none⟩) hgo).trans hv')
      clear hS hS5 hS6 hl5 hl6 hb6 hrow6 q0 q1 f0 f1 HM6 hfr hset hchg hM7 HM4 HC4 HB4 HOC HRW
      rw [show W4.drew.heap.size = W4.heap.size from rfl, show w6.setCells g (k * 2) [.int .i64 0, .slice (some ⟨W4.heap.size, 0, none⟩) 1 1] = (w6.setCell ⟨g, k * 2, none⟩ (.int .i64 0)).setCell ⟨g, k * 2 + 1, none⟩ (.slice (some ⟨W4.heap.size, 0, none⟩) 1 1) from rfl]
      generalize (w6.setCell ⟨g, k * 2, none⟩ (.int .i64 0)).setCell ⟨g, k * 2 + 1, none⟩ (.slice (some ⟨W4.heap.size, 0, none⟩) 1 1) = w7 at *
      go_wp2_with fail
      go_roundw
      case rel => exact ⟨k + 1, _, by go_num, by omega, HM7, HC7, HB7⟩
      case measure => simp [intOf]; omega
    · have hkn : k = n := by omega
      have HE : Hid (MatB wr w.heap.size w.heap.size n gr n oneM) := hide (by
        have h := HM.out
        rw [hkn] at h
        exact h.congr fun i hi c _ => if_pos hi)
      clear HM HC
      go_wp2_with fail
      go_ret
      exact ⟨_, _, rfl, HE.out, HB.out⟩

set_option maxRecDepth 100000 in
set_option maxHeartbeats 8000000 in
theorem burau_any' (F : PolyC) (m : Int) (A : Option Addr) (n c : Nat) (xs : List Int) (w : World) (ha : SL w A n c xs) (hm : (Lit.int .i64 m).wf = true) :
    Calls Try.prog 82 #[.int .i64 m, .slice A n c] w (GivesMP w (burE m xs) (burL m xs)) := by
  have HC := hide (bcheck_any m A n c xs w ha hm)
  have HL := hide ha.il.len
  have HA := hide ha.il
  have hns := ha.il.small
  clear ha
  obtain ⟨f, hf⟩ : ∃ f, bfault m xs = f := ⟨_, rfl⟩
  have HF := hide hf
  rw [hf] at HC
  clear hf
  by_cases h0 : f = 0
  case neg =>
    have HE : Hid (burE m xs = f) := hide (by unfold burE; rw [HF.out, if_neg h0])
    have HV : Hid (burL m xs = []) := hide (by unfold burL; rw [HE.out, if_neg h0])
    have hne : (f != 0) = true := by simpa using h0
    clear h0
    go_enter Try.func82, Try.ntmps82
    go_wp2_with fail
    refine HC.out.mono ?_
    rintro e w1 ⟨rfl, hww⟩
    subst hww
    go_wp2_with fail
    go_ret2
    rw [HE.out, HV.out]
    exact ⟨none, 0, 0, rfl, ⟨rfl, by omega, fun _ => ⟨rfl, rfl⟩, Nat.le_refl _, fun h => absurd h (by omega)⟩, Below.refl _ _⟩
  subst h0
  by_cases h16 : 16 < n
  · have HE : Hid (burE m xs = 2) := hide (by unfold burE; rw [HF.out, if_pos rfl, if_pos (by rw [HL.out]; exact h16)])
    have HV : Hid (burL m xs = []) := hide (by unfold burL; rw [HE.out]; rfl)
    go_enter Try.func82, Try.ntmps82
    go_wp2_with fail
    refine HC.out.mono ?_
    rintro e w1 ⟨rfl, hww⟩
    subst hww
    go_wp2_with fail
    go_ret2
    rw [HE.out, HV.out]
    exact ⟨none, 0, 0, rfl, ⟨rfl, by omega, fun _ => ⟨rfl, rfl⟩, Nat.le_refl _, fun h => absurd h (by omega)⟩, Below.refl _ _⟩
  have HE : Hid (burE m xs = 0) := hide (by unfold burE; rw [HF.out, if_pos rfl, if_neg (by rw [HL.out]; exact h16)])
  have HV : Hid (burL m xs = buL m.toNat xs) := hide (by unfold burL; rw [HE.out, if_pos rfl])
  have hz := bfault_zero HF.out
  obtain ⟨N, hN⟩ : ∃ N : Nat, m = (N : Int) := ⟨m.toNat, by omega⟩
  subst hN
  have hN6 : N ≤ 6 := by omega
  rw [Int.toNat_natCast] at HV
  have HX : Hid (∀ k, k < n → xs.getD k 0 ≠ 0 ∧ (xs.getD k 0).natAbs < N) := hide (fun k hk => by
    have hlx : k < xs.length := by rw [HL.out]; exact hk
    have := hz.2.2.2 (xs.getD k 0) (by rw [show xs.getD k 0 = xs[k] by simp [List.getD, hlx]]; exact List.getElem_mem _)
    omega)
  clear hz
  have HF9 := hide F
  have HP : Hid (∀ l, l < n → 3 ^ l ≤ 20000000) := hide (fun l hl => Nat.le_trans (Nat.pow_le_pow_right (by omega) (show l ≤ 15 by omega)) (by decide))
  have HP16 : Hid (3 ^ n ≤ 100000000) := hide (Nat.le_trans (Nat.pow_le_pow_right (by omega) (show n ≤ 16 by omega)) (by decide))
  have HST : Hid (∀ l, l < n → ∀ r, r < N → ∀ c, c < N → bu N (xs.take (l + 1)) r c = stepR (xs.getD l 0) (bu N (xs.take l) r) c) := hide (fun l hl r hr c hc => by
    have hlx : l < xs.length := by rw [HL.out]; exact hl
    rw [List.take_succ_eq_append_getElem hlx, ← show xs.getD l 0 = xs[l] by simp [List.getD, hlx]]
    exact bu_snoc (HX.out l hl).1 (HX.out l hl).2 hr hc)
  have HBN : Hid (∀ l, l < n → ∀ r, r < N → ∀ j, j < N → LP.N1 (bu N (xs.take l) r j) l (3 ^ l)) := hide (fun l hl r hr j hj => by
    have h := (bu_rn (n := N) (xs.take l)).entry hr hj
    rw [List.length_take, HL.out, Nat.min_eq_left (by omega)] at h
    exact h)
  have HRT : Hid (∀ i, i < N → ∀ j, j < N → LP.Rt (bu N xs i j)) := hide (fun i hi j hj => by
    have h := (bu_rn (n := N) xs).entry hi hj
    rw [HL.out] at h
    exact h.rt (by omega) HP16.out)
  clear F
  go_enter Try.func82, Try.ntmps82
  go_wp2_with fail
  refine HC.out.mono ?_
  rintro e w1 ⟨rfl, hww⟩
  subst hww
  go_wp2_with fail
  refine (identity_any N w hN6).mono ?_
  rintro e w1 ⟨go, gr, rfl, hM, hb⟩
  have HM : Hid (MatB w1 w.heap.size go N gr N (fun i j => if i < 0 then bu N xs i j else bu N (xs.take 0) i j)) := hide (hM.congr fun i hi c hc => (by rw [List.take_zero, if_neg (by omega)]; rfl))
  have HB := hide hb
  clear hM hb
  go_wp2_with fail
  go_loopw [25] (fun iv wr => ∃ k : Nat, iv = .int .i64 k ∧ k ≤ N ∧ Hid (MatB wr w.heap.size go N gr N (fun i j => if i < k then bu N xs i j else bu N (xs.take 0) i j)) ∧ Hid (Below w.heap.size w wr)) (fun iv _ => N - (intOf iv).toNat)
  case atStart => exact ⟨0, rfl, Nat.zero_le _, HM, HB⟩
  case round =>
    clear HM HB
    obtain ⟨k, rfl, hk, HM, HB⟩ := hrel
    by_cases hlt : k < N
    · have hoc := HM.out.out k hlt
      have HML : Hid (MatB wr w.heap.size go N gr N (fun i j => if i < k then bu N xs i j else if i = k then bu N (xs.take 0) i j else bu N (xs.take 0) i j)) := hide (HM.out.congr fun i hi c hc => by
        show (if i < k then _ else _) = if i < k then _ else _
        split
        · rfl
        · split <;> rfl)
      have HBL := HB
      have HLT := hide hlt
      rename World => wo
      clear HM HB
      go_wp2_with fail
      clear hoc hlt
      go_loopw [31] (fun jv wx => ∃ l : Nat, jv = .int .i64 l ∧ l ≤ n ∧ Hid (MatB wx w.heap.size go N gr N (fun i j => if i < k then bu N xs i j else if i = k then bu N (xs.take l) i j else bu N (xs.take 0) i j)) ∧ Hid (Below w.heap.size w wx)) (fun jv _ => n - (intOf jv).toNat)
      case atStart => exact ⟨0, rfl, Nat.zero_le _, HML, HBL⟩
      case round =>
        clear HML HBL
        obtain ⟨l, rfl, hl, HM, HB⟩ := hrel
        by_cases hln : l < n
        · obtain ⟨ad, rfl, hx⟩ := (HA.out.below HB.out).at_ hln
          obtain ⟨hx0, hx1⟩ := HX.out l hln
          have hrow := (HM.out.row k HLT.out).congr (Y := bu N (xs.take l) k) fun j hj => by show (if k < k then _ else if k = k then _ else _) = _; rw [if_neg (Nat.lt_irrefl k), if_pos rfl]
          have HAP := hide (apply_any HF9.out (gr k) N (FreB go gr N) (bu N (xs.take l) k) (xs.getD l 0) l (3 ^ l) wr hrow HM.out.fresh (fun h => h.2 k HLT.out rfl) hx0 hx1 hN6 (by omega) (HP.out l hln) (HBN.out l hln k HLT.out))
          have HS := hide (HST.out l hln)
          clear hrow hx0 hx1
          generalize xs.getD l 0 = x at *
          go_wp2_with fail
          refine HAP.out.mono ?_
          rintro e w2 ⟨rfl, hrow2, hg2⟩
          have hM2 := HM.out.chg (r := k) (Y := fun i j => if i < k then bu N xs i j else if i = k then bu N (xs.take (l + 1)) i j else bu N (xs.take 0) i j) HLT.out hg2 (hrow2.congr fun j hj => by
            show _ = (if k < k then _ else if k = k then _ else _)
            rw [if_neg (Nat.lt_irrefl k), if_pos rfl]
            exact (HS.out k HLT.out j hj).symm) (fun i hi hne c hc => by
            show (if i < k then _ else if i = k then _ else _) = (if i < k then _ else if i = k then _ else _)
            rw [if_neg hne, if_neg hne])
          have HM2 := hide hM2
          have HB2 := hide (HB.out.grown hg2 HB.out.size (fun b hb => by injection hb with hb; rw [← hb]; exact HM.out.base_le.2 k HLT.out))
          clear hrow2 hg2 hM2 HAP HS HM HB hx
          go_wp2_with fail
          go_roundw
          case rel => exact ⟨l + 1, by go_num, by omega, HM2, HB2⟩
          case measure => simp [intOf]; omega
        · have hle : l = n := by omega
          have HM2 : Hid (MatB wr w.heap.size go N gr N (fun i j => if i < k + 1 then bu N xs i j else bu N (xs.take 0) i j)) := hide (HM.out.congr fun i hi c hc => by
            show (if i < k then _ else if i = k then _ else _) = if i < k + 1 then _ else _
            rw [hle, List.take_of_length_le (Nat.le_of_eq HL.out)]
            by_cases h1 : i < k
            · rw [if_pos h1, if_pos (by omega)]
            · by_cases h2 : i = k
              · rw [if_neg h1, if_pos h2, if_pos (by omega)]
              · rw [if_neg h1, if_neg h2, if_neg (by omega)])
          have hlt := HLT.out
          clear HM hle
          go_wp2_with fail
          go_roundw
          case rel => exact ⟨k + 1, by go_num, by omega, HM2, HB⟩
          case measure => simp [intOf]; omega
    · have hkn : k = N := by omega
      have HS : Hid (SPP wr (some ⟨go, 0, none⟩) N N (burL (N : Int) xs)) := hide (by
        rw [HV.out]
        refine (HM.out.congr (Y := bu N xs) fun i hi c hc => ?_).spp (by omega) HRT.out
        exact if_pos (by omega))
      clear HM hkn
      go_wp2_with fail
      go_ret2
      exact ⟨_, _, _, by rw [HE.out]; rfl, HS.out, HB.out⟩

end Go.Proofs.Ytndgffiihbdppaa
/- Package braid keeps its contracts (those that a seat has functions for). -/
namespace Go.Proofs.Ytndgffiihbdppaa
open Go.RowKit
theorem braidC : BraidC where
  check := fun m A n c xs w h hm => (bcheck_any m A n c xs w h hm).mono fun e w' ⟨h1, h2⟩ => ⟨h1, by rw [← h2]; exact Below.refl _ _⟩
  perm := bperm_any -- 29
  expo := bexpo_any -- 27
  inverse := binv_any -- 26
  burau := burau_any' polyC -- 82
end Go.Proofs.Ytndgffiihbdppaa
/- Package alexander answers as the document asks. -/
namespace Go.Proofs.Ytndgffiihbdppaa
set_option linter.unusedVariables false
set_option linter.unusedSimpArgs false
open Go.RowKit

set_option maxRecDepth 100000 in
set_option maxHeartbeats 8000000 in
theorem alpoly_any (FB : BraidC) (F : PolyC) (m : Int) (A : Option Addr) (n c : Nat) (xs : List Int) (w : World) (ha : SL w A n c xs) (hm : (Lit.int .i64 m).wf = true) (hF : alF m xs) :
    Calls Try.prog 20 #[.int .i64 m, .slice A n c] w (GivesPE w (alE m xs, 0, alP m xs)) := by
  have HLEN := hide ha.il.len
  have HW : Hid (Below w.heap.size w (w.alloc (.cells #[.int .i64 0, .slice none 0 0] 36))) := hide ((Below.refl _ _).alloc (Nat.le_refl _) _)
  have HBK : Hid (Blk (w.alloc (.cells #[.int .i64 0, .slice none 0 0] 36)) w.heap.size 36 #[.int .i64 0, .slice none 0 0]) := hide (Blk.new _ _ _)
  have HA := hide (ha.below HW.out)
  have HFB := hide FB
  have HFP := hide F
  have HM := hide hm
  have HF := hide hF
  clear ha FB F hm hF
  go_enter Try.func20, Try.ntmps20
  go_upto_region 1 with fail
  obtain ⟨b2, hb2⟩ : ∃ b, w.heap.size = b := ⟨_, rfl⟩
  obtain ⟨w1, hw1⟩ : ∃ x, w.alloc (.cells #[.int .i64 0, .slice none 0 0] 36) = x := ⟨_, rfl⟩
  rw [hw1] at HW HBK HA ⊢
  rw [hb2] at HBK ⊢
  have HWB : Hid (w.heap.size ≤ b2) := hide (by omega)
  clear hw1 hb2
  go_wp2_with fail
  refine (HFB.out.check m A n c xs _ HA.out HM.out).mono ?_
  rintro e w2 ⟨rfl, hb⟩
  have hl := HBK.out.lt
  replace HA := hide (HA.out.below hb)
  replace HW := hide (HW.out.trans (hb.mono HW.out.size))
  replace HBK := hide (HBK.out.below hb hl)
  clear hb hl
  obtain ⟨p, hp⟩ : ∃ p, bfault m xs = p := ⟨_, rfl⟩
  rw [hp]
  have HP := hide hp
  clear hp
  have END : Hid (∀ (e : Int) (wx : World), Blk wx b2 36 #[.int .i64 0, .slice none 0 0] → Below w.heap.size w wx → alE m xs = e → e ≠ 0 → GivesPE w (alE m xs, 0, alP m xs) (.returned (.tuple #[PV 0 none 0 0, .int .i64 e])) ((wx.setCell ⟨b2, 0, none⟩ (.int .i64 0)).setCell ⟨b2, 1, none⟩ (.slice none 0 0))) := hide (fun e wx h1 h2 h3 h4 => by
    rw [(alP_bad (by rw [h3]; exact h4)).1, h3]
    exact ⟨none, 0, 0, rfl, SL.nil_ _, fun h => absurd h (by omega), (h2.setCell (p := ⟨b2, 0, none⟩) HWB.out _).setCell (p := ⟨b2, 1, none⟩) HWB.out _⟩)
  have hf0 := HBK.out.frozen 0
  have hf1 := HBK.out.frozen 1
  have hr0 := HBK.out.cell 0
  have hr1 := HBK.out.cell 1
  simp at hr0 hr1
  have hlt := HBK.out.lt
  by_cases hp0 : p = 0
  case neg =>
    have HTE := hide (alE_bad (n := m) (w := xs) (by rw [HP.out]; exact hp0))
    rw [HP.out] at HTE
    have HNZ := hide hp0
    have hne : (p != 0) = true := by simpa using hp0
    clear hp0
    go_wp2_with fail
    refine bodyPost_ret (results_pe rfl _ rfl rfl ((HBK.out.set_ 0 (.int .i64 0)).set_ 1 (.slice none 0 0))) rfl ?_
    exact END.out p _ HBK.out HW.out HTE.out HNZ.out
  subst hp0
  by_cases h20 : 20 < n
  case pos =>
    have HTE := hide (alE_long HP.out (by rw [HLEN.out]; exact h20))
    have hgt : decide ((20 : Int) < (n : Int)) = true := by simp; omega
    clear h20
    go_wp2_with fail
    refine bodyPost_ret (results_pe rfl _ rfl rfl ((HBK.out.set_ 0 (.int .i64 0)).set_ 1 (.slice none 0 0))) rfl ?_
    exact END.out 2 _ HBK.out HW.out HTE.out (by decide)
  have hz := bfault_zero HP.out
  obtain ⟨N, rfl⟩ : ∃ N : Nat, m = (N : Int) := ⟨m.toNat, by omega⟩
  have hN1 : 1 ≤ N := by omega
  have hN6 : N ≤ 6 := by omega
  have hok : okB N xs := fun x hx => by have := hz.2.2.2 x hx; omega
  have hl20 : xs.length ≤ 20 := by rw [HLEN.out]; omega
  have HTE := hide (alE_ok HP.out hl20)
  have hsh : xs.length ≤ 16 ∨ N ≤ 2 := by
    rcases HF.out HTE.out with h | h
    · exact .inl h
    · exact .inr (by omega)
  have hAF := AlF.all hok hN1 hl20 hsh
  rw [HLEN.out] at hAF
  have hsm : ∀ i, i < N → ∀ j, j < N → LP.N1 (bu N xs i j) 20 99999999 := fun i hi j hj => by
    have := hAF.sm i hi j hj
    rwa [List.take_append_drop] at this
  have HCE := hide (adet_ce hok hN1 hN6 hl20 hsh)
  have HAB := hide (fun (w : World) (s : SL w A n c xs) => alb_any HFB.out HFP.out N A n c xs w s hN1 hN6 hok (by omega) hAF)
  have HIM := hide (fun (w : World) (B : Option Addr) (d : Nat) (s : SPP w B N d (tabA N (bu N xs))) => (by
    have := im_any HFP.out B N d _ (N - 1) (bu N xs) w s (by omega) (by omega) (fun i hi j hj => by rw [tabA_getD (by omega), rowA_getD (by omega)]) (fun i hi => by rw [tabA_getD (by omega), rowA_length]; omega) (fun i hi j hj => (hsm i (by omega) j (by omega)).rt (by omega) (by omega)) (fun i hi j hj => (imA_n1 (hsm i (by omega) j (by omega))).rt (by omega) (Nat.le_refl _))
    rw [show ((N - 1 : Nat) : Int) = (N : Int) - 1 by omega] at this
    exact this : Calls Try.prog 57 #[.slice B N d, .int .i64 ((N : Int) - 1)] w (GivesMt w (N - 1) (imA N xs))))
  have hdet : detR (N - 1) (pmM (tabA (N - 1) (imA N xs)) (colL (N - 1))) = adet N xs := imL_det N xs
  have HDT := hide (fun (w : World) (B : Option Addr) (d : Nat) (s : SPP w B (N - 1) d (tabA (N - 1) (imA N xs))) => (by
    have := aldet_any HFP.out B (N - 1) d _ w s (by omega) (fun r hr => by
      unfold tabA at hr
      obtain ⟨i, hi, rfl⟩ := List.mem_map.1 hr
      have hi := List.mem_range.1 hi
      refine ⟨rowA_length _ _ _, fun p hp => ?_⟩
      unfold rowA at hp
      obtain ⟨j, hj, rfl⟩ := List.mem_map.1 hp
      have hj := List.mem_range.1 hj
      exact elA_n1 (imA_n1 (hsm i (by omega) j (by omega)))) (by rw [hdet]; exact HCE.out)
    rw [hdet] at this
    exact this : Calls Try.prog 56 #[.slice B (N - 1) d] w (GivesP w (LP.canon (adet N xs)).1 (LP.canon (adet N xs)).2)))
  have hrt : LP.Rt (adet N xs) := HCE.out.rt (by omega) (Nat.le_refl _)
  have HNO := hide (fun (w : World) (B : Option Addr) (k d : Nat) (s : SL w B k d (LP.canon (adet N xs)).2) => (by
    have := HFP.out.norm (LP.canon (adet N xs)).1 B k d _ w s hrt.wf
    rw [LP.normR_canon hrt] at this
    exact this : Calls Try.prog 22 #[PV (LP.canon (adet N xs)).1 B k d] w (GivesPE w (0, 0, LP.normC (LP.canon (adet N xs)).2))))
  have HAP := hide (alP_eq HTE.out)
  obtain ⟨lo, hlo⟩ : ∃ z, (LP.canon (adet N xs)).1 = z := ⟨_, rfl⟩
  obtain ⟨cs, hcs⟩ : ∃ z, (LP.canon (adet N xs)).2 = z := ⟨_, rfl⟩
  rw [hlo, hcs] at HDT
  rw [hlo, hcs] at HNO
  rw [hcs] at HAP
  have hgt : decide ((20 : Int) < (n : Int)) = false := by simp; omega
  obtain ⟨K, hK⟩ : ∃ K, N - 1 = K := ⟨_, rfl⟩
  rw [hK] at HIM HDT
  generalize LP.normC cs = zs' at *
  generalize imA N xs = IM at *
  clear hz hok hl20 hsh hAF hsm hdet hrt HCE hlo hcs END HFB HFP HM HF hK h20
  go_wp2_with fail
  refine (HAB.out _ HA.out).mono ?_
  rintro e w3 ⟨B, d, rfl, hs, hb⟩
  have S3 := hide hs
  have hl := HBK.out.lt
  replace HW := hide (HW.out.trans (hb.mono HW.out.size))
  replace HBK := hide (HBK.out.below hb hl)
  clear hs hb hl HAB HA hr0 hr1 hf0 hf1 hlt
  go_wp2_with fail
  refine (HIM.out _ B d S3.out).mono ?_
  rintro e w4 ⟨B2, d2, rfl, hs, hb⟩
  have S4 := hide hs
  have hl := HBK.out.lt
  replace HW := hide (HW.out.trans (hb.mono HW.out.size))
  replace HBK := hide (HBK.out.below hb hl)
  clear hs hb hl HIM S3
  go_wp2_with fail
  refine (HDT.out _ B2 d2 S4.out).mono ?_
  rintro e w5 ⟨P, pn, pc, rfl, hs, _, hb⟩
  have S5 := hide hs
  have hl := HBK.out.lt
  replace HW := hide (HW.out.trans (hb.mono HW.out.size))
  replace HBK := hide (HBK.out.below hb hl)
  clear hs hb hl HDT S4
  go_wp2_with fail
  refine (HNO.out _ P pn pc S5.out).mono ?_
  rintro e w6 ⟨Q, qn, qc, rfl, hs, hnw, hb⟩
  dsimp only at hs ⊢
  have hl := HBK.out.lt
  have HFR : Hid (0 < qn → ∀ ad, Q = some ad → ad.block ≠ b2 ∧ b2 ≤ ad.block) := hide (fun h ad e => by have := hnw h ad e; omega)
  replace HW := hide (HW.out.trans (hb.mono HW.out.size))
  replace HBK := hide (HBK.out.below hb hl)
  have S6 := hide hs
  have hf0 := HBK.out.frozen 0
  have hf1 := HBK.out.frozen 1
  have hr0 := HBK.out.cell 0
  have hr1 := HBK.out.cell 1
  simp at hr0 hr1
  have hlt := HBK.out.lt
  clear hs hb hl HNO S5 hnw
  go_wp2_with fail
  refine bodyPost_ret (results_pe rfl _ rfl rfl ((HBK.out.set_ 0 (.int .i64 0)).set_ 1 (.slice Q qn qc))) rfl ?_
  have hfar : 0 < qn → ∀ ad, Q = some ad → ad.block ≠ b2 := fun h ad e => (HFR.out h ad e).1
  rw [HTE.out, HAP.out]
  exact ⟨Q, qn, qc, rfl, (S6.out.setCell hfar 0 _).setCell hfar 1 _, fun h ad e => by have := (HFR.out h ad e).2; have := HWB.out; omega, (HW.out.setCell (p := ⟨b2, 0, none⟩) HWB.out _).setCell (p := ⟨b2, 1, none⟩) HWB.out _⟩

end Go.Proofs.Ytndgffiihbdppaa
