/- Several texts in one. -/
import Derived.Test.YtgbipfohcailnaaPart5
import Derived.Test.YtgbipfohcailnaaPart2
import Derived.Test.YtgbipfohcailnaaBase1
import Derived.Deep.DeepCutAuto
/- Square matrices of maps that the call makes: rows made one by one, cells stored one by one. -/
namespace Go.Proofs.Ytgbipfohcailnaa
set_option linter.unusedVariables false
set_option linter.unusedSimpArgs false
open Go.RowKit

def rowV (n : Nat) : Option Nat → Value
  | some g => .slice (some ⟨g, 0, none⟩) n n
  | none => .slice none 0 0
structure MatO (base : Nat) (w : World) (go n : Nat) (gr : Nat → Option Nat) (mb : Nat → Nat → Option Nat) (X : Mtx LP) (E : Nat) : Prop where
  out : OwnG 50 1 w base (some ⟨go, 0, none⟩) n n ((List.range n).map fun i => rowV n (gr i))
  row : ∀ i, i < n → ∀ g, gr i = some g → OwnG 34 1 w base (some ⟨g, 0, none⟩) n n ((List.range n).map fun j => .map (mb i j))
  ne : ∀ i, i < n → gr i ≠ some go
  inj : ∀ i j g, i < n → j < n → gr i = some g → gr j = some g → i = j
  map : ∀ i, i < n → ∀ j, j < n → ∀ b, mb i j = some b → base ≤ b ∧ TV w b (X i j) E
section
variable {base go n E : Nat} {w w' : World} {gr : Nat → Option Nat} {mb : Nat → Nat → Option Nat} {X : Mtx LP}
theorem map_range_set {α : Type} (f : Nat → α) {n k : Nat} (v : α) : ((List.range n).map f).set k v = (List.range n).map fun i => if i = k then v else f i := by
  refine List.ext_getElem (by simp) fun i h1 h2 => ?_
  rw [List.getElem_set]
  simp only [List.getElem_map, List.getElem_range]
  by_cases h : k = i
  · rw [if_pos h, if_pos h.symm]
  · rw [if_neg h, if_neg (fun e => h e.symm)]
theorem MatO.to (h : MatO base w go n gr mb X E) (hb : Below w.heap.size w w') : MatO base w' go n gr mb X E :=
  ⟨h.out.below hb, fun i hi g hg => (h.row i hi g hg).below hb, h.ne, h.inj, fun i hi j hj b hm => ⟨(h.map i hi j hj b hm).1, (h.map i hi j hj b hm).2.below hb⟩⟩
theorem MatO.outCell {i : Nat} (h : MatO base w go n gr mb X E) (hi : i < n) : w.cell? ⟨go, i, none⟩ = some (rowV n (gr i)) := by
  rw [h.out.cellAt (by omega)]
  simp [hi]
theorem MatO.rowCell {i j g : Nat} (h : MatO base w go n gr mb X E) (hi : i < n) (hj : j < n) (hg : gr i = some g) : w.cell? ⟨g, j, none⟩ = some (.map (mb i j)) := by
  rw [(h.row i hi g hg).cellAt (by omega)]
  simp [hj]
theorem MatO.rowFrozen {i j g : Nat} (h : MatO base w go n gr mb X E) (hi : i < n) (hg : gr i = some g) : w.frozen? ⟨g, j, none⟩ = false := (h.row i hi g hg).frozen j
theorem MatO.rowLt {i g : Nat} (h : MatO base w go n gr mb X E) (hi : i < n) (hg : gr i = some g) : base ≤ g ∧ g < w.heap.size := (h.row i hi g hg).lt g rfl
/-- A cell of a row is written. -/
theorem MatO.set_ {i j g b : Nat} {x : LP} (h : MatO base w go n gr mb X E) (hi : i < n) (hj : j < n) (hg : gr i = some g) (hb : base ≤ b) (hx : TV w b x E) :
    MatO base (w.setCell ⟨g, j, none⟩ (.map (some b))) go n gr (fun a c => if a = i ∧ c = j then some b else mb a c) (fun a c => if a = i ∧ c = j then x else X a c) E := by
  have hrow := h.row i hi g hg
  obtain ⟨cur, _, hcur⟩ := hrow.cells g rfl
  have hsame : SameK (fun k => k ≠ g) w (w.setCell ⟨g, j, none⟩ (.map (some b))) := fun k hk => Below.heap_setCell w ⟨g, j, none⟩ _ k hk
  refine ⟨h.out.keep hsame fun k hk => ?_, fun i' hi' g' hg' => ?_, h.ne, h.inj, fun i' hi' j' hj' b' hb' => ?_⟩
  · have : k = go := by simpa [Value.ownBlock] using hk.symm
    subst this
    intro e; exact h.ne i hi (by rw [hg, e])
  · by_cases e : i' = i
    · subst e
      rw [hg] at hg'
      injection hg' with hg'
      subst hg'
      have h2 := hrow.set_ j (.map (some b))
      rw [map_range_set] at h2
      have e2 : (List.range n).map (fun c => if c = j then Value.map (some b) else .map (mb i' c)) = (List.range n).map fun c => .map (if i' = i' ∧ c = j then some b else mb i' c) := List.map_congr_left fun c _ => by
        by_cases hc : c = j
        · rw [if_pos hc, if_pos ⟨rfl, hc⟩]
        · rw [if_neg hc, if_neg (fun h => hc h.2)]
      rw [e2] at h2
      exact h2
    · have h2 := (h.row i' hi' g' hg').keep hsame fun k hk => by
        have : k = g' := by simpa [Value.ownBlock] using hk.symm
        subst this
        intro e3; subst e3; exact e (h.inj i' i k hi' hi hg' hg)
      have e2 : (List.range n).map (fun c => Value.map (mb i' c)) = (List.range n).map fun c => .map (if i' = i ∧ c = j then some b else mb i' c) := List.map_congr_left fun c _ => by
        rw [if_neg (fun h => e h.1)]
      rw [e2] at h2
      exact h2
  · by_cases e : i' = i ∧ j' = j
    · rw [if_pos e] at hb' ⊢
      injection hb' with hb'
      subst hb'
      exact ⟨hb, hx.same (hsame b (hx.ne_cells hcur))⟩
    · rw [if_neg e] at hb' ⊢
      have h2 := h.map i' hi' j' hj' b' hb'
      exact ⟨h2.1, h2.2.same (hsame b' (h2.2.ne_cells hcur))⟩
/-- A row that has just been made is stored. -/
theorem MatO.row_ {i g : Nat} (h : MatO base w go n gr mb X E) (hi : i < n) (hw : w.grownBy w' none) (hg : w.heap.size ≤ g) (hr : OwnG 34 1 w' base (some ⟨g, 0, none⟩) n n ((List.range n).map fun _ => .map none)) :
    MatO base (w'.setCell ⟨go, i, none⟩ (rowV n (some g))) go n (fun a => if a = i then some g else gr a) (fun a c => if a = i then none else mb a c) X E := by
  have hb : Below w.heap.size w w' := (Below.refl _ _).grown hw (Nat.le_refl _) (by intro k hk; cases hk)
  have h' := h.to hb
  obtain ⟨cur, _, hcur⟩ := h'.out.cells go rfl
  have hsame : SameK (fun k => k ≠ go) w' (w'.setCell ⟨go, i, none⟩ (rowV n (some g))) := fun k hk => Below.heap_setCell w' ⟨go, i, none⟩ _ k hk
  have hgo : go < w.heap.size := (h.out.lt go rfl).2
  have hlt : ∀ a, a < n → ∀ k, gr a = some k → k < w.heap.size := fun a ha k hk => ((h.row a ha k hk).lt k rfl).2
  refine ⟨?_, fun i' hi' g' hg' => ?_, fun i' hi' => ?_, fun a c k ha hc hka hkc => ?_, fun i' hi' j' hj' b' hb' => ?_⟩
  · have h2 := h'.out.set_ i (rowV n (some g))
    rw [map_range_set] at h2
    have e2 : (List.range n).map (fun a => if a = i then rowV n (some g) else rowV n (gr a)) = (List.range n).map fun a => rowV n (if a = i then some g else gr a) := List.map_congr_left fun a _ => by split <;> rfl
    rw [e2] at h2
    exact h2
  · by_cases e : i' = i
    · rw [if_pos e] at hg'
      injection hg' with hg'
      subst hg'
      have h2 := hr.keep hsame fun k hk => by
        have : k = g := by simpa [Value.ownBlock] using hk.symm
        subst this
        intro e3; omega
      simp only [if_pos e]
      exact h2
    · rw [if_neg e] at hg'
      have h2 := (h'.row i' hi' g' hg').keep hsame fun k hk => by
        have : k = g' := by simpa [Value.ownBlock] using hk.symm
        subst this
        intro e3; subst e3; exact h.ne i' hi' hg'
      simp only [if_neg e]
      exact h2
  · by_cases e : i' = i
    · rw [if_pos e]; intro e2; injection e2 with e2; omega
    · rw [if_neg e]; exact h.ne i' hi'
  · by_cases ea : a = i
    · rw [if_pos ea] at hka
      injection hka with hka
      by_cases ec : c = i
      · omega
      · rw [if_neg ec] at hkc
        have := hlt c hc k hkc
        omega
    · rw [if_neg ea] at hka
      by_cases ec : c = i
      · rw [if_pos ec] at hkc
        injection hkc with hkc
        have := hlt a ha k hka
        omega
      · rw [if_neg ec] at hkc
        exact h.inj a c k ha hc hka hkc
  · by_cases e : i' = i
    · simp only [if_pos e] at hb'; cases hb'
    · simp only [if_neg e] at hb'
      have h2 := h'.map i' hi' j' hj' b' hb'
      exact ⟨h2.1, h2.2.same (hsame b' (h2.2.ne_cells hcur))⟩
theorem MatO.congr {gr' : Nat → Option Nat} {mb' : Nat → Nat → Option Nat} {X' : Mtx LP} (h : MatO base w go n gr mb X E) (h1 : ∀ i, i < n → gr i = gr' i) (h2 : ∀ i, i < n → ∀ j, j < n → mb i j = mb' i j) (h3 : ∀ i, i < n → ∀ j, j < n → ∀ b, mb i j = some b → X i j = X' i j) : MatO base w go n gr' mb' X' E := by
  have e1 : (List.range n).map (fun i => rowV n (gr i)) = (List.range n).map fun i => rowV n (gr' i) := List.map_congr_left fun i hi => by rw [h1 i (List.mem_range.1 hi)]
  refine ⟨by rw [← e1]; exact h.out, fun i hi g hg => ?_, fun i hi => by rw [← h1 i hi]; exact h.ne i hi, fun i j g hi hj hg1 hg2 => h.inj i j g hi hj (by rw [h1 i hi]; exact hg1) (by rw [h1 j hj]; exact hg2), fun i hi j hj b hb => ?_⟩
  · have e2 : (List.range n).map (fun j => Value.map (mb i j)) = (List.range n).map fun j => .map (mb' i j) := List.map_congr_left fun j hj => by rw [h2 i hi j (List.mem_range.1 hj)]
    rw [← e2]
    exact h.row i hi g (by rw [h1 i hi]; exact hg)
  · have hb2 := hb
    rw [← h2 i hi j hj] at hb2
    rw [← h3 i hi j hj b hb2]
    exact h.map i hi j hj b hb2
theorem MatO.mono {E' : Nat} (h : MatO base w go n gr mb X E) (he : E ≤ E') : MatO base w go n gr mb X E' := ⟨h.out, h.row, h.ne, h.inj, fun i hi j hj b hb => ⟨(h.map i hi j hj b hb).1, (h.map i hi j hj b hb).2.mono he⟩⟩
/-- The rows as lists. -/
def tabP (n : Nat) (X : Mtx LP) : List (List LP) := (List.range n).map fun i => (List.range n).map fun j => X i j
theorem tabP_get (n : Nat) (X : Mtx LP) {i j : Nat} (hi : i < n) (hj : j < n) : ((tabP n X).getD i []).getD j 0 = X i j := by
  unfold tabP
  simp [List.getD, hi, hj]
/-- All is made: it reads as the matrix. -/
theorem MatO.rdK (h : MatO base w go n gr mb X E) (hgr : ∀ i, i < n → ∃ g, gr i = some g) (hmb : ∀ i, i < n → ∀ j, j < n → ∃ b, mb i j = some b) : RdS (QS (QT E) 1) 1 (fun b => base ≤ b ∧ b < w.heap.size) w (some ⟨go, 0, none⟩) n n (tabP n X) := by
  have hl := h.out.small
  refine ⟨by simp [tabP], by omega, fun e => (by cases e), Nat.le_refl _, fun hn => ⟨_, rfl, (h.out.lt go rfl).2, h.out.lt go rfl, fun i hi => ?_⟩⟩
  have hi2 : i < n := by simpa [tabP] using hi
  obtain ⟨g, hg⟩ := hgr i hi2
  have hrow := h.row i hi2 g hg
  have hc : w.cell? ⟨go, i, none⟩ = some (.slice (some ⟨g, 0, none⟩) n n) := by
    rw [h.out.cellAt (by omega)]
    simp [hi2, hg, rowV]
  refine ⟨[.slice (some ⟨g, 0, none⟩) n n], rfl, ?_, fun k hk => ?_, some ⟨g, 0, none⟩, n, n, rfl, ?_⟩
  · rw [show (⟨go, 0, none⟩ : Addr).add (i * 1) = ⟨go, i, none⟩ by unfold Addr.add; split <;> simp_all]; exact hc
  · obtain rfl : k = 0 := by omega
    rw [show (⟨go, 0, none⟩ : Addr).add (i * 1) = ⟨go, i, none⟩ by unfold Addr.add; split <;> simp_all]; exact hc
  · have et : (tabP n X)[i] = (List.range n).map fun j => X i j := by simp only [tabP, List.getElem_map, List.getElem_range]
    rw [et]
    refine ⟨by simp, by omega, fun e => (by cases e), Nat.le_refl _, fun _ => ⟨_, rfl, (hrow.lt g rfl).2, hrow.lt g rfl, fun j hj => ?_⟩⟩
    have hj2 : j < n := by simpa using hj
    obtain ⟨b, hb⟩ := hmb i hi2 j hj2
    have hm := h.map i hi2 j hj2 b hb
    have hc2 : w.cell? ⟨g, j, none⟩ = some (.map (some b)) := by
      rw [hrow.cellAt (by omega)]
      simp [hj2, hb]
    refine ⟨[.map (some b)], rfl, ?_, fun k hk => ?_, b, rfl, ⟨hm.1, hm.2.lt⟩, by simpa using hm.2⟩
    · rw [show (⟨g, 0, none⟩ : Addr).add (j * 1) = ⟨g, j, none⟩ by unfold Addr.add; split <;> simp_all]; exact hc2
    · obtain rfl : k = 0 := by omega
      rw [show (⟨g, 0, none⟩ : Addr).add (j * 1) = ⟨g, j, none⟩ by unfold Addr.add; split <;> simp_all]; exact hc2
end
/-- A new matrix of maps, with rows of its own. -/
def GivesMO (w : World) (n : Nat) (X : Mtx LP) (E : Nat) (e : Ending) (w' : World) : Prop :=
  ∃ go gr mb, e = .returned (.slice (some ⟨go, 0, none⟩) n n) ∧ MatO w.heap.size w' go n gr mb X E ∧ (∀ i, i < n → ∃ g, gr i = some g) ∧ (∀ i, i < n → ∀ j, j < n → ∃ b, mb i j = some b) ∧ Below w.heap.size w w'
end Go.Proofs.Ytgbipfohcailnaa
/- timbref1.Unit. -/
namespace Go.Proofs.Ytgbipfohcailnaa
set_option linter.unusedVariables false
set_option linter.unusedSimpArgs false
open Go.RowKit

theorem terms_info' : (Try.prog.info? 34).map (fun i => (i.zero, i.size, i.bytes)) = some (some (.map none), 1, 8) := by kernel_rfl
theorem termss_info' : (Try.prog.info? 50).map (fun i => (i.zero, i.size, i.bytes)) = some (some (.slice none 0 0), 1, 24) := by kernel_rfl
theorem made_one (z : Value) (n : Nat) : (madeCells #[z] (n * 1)).toList = (List.range n).map fun _ => z := by
  rw [toList_madeCells_one, Nat.mul_one]
  refine List.ext_getElem (by simp) fun i h1 h2 => ?_
  simp
theorem MatO.start {base go n : Nat} {w : World} {E : Nat} (h : OwnG 50 1 w base (some ⟨go, 0, none⟩) n n ((List.range n).map fun _ => .slice none 0 0)) : MatO base w go n (fun _ => none) (fun _ _ => none) (fun _ _ => 0) E :=
  ⟨h, fun _ _ _ e => (by cases e), fun _ _ e => (by cases e), fun _ _ _ _ _ e => (by cases e), fun _ _ _ _ _ e => (by cases e)⟩
set_option maxRecDepth 100000 in
set_option maxHeartbeats 8000000 in
theorem unit_any (n : Nat) (w : World) (hn : n ≤ 1000) : Calls Try.prog 25 #[.int .i64 n] w (GivesMO w n oneM 0) := by
  obtain ⟨i0, hi0, hz0, hz1, hz2⟩ := info_parts terms_info'
  obtain ⟨i1, hi1, hy0, hy1, hy2⟩ := info_parts termss_info'
  have HI0 := hide hi0
  have HZ0 := hide hz0
  have HZ1 := hide hz1
  have HZ2 := hide hz2
  have hmm := @run_makeMap Try.prog
  have HMM := hide hmm
  clear hi0 hz0 hz1 hz2 hmm
  go_enter Try.func25, Try.ntmps25
  go_wp2_with (at_make; refine wpList_make_full _ rfl _ _ 36 rfl w.heap.size 50 i1 (.slice none 0 0) 1 Try.underlying36 hi1 hy0 hy1 .i64 .i64 _ _ n rfl rfl rfl rfl (by rw [hy2]; omega) (by unfold maxLen; omega) (Nat.le_refl _) ?_; intro w2 hown2 hg2)
  have hB2 : Below w.heap.size w w2 := (Below.refl _ _).grown hg2 (Nat.le_refl _) (by intro k hk; cases hk)
  have hM2 : MatO w.heap.size w2 w.heap.size n (fun _ => none) (fun _ _ => none) (fun _ _ => 0) 0 := MatO.start ⟨by
    have h := hown2
    rw [show (Value.slice none 0 0).cells = #[.slice none 0 0] from rfl, made_one] at h
    exact h, by omega⟩
  have HB2 := hide hB2
  have HM2 := hide hM2
  clear hown2 hg2 hB2 hM2 hi1 hy0 hy1 hy2
  go_loopw [10] (fun iv wr => ∃ (k : Nat) (gr : Nat → Option Nat) (mb : Nat → Nat → Option Nat) (X : Mtx LP), iv = .int .i64 k ∧ k ≤ n ∧ Hid (MatO w.heap.size wr w.heap.size n gr mb X 0) ∧ Hid (∀ i, i < k → ∃ g, gr i = some g) ∧ Hid (∀ i, i < k → ∀ j, j < n → ∃ b, mb i j = some b ∧ X i j = oneM i j) ∧ Hid (Below w.heap.size w wr)) (fun iv _ => n - (intOf iv).toNat)
  case atStart => exact ⟨0, _, _, _, rfl, Nat.zero_le _, HM2, hide (fun i h => absurd h (by omega)), hide (fun i h => absurd h (by omega)), HB2⟩
  case round =>
    clear HM2 HB2
    obtain ⟨k, gr, mb, X, rfl, hk, HM, HG, HX, HB⟩ := hrel
    by_cases hlt : k < n
    · have hbw := HB.out.size
      go_wp2_with (at_make; refine wpList_make_full _ rfl _ _ 50 rfl w.heap.size 34 i0 (.map none) 1 Try.underlying50 HI0.out HZ0.out HZ1.out .i64 .i64 _ _ n rfl rfl rfl rfl (by rw [HZ2.out]; omega) (by unfold maxLen; omega) hbw ?_; intro w3 hown3 hg3; have hM3 := HM.out.to ((Below.refl _ _).grown hg3 (Nat.le_refl _) (by intro k hk; cases hk)); have hcell := hM3.outCell hlt; have hfr := hM3.out.frozen k)
      have hB3 : Below wr.heap.size wr w3 := (Below.refl _ _).grown hg3 (Nat.le_refl _) (by intro k hk; cases hk)
      have hM4 := HM.out.row_ (i := k) (g := wr.heap.size) hlt hg3 (Nat.le_refl _) ⟨by
        have h := hown3
        rw [show (Value.map none).cells = #[.map none] from rfl, made_one] at h
        exact h, by omega⟩
      have HM4 := hide hM4
      have HB4 := hide ((HB.out.trans (hB3.mono HB.out.size)).setCell (p := ⟨w.heap.size, k, none⟩) (Nat.le_refl _) (rowV n (some wr.heap.size)))
      change Hid (Below w.heap.size w (w3.setCell ⟨w.heap.size, k, none⟩ (.slice (some ⟨wr.heap.size, 0, none⟩) n n))) at HB4
      change Hid (MatO w.heap.size (w3.setCell ⟨w.heap.size, k, none⟩ (.slice (some ⟨wr.heap.size, 0, none⟩) n n)) w.heap.size n (fun a => if a = k then some wr.heap.size else gr a) (fun a c => if a = k then none else mb a c) X 0) at HM4
      have HLT := hide hlt
      obtain ⟨gr1, hgr1⟩ : ∃ f : Nat → Option Nat, f = fun a => if a = k then some wr.heap.size else gr a := ⟨_, rfl⟩
      have HG4 : Hid (∀ i, i < k → ∃ g, gr1 i = some g) := hide (fun i hi => by rw [hgr1]; show ∃ g, (if i = k then some wr.heap.size else gr i) = some g; rw [if_neg (by omega)]; exact HG.out i hi)
      have HX4 : Hid (∀ i, i < k → ∀ j, j < n → ∃ b, (if i = k then none else mb i j) = some b ∧ X i j = oneM i j) := hide (fun i hi j hj => by rw [if_neg (by omega)]; exact HX.out i hi j hj)
      have HK4 : Hid (gr1 k = some wr.heap.size) := hide (by rw [hgr1]; exact if_pos rfl)
      rw [← hgr1] at HM4
      obtain ⟨g, hg⟩ : ∃ g, wr.heap.size = g := ⟨_, rfl⟩
      obtain ⟨w4, hw4⟩ : ∃ x, w3.setCell ⟨w.heap.size, k, none⟩ (.slice (some ⟨wr.heap.size, 0, none⟩) n n) = x := ⟨_, rfl⟩
      rw [hw4] at HM4 HB4 ⊢
      rw [hg] at HK4
      clear hown3 hg3 hM3 hcell hfr hB3 hM4 hgr1 hw4 hg HM HG HX HB hlt hbw
      go_loopw [19] (fun jv wx => ∃ (j : Nat) (mb1 : Nat → Nat → Option Nat) (X1 : Mtx LP), jv = .int .i64 j ∧ j ≤ n ∧ Hid (MatO w.heap.size wx w.heap.size n gr1 mb1 X1 0) ∧ Hid (∀ i, i < k → ∀ j, j < n → ∃ b, mb1 i j = some b ∧ X1 i j = oneM i j) ∧ Hid (∀ j', j' < j → ∃ b, mb1 k j' = some b ∧ X1 k j' = 0) ∧ Hid (Below w.heap.size w wx)) (fun jv _ => n - (intOf jv).toNat)
      case atStart => exact ⟨0, _, _, rfl, Nat.zero_le _, HM4, HX4, hide (fun j h => absurd h (by omega)), HB4⟩
      case round =>
        clear HM4 HB4 HX4
        obtain ⟨j, mb1, X1, rfl, hj, HM, HX, HZ, HB⟩ := hrel
        have hoc := HM.out.outCell HLT.out
        rw [HK4.out] at hoc
        change _ = some (Value.slice (some ⟨g, 0, none⟩) n n) at hoc
        by_cases hjn : j < n
        · have hba : Below wr.heap.size wr (wr.alloc (.map #[] 0)) := (Below.refl _ _).alloc (Nat.le_refl _) _
          have hMa := HM.out.to hba
          have hrc := hMa.rowCell (j := j) HLT.out hjn HK4.out
          have hrf := hMa.rowFrozen (j := j) HLT.out HK4.out
          have hgl := (HM.out.rowLt HLT.out HK4.out).1
          have hN := hMa.set_ HLT.out hjn HK4.out (b := wr.heap.size) (x := 0) HB.out.size ⟨[], MapI.made wr, rfl, by simp⟩
          have HN := hide hN
          have HBN := hide ((HB.out.trans (hba.mono HB.out.size)).setCell (p := ⟨g, j, none⟩) hgl (.map (some wr.heap.size)))
          have hmm := HMM.out
          clear hMa hba hgl hN
          go_wp2_with fail
          go_roundw
          case rel =>
            refine ⟨j + 1, _, _, by go_num, by omega, HN, hide (fun i hi j' hj' => ?_), hide (fun j' hj' => ?_), HBN⟩
            · show ∃ b, (if i = k ∧ j' = j then some wr.heap.size else mb1 i j') = some b ∧ (if i = k ∧ j' = j then (0 : LP) else X1 i j') = oneM i j'
              rw [if_neg (by omega), if_neg (by omega)]; exact HX.out i hi j' hj'
            · show ∃ b, (if k = k ∧ j' = j then some wr.heap.size else mb1 k j') = some b ∧ (if k = k ∧ j' = j then (0 : LP) else X1 k j') = 0
              by_cases e : j' = j
              · rw [if_pos ⟨rfl, e⟩, if_pos ⟨rfl, e⟩]; exact ⟨_, rfl, rfl⟩
              · rw [if_neg (fun h => e h.2), if_neg (fun h => e h.2)]; exact HZ.out j' (by omega)
          case measure => simp [intOf]; omega
        · have hjn2 : j = n := by omega
          subst hjn2
          have hba : Below wr.heap.size wr (wr.alloc (.map #[] 0)) := (Below.refl _ _).alloc (Nat.le_refl _) _
          have HMP := hide (MapI.made wr)
          have HBA := hide hba
          have hgl := (HM.out.rowLt HLT.out HK4.out).1
          have HGL := hide hgl
          have hmm := HMM.out
          clear hba hgl
          go_wp2_with ((with_reducible show wpList _ _ _ (Oper.mk _ (.insert _ _ _ _) _ _ _ _ :: _) _ _); refine wpList_insI _ rfl _ _ _ _ rfl ut wr.heap.size [] 0 1 rfl HMP.out (by simp) rfl rfl (by decide) ?_; intro w5 hm5 hg5 hs5; have hb5 := HBA.out.grown hg5 (by simp) (fun q hq => by injection hq with hq; omega); have hM5 := HM.out.to hb5; have hrc := hM5.rowCell (j := k) HLT.out HLT.out HK4.out; have hrf := hM5.rowFrozen (j := k) HLT.out HK4.out)
          have hN := hM5.set_ HLT.out HLT.out HK4.out (b := wr.heap.size) (x := 1) HB.out.size ⟨_, hm5, rfl, by simp [putT]⟩
          have HN := hide hN
          have HBN := hide ((HB.out.trans (hb5.mono HB.out.size)).setCell (p := ⟨g, k, none⟩) HGL.out (.map (some wr.heap.size)))
          have hlt := HLT.out
          clear hM5 hb5 hN hm5 hg5 hs5 hrc hrf
          go_roundw
          case rel =>
            refine ⟨k + 1, gr1, _, _, by go_num, by omega, HN, hide (fun i hi => ?_), hide (fun i hi j' hj' => ?_), HBN⟩
            · by_cases e : i = k
              · subst e; exact ⟨g, HK4.out⟩
              · exact HG4.out i (by omega)
            · show ∃ b, (if i = k ∧ j' = k then some wr.heap.size else mb1 i j') = some b ∧ (if i = k ∧ j' = k then (1 : LP) else X1 i j') = oneM i j'
              by_cases e : i = k
              · subst e
                by_cases e2 : j' = i
                · subst e2
                  rw [if_pos ⟨rfl, rfl⟩, if_pos ⟨rfl, rfl⟩]
                  exact ⟨_, rfl, (if_pos rfl).symm⟩
                · rw [if_neg (fun h => e2 h.2), if_neg (fun h => e2 h.2)]
                  obtain ⟨b, h1, h2⟩ := HZ.out j' hj'
                  exact ⟨b, h1, by rw [h2]; exact (if_neg (fun h => e2 h.symm)).symm⟩
              · rw [if_neg (fun h => e h.1), if_neg (fun h => e h.1)]
                exact HX.out i (by omega) j' hj'
          case measure => simp [intOf]; omega
    · have hkn : k = n := by omega
      subst hkn
      go_wp2_with fail
      go_ret
      refine ⟨_, gr, mb, rfl, HM.out.congr (fun _ _ => rfl) (fun _ _ _ _ => rfl) (fun i hi j hj b hb => ?_), HG.out, fun i hi j hj => ?_, HB.out⟩
      · obtain ⟨_, _, h2⟩ := HX.out i hi j hj
        exact h2
      · obtain ⟨b, h1, _⟩ := HX.out i hi j hj
        exact ⟨b, h1⟩
end Go.Proofs.Ytgbipfohcailnaa
/- timbref1.Product: the product of two matrices of maps. (Written by tools/gen_prod.py.) -/
namespace Go.Proofs.Ytgbipfohcailnaa
set_option linter.unusedVariables false
set_option linter.unusedSimpArgs false
open Go.RowKit

theorem eTMul' : ∀ args w, (callFunc 22 args).run Try.prog w = .ok (.enter 22 args) w := enters (fn := Try.f22) (by kernel_rfl) (by kernel_rfl) (by kernel_rfl)
theorem eTPlus' : ∀ args w, (callFunc 23 args).run Try.prog w = .ok (.enter 23 args) w := enters (fn := Try.f23) (by kernel_rfl) (by kernel_rfl) (by kernel_rfl)
/-- A slice of slices of maps that reads as the matrix X. -/
def RdM (E : Nat) (w : World) (A : Option Addr) (n c : Nat) (X : Mtx LP) : Prop := Rd (QS (QT E) 1) 1 w A n c (tabP n X)
theorem RdM.below {E n c : Nat} {w w' : World} {A : Option Addr} {X : Mtx LP} (h : RdM E w A n c X) (hb : Below w.heap.size w w') : RdM E w' A n c X := Rd.below (QS_ok (QT_ok E) 1) h hb
theorem RdM.at_ {E n c i j : Nat} {w : World} {A : Option Addr} {X : Mtx LP} (h : RdM E w A n c X) (hi : i < n) (hj : j < n) : ∃ ad bd d b, A = some ad ∧ w.cell? (ad.add i) = some (.slice (some bd) n d) ∧ w.cell? (bd.add j) = some (.map (some b)) ∧ TV w b (X i j) E := by
  obtain ⟨ad, v, e1, h1, B, m, d, e2, h2⟩ := RdS.at1 h hi
  injection e2 with e2
  subst e2
  have et : (tabP n X)[i]'(by rw [h.len]; exact hi) = (List.range n).map fun j => X i j := by simp only [tabP, List.getElem_map, List.getElem_range]
  rw [et] at h2
  have hm : m = n := by rw [← h2.len]; simp
  subst hm
  obtain ⟨bd, v2, e3, h3, b, e4, _, h4⟩ := h2.at1 hj
  injection e4 with e4
  subst e4
  subst e3
  refine ⟨ad, bd, d, b, e1, h1, h3, ?_⟩
  simpa using h4
theorem MatO.rdM {base go n E : Nat} {w : World} {gr : Nat → Option Nat} {mb : Nat → Nat → Option Nat} {X : Mtx LP} (h : MatO base w go n gr mb X E) (hgr : ∀ i, i < n → ∃ g, gr i = some g) (hmb : ∀ i, i < n → ∀ j, j < n → ∃ b, mb i j = some b) : RdM E w (some ⟨go, 0, none⟩) n n X :=
  (h.rdK hgr hmb).mono (QS_ok (QT_ok E) 1) fun b hb _ => hb

set_option maxRecDepth 100000 in
set_option maxHeartbeats 16000000 in
theorem product_any (A B : Option Addr) (n ca cb : Nat) (X Y : Mtx LP) (E1 E2 V1 V2 : Nat) (w : World) (hA : RdM E1 w A n ca X) (hB : RdM E2 w B n cb Y) (hX : RN n X E1 V1) (hY : RN n Y E2 V2) (hn : n ≤ 1000) (hE : E1 + E2 ≤ 100000) (hV : (2 * E1 + 1) * (V1 * V2) ≤ 4000000000000000000) :
    Calls Try.prog 39 #[.slice A n ca, .slice B n cb] w (GivesMO w n (mulM n X Y) (E1 + E2)) := by
  have hV2 : V1 * V2 ≤ 4000000000000000000 := Nat.le_trans (Nat.le_mul_of_pos_left _ (by omega)) hV
  have HA := hide hA
  have HB := hide hB
  have HX := hide hX
  have HY := hide hY
  have HV := hide hV
  have HV2 := hide hV2
  have HMM := hide (@run_makeMap Try.prog)
  clear hA hB hX hY hV hV2
  go_enter Try.func39, Try.ntmps39
  go_wp2_with fail
  refine (unit_any n w hn).mono ?_
  rintro e w1 ⟨go, gr, mb, rfl, hM, hG, hb1, hb⟩
  have HG := hide hG
  have HM1 := hide (hM.mono (Nat.zero_le (E1 + E2)))
  have HB1 := hide hb1
  have HW1 := hide hb
  have hgo : w.heap.size ≤ go := (hM.out.lt go rfl).1
  have HGO := hide hgo
  clear hM hG hb1 hb hgo
  go_wp2_with fail
  go_loopw [15] (fun iv wr => ∃ (i : Nat) (mb : Nat → Nat → Option Nat) (Z : Mtx LP), iv = .int .i64 i ∧ i ≤ n ∧ Hid (MatO w.heap.size wr go n gr mb Z (E1 + E2)) ∧ Hid (∀ a, a < n → ∀ c, c < n → ∃ b, mb a c = some b) ∧ Hid (∀ a, a < i → ∀ c, c < n → Z a c = mulM n X Y a c) ∧ Hid (Below w.heap.size w wr)) (fun iv _ => n - (intOf iv).toNat)
  case atStart => exact ⟨0, _, _, rfl, Nat.zero_le _, HM1, HB1, hide (fun a h => absurd h (by omega)), HW1⟩
  case round =>
    clear HM1 HB1 HW1
    obtain ⟨i, mb1, Z1, rfl, hi, HM1, HS1, HZ1, HW1⟩ := hrel
    by_cases hin : i < n
    · have HI := hide hi
      have HIN := hide hin
      clear hi
      go_wp2_with fail
      go_loopw [20] (fun kv wr => ∃ (k : Nat) (mb : Nat → Nat → Option Nat) (Z : Mtx LP), kv = .int .i64 k ∧ k ≤ n ∧ Hid (MatO w.heap.size wr go n gr mb Z (E1 + E2)) ∧ Hid (∀ a, a < n → ∀ c, c < n → ∃ b, mb a c = some b) ∧ Hid (∀ a, a < i → ∀ c, c < n → Z a c = mulM n X Y a c) ∧ Hid (∀ c, c < k → Z i c = mulM n X Y i c) ∧ Hid (Below w.heap.size w wr)) (fun kv _ => n - (intOf kv).toNat)
      case atStart => exact ⟨0, _, _, rfl, Nat.zero_le _, HM1, HS1, HZ1, hide (fun c h => absurd h (by omega)), HW1⟩
      case round =>
        clear HM1 HS1 HZ1 HW1
        obtain ⟨k, mb2, Z2, rfl, hk, HM2, HS2, HZ2, HZK, HW2⟩ := hrel
        rename World => wo
        by_cases hkn : k < n
        · have HK := hide hk
          have HKN := hide hkn
          clear hk
          have hmm := HMM.out
          have HSUM : Hid (TV (wo.alloc (.map #[] 0)) wo.heap.size (CR.sumN 0 fun l => X i l * Y l k) (E1 + E2)) := hide ⟨[], MapI.made wo, rfl, by simp⟩
          have HBO := hide ((Below.refl wo.heap.size wo).alloc (Nat.le_refl _) (.map #[] 0))
          go_wp2_with fail
          clear hmm
          go_loopw [8, 26] (fun sv jv wx => ∃ (j b : Nat), jv = .int .i64 j ∧ j ≤ n ∧ sv = .map (some b) ∧ wo.heap.size ≤ b ∧ Hid (TV wx b (CR.sumN j fun l => X i l * Y l k) (E1 + E2)) ∧ Hid (Below wo.heap.size wo wx)) (fun _ jv _ => n - (intOf jv).toNat)
          case atStart => exact ⟨0, wo.heap.size, rfl, Nat.zero_le _, rfl, Nat.le_refl _, HSUM, HBO⟩
          case round =>
            clear HSUM HBO
            obtain ⟨j, b, rfl, hj, rfl, hbo, HSUM, HBO⟩ := hrel
            by_cases hjn : j < n
            · have HWX := hide (HW2.out.trans (HBO.out.mono HW2.out.size))
              obtain ⟨ad, rd, d1, b1, rfl, hc1, hc2, ht1⟩ := (HA.out.below HWX.out).at_ HIN.out hjn
              obtain ⟨ae, re, d2, b2, rfl, hc3, hc4, ht2⟩ := (HB.out.below HWX.out).at_ hjn HKN.out
              have H1 := hide hc1
              have H2 := hide hc2
              have H3 := hide hc3
              have H4 := hide hc4
              have HT1 := hide ht1
              have HT2 := hide ht2
              have hin := HIN.out
              have hkn := HKN.out
              have HCM := hide (fun (v : World) (hv : Below wr.heap.size wr v) => tv_mul (ht1.below hv) (ht2.below hv) (fun q => (HX.out.entry hin hjn).co q) (fun q => (HY.out.entry hjn hkn).co q) (by omega) HV.out)
              have hl1 : (ad.add i).block < wr.heap.size := cell_lt hc1
              have hl2 : (rd.add j).block < wr.heap.size := cell_lt hc2
              have hl3 : (ae.add j).block < wr.heap.size := cell_lt hc3
              have hl4 : (re.add k).block < wr.heap.size := cell_lt hc4
              clear hc1 hc2 hc3 hc4 ht1 ht2
              go_upto_region 12 with fail
              refine wp_region_noPanic ?_
              have hS0 : Below wr.heap.size wr wr.drew := (Below.refl _ _).drew
              refine wp_region_held_drew (S := fun z => Below wr.heap.size wr z) (by kernel_rfl) hS0 (fun hT0 => ?_)
              refine wpAnyH_tk 0 (v := .map (some b)) rfl (by kernel_rfl) (by kernel_rfl) (by kernel_rfl) (yi rfl fun w' hw' => gives_move (.inl rfl) rfl) hT0 ?_
              go_frame
              refine wpAnyH_tk 1 (v := .slice (some ad) n ca) rfl (by kernel_rfl) (by kernel_rfl) (by kernel_rfl) (yi rfl fun w' hw' => gives_move (.inl rfl) rfl) hT0 ?_
              go_frame
              refine wpAnyH_tk 2 (v := .int .i64 i) rfl (by kernel_rfl) (by kernel_rfl) (by kernel_rfl) (yi rfl fun w' hw' => gives_move (.inl rfl) rfl) hT0 ?_
              go_frame
              refine wpAnyH_tk 3 (v := .pointer (some (ad.add i))) rfl (by kernel_rfl) (by kernel_rfl) (by kernel_rfl) (yi rfl fun w' hw' => gives_indexA rfl Try.underlying36 (fun w => by kernel_rfl) rfl rfl hin) hT0 ?_
              go_frame
              refine wpAnyH_tk 4 (v := .slice (some rd) n d1) rfl (by kernel_rfl) (by kernel_rfl) (by kernel_rfl) (yi rfl fun w' hw' => gives_load1 rfl (by kernel_rfl) rfl ((hw'.cell (p := ad.add i) hl1).trans H1.out)) hT0 ?_
              go_frame
              refine wpAnyH_tk 5 (v := .int .i64 j) rfl (by kernel_rfl) (by kernel_rfl) (by kernel_rfl) (yi rfl fun w' hw' => gives_move (.inl rfl) rfl) hT0 ?_
              go_frame
              refine wpAnyH_tk 6 (v := .pointer (some (rd.add j))) rfl (by kernel_rfl) (by kernel_rfl) (by kernel_rfl) (yi rfl fun w' hw' => gives_indexA rfl Try.underlying50 (fun w => by kernel_rfl) rfl rfl hjn) hT0 ?_
              go_frame
              refine wpAnyH_tk 7 (v := .map (some b1)) rfl (by kernel_rfl) (by kernel_rfl) (by kernel_rfl) (yi rfl fun w' hw' => gives_load1 rfl (by kernel_rfl) rfl ((hw'.cell (p := rd.add j) hl2).trans H2.out)) hT0 ?_
              go_frame
              refine wpAnyH_tk 8 (v := .slice (some ae) n cb) rfl (by kernel_rfl) (by kernel_rfl) (by kernel_rfl) (yi rfl fun w' hw' => gives_move (.inl rfl) rfl) hT0 ?_
              go_frame
              refine wpAnyH_tk 9 (v := .int .i64 j) rfl (by kernel_rfl) (by kernel_rfl) (by kernel_rfl) (yi rfl fun w' hw' => gives_move (.inl rfl) rfl) hT0 ?_
              go_frame
              refine wpAnyH_tk 10 (v := .pointer (some (ae.add j))) rfl (by kernel_rfl) (by kernel_rfl) (by kernel_rfl) (yi rfl fun w' hw' => gives_indexA rfl Try.underlying36 (fun w => by kernel_rfl) rfl rfl hjn) hT0 ?_
              go_frame
              refine wpAnyH_tk 11 (v := .slice (some re) n d2) rfl (by kernel_rfl) (by kernel_rfl) (by kernel_rfl) (yi rfl fun w' hw' => gives_load1 rfl (by kernel_rfl) rfl ((hw'.cell (p := ae.add j) hl3).trans H3.out)) hT0 ?_
              go_frame
              refine wpAnyH_tk 12 (v := .int .i64 k) rfl (by kernel_rfl) (by kernel_rfl) (by kernel_rfl) (yi rfl fun w' hw' => gives_move (.inl rfl) rfl) hT0 ?_
              go_frame
              refine wpAnyH_tk 13 (v := .pointer (some (re.add k))) rfl (by kernel_rfl) (by kernel_rfl) (by kernel_rfl) (yi rfl fun w' hw' => gives_indexA rfl Try.underlying50 (fun w => by kernel_rfl) rfl rfl hkn) hT0 ?_
              go_frame
              refine wpAnyH_tk 14 (v := .map (some b2)) rfl (by kernel_rfl) (by kernel_rfl) (by kernel_rfl) (yi rfl fun w' hw' => gives_load1 rfl (by kernel_rfl) rfl ((hw'.cell (p := re.add k) hl4).trans H4.out)) hT0 ?_
              go_frame
              refine wpAnyH_1 15 rfl (by kernel_rfl) ?_
              refine wp_call [.map (some b1), .map (some b2)] rfl rfl eTMul' rfl ((HCM.out _ hT0).mono ?_)
              rintro e x1 ⟨b3, rfl, hb3, ht3, hb⟩
              have hT1 : Below wr.heap.size wr x1 := hT0.trans (hb.mono hT0.size)
              have HT3 := hide ht3
              clear hb hb3 ht3
              refine ⟨_, rfl, hT1, ?_⟩
              go_frame
              refine wpAnyH_1 16 rfl (by kernel_rfl) ?_
              have hpl := tv_plus (HSUM.out.below hT1) HT3.out (fun q => Nat.le_trans ((HX.out.part HY.out hin hkn (m := j) (by omega)).co q) HV2.out) (fun q => Nat.le_trans (((HX.out.entry hin hjn).mul (HY.out.entry hjn hkn)).co q) HV2.out) (by omega)
              refine wp_call [.map (some b), .map (some b3), .int .i64 1] rfl rfl eTPlus' rfl (hpl.mono ?_)
              rintro e x2 ⟨b4, rfl, hb4, ht4, hb⟩
              have hT2 : Below wr.heap.size wr x2 := hT1.trans (hb.mono hT1.size)
              have HT4 : Hid (TV x2 b4 (CR.sumN (j + 1) fun l => X i l * Y l k) (E1 + E2)) := hide (by rw [CR.sumN_succ]; exact ht4)
              have hb9 : wo.heap.size ≤ b4 := by have := hT1.size; have := HBO.out.size; omega
              have HBN := hide (HBO.out.trans (hT2.mono HBO.out.size))
              clear hpl hb hb4 ht4
              refine ⟨_, rfl, hT2, ?_⟩
              go_frame
              refine wpAnyH_tk 17 (v := .map (some b4)) rfl (by kernel_rfl) (by kernel_rfl) (by kernel_rfl) (yi rfl fun w' hw' => gives_move (.inr rfl) rfl) hT2 ?_
              go_frame
              refine wpAnyH_done (by kernel_rfl) (noPanic_mk ?_) _
              clear hT0 hT1 hT2 hS0 hl1 hl2 hl3 hl4 hin hkn
              go_wp2_with fail
              go_roundw
              case rel => exact ⟨j + 1, b4, by go_num, by omega, rfl, hb9, HT4, HBN⟩
              case measure => simp [intOf]; omega
            · have hjn2 : j = n := by omega
              subst hjn2
              obtain ⟨g, hg⟩ := HG.out i HIN.out
              have HGI := hide hg
              have hM := HM2.out.to HBO.out
              have hoc := hM.outCell HIN.out
              rw [hg] at hoc
              change _ = some (Value.slice (some ⟨g, 0, none⟩) j j) at hoc
              have hrc := hM.rowCell (j := k) HIN.out HKN.out hg
              have hrf := hM.rowFrozen (j := k) HIN.out hg
              have hgl := (hM.rowLt HIN.out hg).1
              have hbw : w.heap.size ≤ b := by have := HW2.out.size; omega
              have hN := hM.set_ HIN.out HKN.out hg hbw HSUM.out
              have HN := hide hN
              have HBN := hide ((HW2.out.trans (HBO.out.mono HW2.out.size)).setCell (p := ⟨g, k, none⟩) hgl (.map (some b)))
              have hin := HIN.out
              have hkn := HKN.out
              clear hM hgl hN hg
              go_wp2_with fail
              go_roundw
              case rel =>
                refine ⟨k + 1, _, _, by go_num, by omega, HN, hide (fun a ha c hc => ?_), hide (fun a ha c hc => ?_), hide (fun c hc => ?_), HBN⟩
                · show ∃ b', (if a = i ∧ c = k then some b else mb2 a c) = some b'
                  split
                  · exact ⟨_, rfl⟩
                  · exact HS2.out a ha c hc
                · show (if a = i ∧ c = k then CR.sumN j fun l => X i l * Y l k else Z2 a c) = mulM j X Y a c
                  rw [if_neg (by omega)]
                  exact HZ2.out a ha c hc
                · show (if i = i ∧ c = k then CR.sumN j fun l => X i l * Y l k else Z2 i c) = mulM j X Y i c
                  by_cases e : c = k
                  · rw [if_pos ⟨rfl, e⟩, e]; rfl
                  · rw [if_neg (fun h => e h.2)]; exact HZK.out c (by omega)
              case measure => simp [intOf]; omega
        · have hkn2 : k = n := by omega
          subst hkn2
          have hin := HIN.out
          go_wp2_with fail
          go_roundw
          case rel =>
            refine ⟨i + 1, mb2, Z2, by go_num, by omega, HM2, HS2, hide (fun a ha c hc => ?_), HW2⟩
            by_cases e : a = i
            · subst e; exact HZK.out c hc
            · exact HZ2.out a (by omega) c hc
          case measure => simp [intOf]; omega
    · have hin2 : i = n := by omega
      subst hin2
      go_wp2_with fail
      go_ret
      exact ⟨go, gr, mb1, rfl, HM1.out.congr (fun _ _ => rfl) (fun _ _ _ _ => rfl) (fun a ha c hc b hb => HZ1.out a ha c hc), HG.out, HS1.out, HW1.out⟩
end Go.Proofs.Ytgbipfohcailnaa
