/- Several texts in one. -/
import Derived.Test.YtoaiblhlpdaeoaaPart4
import Derived.BigRegion
import Derived.Test.YtoaiblhlpdaeoaaPart3
/- Inverse. -/
namespace Go.Proofs.Ytoaiblhlpdaeoaa
set_option linter.unusedVariables false
set_option linter.unusedSimpArgs false
open Go.RowKit

theorem inv_step {a : List Nat} (pa : isP a) {n k : Nat} (hl : a.length = n) (hk : k < n) {ps : List Int} (hp : ps.length = n) (h : ∀ j, j < k → ps.getD (a.getD j 0) 0 = (j : Int)) :
    ∀ j, j < k + 1 → (ps.set (a.getD k 0) (k : Int)).getD (a.getD j 0) 0 = (j : Int) := by
  intro j hj
  have hlk := pa.lt (j := k) (by omega)
  by_cases e : j = k
  · subst e
    simp only [List.getD, List.getElem?_set]
    simp only [List.getD] at hlk
    rw [if_pos trivial, if_pos (by omega)]
    rfl
  · have hne : a.getD k 0 ≠ a.getD j 0 := fun h1 => e (pa.inj (by omega) (by omega) h1).symm
    have := h j (by omega)
    simp only [List.getD, List.getElem?_set] at this hne ⊢
    rw [if_neg hne]
    exact this

set_option maxHeartbeats 1000000 in
theorem inverse_ok (A : Option Addr) (n c : Nat) (a : List Nat) (w : World) (ha : IL w A n (zs a)) (pa : isP a) (h9 : a.length ≤ 9) :
    Calls Try.prog 87 #[.slice A n c] w (GivesOwn0 w (zs (inv a))) := by
  have HA := hide (pa.pf h9)
  have hna := ha.small
  have HL : Hid (a.length = n) := by have := ha.len; rwa [zs_length] at this
  have HP := hide pa
  clear pa h9
  obtain ⟨i0, hi0, hz0, hz1, hz2⟩ := info_parts int_info
  go_enter Try.func87, Try.ntmps87
  go_wp2_with fail
  refine (check_any _ _ _ _ _ ha).mono ?_
  rw [HA.out]
  rintro e w1 ⟨rfl, hb1⟩
  go_wp2_with (at_make; refine wpList_make_full _ rfl _ _ 22 rfl w1.heap.size 3 i0 (.int .i64 0) 1 Try.underlying22 hi0 hz0 hz1 .i64 .i64 _ _ n rfl rfl rfl rfl (by rw [hz2]; omega) (by unfold maxLen; omega) (Nat.le_refl _) ?_; intro w2 hown2 hg2)
  have hB2 : Below w1.heap.size w1 w2 := (Below.refl _ _).grown hg2 (Nat.le_refl _) (by intro k hk; cases hk)
  have hB02 : Below w.heap.size w w2 := hb1.trans (hB2.mono hb1.size)
  have hw2 := OwnI.zero (z := #[]) hown2 (by omega)
  clear hown2 hg2
  go_loopw [18] (fun i wr => ∃ k : Nat, k ≤ n ∧ i = .int .i64 k ∧ (∃ ps : List Int, OwnI wr w1.heap.size (some ⟨w1.heap.size, 0, none⟩) n n ps ∧ Hid (∀ j, j < k → ps.getD (a.getD j 0) 0 = (j : Int))) ∧ Below w.heap.size w wr) (fun i _ => n - (intOf i).toNat)
  case atStart => exact ⟨0, Nat.zero_le _, rfl, ⟨_, hw2, fun j hj => absurd hj (by omega)⟩, hB02⟩
  case round =>
    obtain ⟨k, hk, rfl, ⟨ps, hown, hps⟩, hnx⟩ := hrel
    have ha' := ha.below hnx
    clear ha hw2 hB02 hB2
    by_cases hlt : k < n
    · obtain ⟨ad, rfl, hca⟩ := ha'.at_ hlt
      rw [zs_getD] at hca
      have hx : a.getD k 0 < n := by have := HP.out.lt (j := k) (by have := HL.out; omega); have := HL.out; omega
      have HS := hide (inv_step HP.out HL.out hlt hown.len hps.out)
      have hcell := hown.cell hx
      have hfr := hown.frozen (a.getD k 0)
      have HO := hide (hown.set_ (a.getD k 0) (k : Int))
      clear ha' hown hps
      generalize a.getD k 0 = x at *
      generalize ps.getD x 0 = z at *
      have hsz := hb1.size
      go_wp2
      go_roundw
      case rel => exact ⟨k + 1, by omega, by go_num, ⟨_, HO.out, HS.out⟩, hnx.setCell (by simpa using hsz) _⟩
      case measure => simp [intOf]; omega
    · have HF : Hid (ps = zs (inv a)) := inv_unique HP.out (hown.len.trans HL.out.symm) (fun j hj => hps.out j (by have := HL.out; omega))
      have hsz := hb1.size
      go_wp2
      go_ret2
      rw [HF.out] at hown
      exact ⟨_, _, _, rfl, hown.mono hsz, hnx⟩

end Go.Proofs.Ytoaiblhlpdaeoaa
/- Package braid: Permutation. -/
namespace Go.Proofs.Ytoaiblhlpdaeoaa
set_option linter.unusedVariables false
set_option linter.unusedSimpArgs false
open Go.RowKit

/-- The strands at each position, after the letters w. -/
def AtP (n : Nat) (w : List Int) (sl : List Nat) : Prop := sl.length = n ∧ ∀ p, p < n → sl.getD p 0 < n ∧ endE w (sl.getD p 0) = p
theorem AtP.start (n : Nat) : AtP n [] (List.range n) := ⟨by simp, fun p hp => by rw [range_getD hp]; exact ⟨hp, rfl⟩⟩
theorem AtP.isP {n : Nat} {w : List Int} {sl : List Nat} (h : AtP n w sl) : Proofs.Ytoaiblhlpdaeoaa.isP sl := isP_of (fun j hj => by rw [h.1]; exact (h.2 j (by rw [← h.1]; exact hj)).1) (fun i j hi hj he => by
  have h1 := (h.2 i (by rw [← h.1]; exact hi)).2
  have h2 := (h.2 j (by rw [← h.1]; exact hj)).2
  rw [he, h2] at h1
  exact h1.symm)
theorem AtP.inv {n : Nat} {w : List Int} {sl : List Nat} (h : AtP n w sl) : zs (Proofs.Ytoaiblhlpdaeoaa.inv sl) = zs (endsL n w) := by
  refine (inv_unique h.isP (ps := zs (endsL n w)) (by rw [zs_length, endsL_length, h.1]) fun j hj => ?_).symm
  obtain ⟨h1, h2⟩ := h.2 j (by rw [← h.1]; exact hj)
  rw [zs_getD]
  congr 1
  unfold endsL
  rw [getD_map_nat (by rw [List.length_range]; exact h1), range_getD h1, h2]
/-- Two positions exchanged. -/
def swapP (i : Nat) (sl : List Nat) : List Nat := (sl.set (i - 1) (sl.getD i 0)).set i (sl.getD (i - 1) 0)
theorem swapP_zs (i : Nat) (sl : List Nat) : ((zs sl).set (i - 1) ((sl.getD i 0 : Nat) : Int)).set i ((sl.getD (i - 1) 0 : Nat) : Int) = zs (swapP i sl) := by
  unfold swapP zs
  rw [List.map_set, List.map_set]
  rfl
theorem swapP_getD {i n : Nat} {x : Int} (hx : x.natAbs = i) {sl : List Nat} (hl : sl.length = n) (h1 : 1 ≤ i) (h2 : i < n) {p : Nat} (hp : p < n) : (swapP i sl).getD p 0 = sl.getD (stepE p x) 0 := by
  unfold swapP stepE
  rw [hx]
  simp only [List.getD, List.getElem?_set, List.length_set]
  grind
theorem AtP.step {n : Nat} {w : List Int} {sl : List Nat} (h : AtP n w sl) {x : Int} (h0 : x ≠ 0) (h1 : x.natAbs < n) : AtP n (w ++ [x]) (swapP x.natAbs sl) := by
  refine ⟨by unfold swapP; simp [h.1], fun p hp => ?_⟩
  rw [swapP_getD rfl h.1 (by omega) h1 hp]
  have hs := stepE_lt h0 h1 hp
  obtain ⟨h3, h4⟩ := h.2 _ hs
  exact ⟨h3, by rw [endE_snoc, h4, stepE_twice h0]⟩

/-- A slice and an error; without an error the slice is the call's own. -/
def GivesLEo (w : World) (err : Int) (xs : List Int) (e : Ending) (w' : World) : Prop :=
  ∃ A n c, e = .returned (.tuple #[.slice A n c, .int .i64 err]) ∧ SL w' A n c xs ∧ Below w.heap.size w w' ∧ (err = 0 → OwnI w' w.heap.size A n c xs)
set_option maxRecDepth 100000 in
set_option maxHeartbeats 4000000 in
theorem bperm_own (m : Int) (A : Option Addr) (n c : Nat) (xs : List Int) (w : World) (ha : SL w A n c xs) (hm : (Lit.int .i64 m).wf = true) :
    Calls Try.prog 41 #[.int .i64 m, .slice A n c] w (GivesLEo w (bfault m xs) (permE m xs)) := by
  have HC := hide (bcheck_any m A n c xs w ha hm)
  have HL := hide ha.il.len
  have HA := hide ha.il
  have hns := ha.il.small
  clear ha
  obtain ⟨f, hf⟩ : ∃ f, bfault m xs = f := ⟨_, rfl⟩
  have HF := hide hf
  rw [hf] at HC ⊢
  clear hf
  by_cases h0 : f = 0
  case neg =>
    have HV : Hid (permE m xs = []) := hide (by unfold permE; rw [HF.out, if_neg h0])
    have hne : (f != 0) = true := by simpa using h0
    clear h0
    go_enter Try.func41, Try.ntmps41
    go_wp2_with fail
    refine HC.out.mono ?_
    rintro e w1 ⟨rfl, hww⟩
    subst hww
    go_wp2_with fail
    go_ret2
    exact ⟨none, 0, 0, rfl, by rw [HV.out]; exact SL.nil_ _, Below.refl _ _, fun h => absurd h (by simpa using hne)⟩
  subst h0
  have hz := bfault_zero HF.out
  obtain ⟨M, hM⟩ : ∃ M : Nat, m = (M : Int) := ⟨m.toNat, by omega⟩
  subst hM
  have hM1 : 1 ≤ M := by omega
  have hM6 : M ≤ 6 := by omega
  have HV : Hid (permE (M : Int) xs = zs (endsL M xs)) := hide (by unfold permE; rw [HF.out, if_pos rfl, Int.toNat_natCast])
  have hn30 : n ≤ 30 := by have := hz.2.2.1; rw [HL.out] at this; exact this
  have HX : Hid (∀ k, k < n → xs.getD k 0 ≠ 0 ∧ (xs.getD k 0).natAbs < M) := hide (fun k hk => by
    have hlx : k < xs.length := by rw [HL.out]; exact hk
    have := hz.2.2.2 (xs.getD k 0) (by rw [show xs.getD k 0 = xs[k] by simp [List.getD, hlx]]; exact List.getElem_mem _)
    omega)
  clear hz
  obtain ⟨i0, hi0, hz0, hz1, hz2⟩ := info_parts int_info
  go_enter Try.func41, Try.ntmps41
  go_wp2_with fail
  refine HC.out.mono ?_
  rintro e w1 ⟨rfl, hww⟩
  subst hww
  go_wp2_with (at_make; refine wpList_make_full _ rfl _ _ 22 rfl w.heap.size 3 i0 (.int .i64 0) 1 Try.underlying22 hi0 hz0 hz1 .i64 .i64 _ _ M rfl rfl rfl rfl (by rw [hz2]; omega) (by unfold maxLen; omega) (Nat.le_refl _) ?_; intro w2 hown2 hg2)
  have hB2 : Below w.heap.size w w2 := (Below.refl _ _).grown hg2 (Nat.le_refl _) (by intro k hk; cases hk)
  have hw2 := OwnI.zero (z := #[]) hown2 (by omega)
  have HO2 : Hid (OwnI w2 w.heap.size (some ⟨w.heap.size, 0, none⟩) M M (fillN (fun j => (j : Int)) M 0)) := hide (by rw [fillN_zero]; exact hw2)
  have HB2 := hide hB2
  clear hown2 hg2 hw2 hB2
  go_loopw [22] (fun i wr => ∃ k : Nat, k ≤ M ∧ i = .int .i64 k ∧ Hid (OwnI wr w.heap.size (some ⟨w.heap.size, 0, none⟩) M M (fillN (fun j => (j : Int)) M k)) ∧ Hid (Below w.heap.size w wr)) (fun i _ => M - (intOf i).toNat)
  case atStart => exact ⟨0, Nat.zero_le _, rfl, HO2, HB2⟩
  case round =>
    clear HO2 HB2
    obtain ⟨k, hk, rfl, HO, HB⟩ := hrel
    by_cases hlt : k < M
    · have hcell := HO.out.cell hlt
      have hfr := HO.out.frozen k
      have HN := hide (HO.out.set_ k (k : Int))
      rw [fillN_set (fun j => (j : Int)) M k] at HN
      generalize (fillN (fun j => (j : Int)) M k).getD k 0 = z at *
      go_wp2_with fail
      go_roundw
      case rel => exact ⟨k + 1, by omega, by go_num, HN, hide (HB.out.setCell (Nat.le_refl _) _)⟩
      case measure => simp [intOf]; omega
    · have hkn : k = M := by omega
      have HR : Hid (OwnI wr w.heap.size (some ⟨w.heap.size, 0, none⟩) M M (zs (List.range M))) := hide (by
        have h := HO.out
        rw [hkn, fillN_full (xs := zs (List.range M)) (by rw [zs_length, List.length_range]) (fun j hj => by rw [zs_getD, range_getD hj])] at h
        exact h)
      have HP0 : Hid (∃ sl, AtP M (xs.take 0) sl ∧ OwnI wr w.heap.size (some ⟨w.heap.size, 0, none⟩) M M (zs sl)) := hide ⟨_, by rw [List.take_zero]; exact AtP.start M, HR.out⟩
      have HB0 := HB
      rename World => wo
      clear hkn HO HR hk HB
      go_wp2_with fail
      go_loopw [32] (fun i wx => ∃ k : Nat, k ≤ n ∧ i = .int .i64 k ∧ Hid (∃ sl, AtP M (xs.take k) sl ∧ OwnI wx w.heap.size (some ⟨w.heap.size, 0, none⟩) M M (zs sl)) ∧ Hid (Below w.heap.size w wx)) (fun i _ => n - (intOf i).toNat)
      case atStart => exact ⟨0, Nat.zero_le _, rfl, HP0, HB0⟩
      case round =>
        clear HP0 HB0
        obtain ⟨k, hk, rfl, HP, HB⟩ := hrel
        by_cases hlt : k < n
        · obtain ⟨sl, hat, hown⟩ := HP.out
          obtain ⟨ad, rfl, hx⟩ := (HA.out.below HB.out).at_ hlt
          obtain ⟨hx0, hx1⟩ := HX.out k hlt
          have hlx : k < xs.length := by rw [HL.out]; exact hlt
          have HAT : Hid (AtP M (xs.take (k + 1)) (swapP (xs.getD k 0).natAbs sl)) := hide (by
            rw [List.take_succ_eq_append_getElem hlx, ← show xs.getD k 0 = xs[k] by simp [List.getD, hlx]]
            exact hat.step hx0 hx1)
          clear HP hat hlx
          generalize xs.getD k 0 = x at *
          have HG := hide (gen_any x wr (by omega) (by omega))
          obtain ⟨i, hi⟩ : ∃ i, x.natAbs = i := ⟨_, rfl⟩
          rw [hi] at HG HAT hx1
          have hi1 : 1 ≤ i := by omega
          clear hi hx0
          go_wp2_with fail
          refine HG.out.mono ?_
          rintro e w3 ⟨rfl, hww⟩
          subst hww
          obtain ⟨j, rfl⟩ : ∃ j, i = j + 1 := ⟨i - 1, by omega⟩
          have hB2 := HB.out
          have hc1 : wr.cell? ⟨w.heap.size, j + 1, none⟩ = some (.int .i64 (sl.getD (j + 1) 0 : Nat)) := by have := hown.cell (j := j + 1) (by omega); rw [zs_getD] at this; exact this
          have hc0 : wr.cell? ⟨w.heap.size, j, none⟩ = some (.int .i64 (sl.getD j 0 : Nat)) := by have := hown.cell (j := j) (by omega); rw [zs_getD] at this; exact this
          have hf1 := hown.frozen (j + 1)
          have hf0 := hown.frozen j
          have HN := hide ((hown.set_ j ((sl.getD (j + 1) 0 : Nat) : Int)).set_ (j + 1) ((sl.getD j 0 : Nat) : Int))
          have hsz := swapP_zs (j + 1) sl
          rw [Nat.add_sub_cancel] at hsz
          rw [hsz] at HN
          have HBN := hide ((hB2.setCell (p := ⟨w.heap.size, j, none⟩) (Nat.le_refl _) (.int .i64 ((sl.getD (j + 1) 0 : Nat) : Int))).setCell (p := ⟨w.heap.size, j + 1, none⟩) (Nat.le_refl _) (.int .i64 ((sl.getD j 0 : Nat) : Int)))
          clear hsz hown hB2 HB
          generalize ((sl.getD (j + 1) 0 : Nat) : Int) = u at *
          generalize ((sl.getD j 0 : Nat) : Int) = v at *
          have hwj : IntKind.i64.wrap (j : Int) = (j : Int) := by rw [IntKind.wrap_i64]; omega
          have hwj1 : IntKind.i64.wrap ((j : Int) + 1) = (j : Int) + 1 := by rw [IntKind.wrap_i64]; omega
          go_upto_region 14 with fail
          go_region
          go_wp2_with fail
          go_roundw
          case rel => exact ⟨k + 1, by omega, by go_num, hide ⟨_, HAT.out, HN.out.drew⟩, hide HBN.out.drew⟩
          case measure => simp [intOf]; omega
        · have hkn : k = n := by omega
          obtain ⟨sl, hat, hown⟩ := HP.out
          rw [List.take_of_length_le (by rw [HL.out]; omega)] at hat
          have hsl := hat.1
          have HI := hide (inverse_ok (some ⟨w.heap.size, 0, none⟩) M M sl wr hown.il hat.isP (by omega))
          rw [hat.inv, ← HV.out] at HI
          clear hkn HP hat hown
          go_wp2_with fail
          refine HI.out.mono ?_
          rintro e w3 ⟨B, mm, d, rfl, hs, hb⟩
          have HR := hide hs.sl
          have HRO := hide (hs.mono HB.out.size)
          have HBB := hide (HB.out.trans (hb.mono HB.out.size))
          clear hs hb
          go_wp2_with fail
          go_ret2
          exact ⟨_, _, _, rfl, HR.out, HBB.out, fun _ => HRO.out⟩
theorem bperm_any (m : Int) (A : Option Addr) (n c : Nat) (xs : List Int) (w : World) (ha : SL w A n c xs) (hm : (Lit.int .i64 m).wf = true) :
    Calls Try.prog 41 #[.int .i64 m, .slice A n c] w (GivesLE w (bfault m xs) (permE m xs)) :=
  (bperm_own m A n c xs w ha hm).mono fun _ _ ⟨B, k, d, h1, h2, h3, _⟩ => ⟨B, k, d, h1, h2, h3⟩
end Go.Proofs.Ytoaiblhlpdaeoaa
/- Package artin: inverse, isTooLarge, appendReduced. -/
namespace Go.Proofs.Ytoaiblhlpdaeoaa
set_option linter.unusedVariables false
set_option linter.unusedSimpArgs false
open Go.RowKit

/-- Are the letters small? -/
def smallL (xs : List Int) : Prop := ∀ x ∈ xs, -1000 ≤ x ∧ x ≤ 1000
theorem smallL.getD {xs : List Int} (h : smallL xs) {k : Nat} (hk : k < xs.length) : -1000 ≤ xs.getD k 0 ∧ xs.getD k 0 ≤ 1000 := h _ (by
  rw [show xs.getD k 0 = xs[k] by simp [List.getD, List.getElem?_eq_getElem hk]]
  exact List.getElem_mem _)
theorem smallL.inv {xs : List Int} (h : smallL xs) : smallL (invw xs) := fun x hx => by
  unfold invw at hx
  obtain ⟨z, hz, rfl⟩ := List.mem_map.1 (List.mem_reverse.1 hx)
  have := h z hz
  omega
theorem smallL.app {xs ys : List Int} (h : smallL xs) (h2 : smallL ys) : smallL (xs ++ ys) := fun x hx => (List.mem_append.1 hx).elim (h x) (h2 x)

set_option maxRecDepth 100000 in
set_option maxHeartbeats 2000000 in
theorem ainv_any (A : Option Addr) (n c : Nat) (xs : List Int) (w : World) (ha : IL w A n xs) (hb : smallL xs) :
    Calls Try.prog 106 #[.slice A n c] w (GivesOwn w (invw xs)) := by
  have HL := hide ha.len
  have HA := hide ha
  have hns := ha.small
  have HX : Hid (∀ k, k < n → -1000 ≤ xs.getD k 0 ∧ xs.getD k 0 ≤ 1000) := hide (fun k hk => hb.getD (by rw [HL.out]; exact hk))
  clear ha hb
  obtain ⟨i0, hi0, hz0, hz1, hz2⟩ := info_parts int_info
  go_enter Try.func106, Try.ntmps106
  go_wp2_with (at_make; refine wpList_make_full _ rfl _ _ 22 rfl w.heap.size 3 i0 (.int .i64 0) 1 Try.underlying22 hi0 hz0 hz1 .i64 .i64 _ _ n rfl rfl rfl rfl (by rw [hz2]; omega) (by unfold maxLen; omega) (Nat.le_refl _) ?_; intro w2 hown2 hg2)
  have hB2 : Below w.heap.size w w2 := (Below.refl _ _).grown hg2 (Nat.le_refl _) (by intro k hk; cases hk)
  have hw2 := OwnI.zero (z := #[]) hown2 (by omega)
  have HO2 : Hid (OwnI w2 w.heap.size (some ⟨w.heap.size, 0, none⟩) n n (List.replicate (n - 0) 0 ++ invw (xs.take 0))) := hide (by
    rw [List.take_zero, Nat.sub_zero, show invw ([] : List Int) = [] from rfl, List.append_nil]; exact hw2)
  have HB2 := hide hB2
  clear hown2 hg2 hw2 hB2
  go_loopw [11] (fun i wr => ∃ k : Nat, k ≤ n ∧ i = .int .i64 k ∧ Hid (OwnI wr w.heap.size (some ⟨w.heap.size, 0, none⟩) n n (List.replicate (n - k) 0 ++ invw (xs.take k))) ∧ Hid (Below w.heap.size w wr)) (fun i _ => n - (intOf i).toNat)
  case atStart => exact ⟨0, Nat.zero_le _, rfl, HO2, HB2⟩
  case round =>
    clear HO2 HB2
    obtain ⟨k, hk, rfl, HO, HB⟩ := hrel
    by_cases hlt : k < n
    · obtain ⟨ad, rfl, hx⟩ := (HA.out.below HB.out).at_ hlt
      have hxx := HX.out k hlt
      have HS := hide (invw_step HL.out hlt)
      have hcell := HO.out.cell (j := n - 1 - k) (by omega)
      have hfr := HO.out.frozen (n - 1 - k)
      have HN := hide (HO.out.set_ (n - 1 - k) (-(xs.getD k 0)))
      rw [HS.out] at HN
      generalize xs.getD k 0 = x at *
      generalize (List.replicate (n - k) 0 ++ invw (xs.take k)).getD (n - 1 - k) 0 = z at *
      have hwx : IntKind.i64.wrap (-x) = -x := by rw [IntKind.wrap_i64]; omega
      obtain ⟨q, hq⟩ : ∃ q : Nat, n - 1 - k = q := ⟨_, rfl⟩
      rw [hq] at hcell hfr HN
      have hq2 : (n : Int) - 1 - (k : Int) = (q : Int) := by omega
      have HQ := hide hq2
      have hqn : q < n := by omega
      clear hq hq2 HS
      go_wp2_with (simp only [HQ.out])
      go_roundw
      case rel => exact ⟨k + 1, by omega, by go_num, HN, hide (HB.out.setCell (Nat.le_refl _) _)⟩
      case measure => simp [intOf]; omega
    · have hkn : k = n := by omega
      have HE : Hid (OwnI wr w.heap.size (some ⟨w.heap.size, 0, none⟩) n n (invw xs)) := hide (by
        have h := HO.out
        rw [hkn, Nat.sub_self, List.replicate_zero, List.nil_append, List.take_of_length_le (by rw [HL.out]; omega)] at h
        exact h)
      clear hkn HO
      go_wp2_with fail
      go_ret
      exact ⟨_, _, _, rfl, HE.out, HB.out⟩

theorem alarge_any (A : Option Addr) (n c : Nat) (xs : List Int) (w : World) (ha : IL w A n xs) :
    Calls Try.prog 74 #[.slice A n c] w fun e w' => e = .returned (.bool (decide (3000 < xs.length))) ∧ w = w' := by
  have hl := ha.len
  rw [hl]
  have hd : decide ((3000 : Int) < n) = decide (3000 < n) := decide_eq_decide.2 (by omega)
  clear ha hl
  obtain ⟨q, hq⟩ : ∃ q, decide (3000 < n) = q := ⟨_, rfl⟩
  rw [hq] at hd ⊢
  clear hq
  go_enter Try.func74, Try.ntmps74
  go_wp2_with fail
  go_ret
  simp [hd]

set_option maxRecDepth 100000 in
set_option maxHeartbeats 2000000 in
/-- A letter is appended to a reduced word of the call's own, or its last letter is removed. -/
theorem ared_any (base : Nat) (A : Option Addr) (n c : Nat) (L : List Int) (x : Int) (w : World) (ho : OwnI w base A n c L) (hbase : base ≤ w.heap.size) (hL : smallL L) (hx : -1000 ≤ x ∧ x ≤ 1000) (hn : n ≤ 1000000) :
    Calls Try.prog 125 #[.slice A n c, .int .i64 x] w fun e w' => ∃ A2 m2 c2, e = .returned (.slice A2 m2 c2) ∧ m2 ≤ n + 1 ∧ OwnI w' base A2 m2 c2 (snc L x) ∧ w.grownBy w' (Value.slice A n c).ownBlock ∧
      ((Value.slice A2 m2 c2).ownBlock = (Value.slice A n c).ownBlock ∨ ∃ g, (Value.slice A2 m2 c2).ownBlock = some g ∧ w.heap.size ≤ g) := by
  have hll := ho.len
  obtain ⟨i0, hi0, hz0, hz1, hz2⟩ := info_parts int_info
  have HI0 := hide hi0
  have HZ0 := hide hz0
  have HZ1 := hide hz1
  have HZ2 := hide hz2
  have HO := hide ho
  have HBS := hide hbase
  clear hi0 hz0 hz1 hz2
  have app : ∀ (w1 : World) (A8 : Option Addr) (c8 : Nat) (zs : List Int), snc L x = zs → Appended (w.alloc (.cells #[.int .i64 x] 3)) base A (n + 1) c zs A8 c8 w1 →
      (∃ A2 m2 c2, Ending.returned (.slice A8 (n + 1) c8) = .returned (.slice A2 m2 c2) ∧ m2 ≤ n + 1 ∧ OwnI w1 base A2 m2 c2 (snc L x) ∧ w.grownBy w1 (Value.slice A n c).ownBlock ∧
      ((Value.slice A2 m2 c2).ownBlock = (Value.slice A n c).ownBlock ∨ ∃ g, (Value.slice A2 m2 c2).ownBlock = some g ∧ w.heap.size ≤ g)) := fun w1 A8 c8 zs he hap => by
    refine ⟨A8, n + 1, c8, rfl, Nat.le_refl _, by rw [he]; exact hap.own, ?_, ?_⟩
    · have hg := hap.grown
      rw [ownBlock_len A (n + 1) n c c] at hg
      have hbw : Below w.heap.size w (w.alloc (.cells #[.int .i64 x] 3)) := (Below.refl _ _).alloc (Nat.le_refl _) _
      exact ⟨hg.os.trans hbw.os, hg.tape.trans hbw.tape, hg.output.trans hbw.output, Nat.le_trans hbw.size hg.size, fun b h hne => (hg.block b (Nat.lt_of_lt_of_le h hbw.size) hne).trans (hbw.block b h)⟩
    · rcases hap.lies with h | h
      · exact .inl (by rw [h, ownBlock_len A (n + 1) n c c])
      · exact .inr ⟨_, h, by simp⟩
  have APP := hide app
  clear app
  by_cases h0 : n = 0
  · have HS : Hid (snc L x = L ++ [x]) := hide (snc_push hll (.inl h0))
    have hg : decide ((0 : Int) < (n : Int)) = false := decide_eq_false (by omega)
    have hg2 : decide (0 < n) = false := decide_eq_false (by omega)
    clear ho hbase hll h0
    go_enter Try.func125, Try.ntmps125
    go_wp2_with (at_builtin; refine wpList_append_int _ rfl (.tmp 24) (.tmp 26) 22 rfl base i0 Try.underlying22 HI0.out HZ0.out HZ1.out HZ2.out A n c L rfl (HO.out.alloc _) (some ⟨_, 0, none⟩) 1 1 [x] rfl (IL.lit _ [x] (by simp) rfl rfl) (by omega) (by have := HBS.out; simp; omega) ?_; intro A8 c8 w8 hap)
    go_ret
    exact APP.out _ _ _ _ HS.out hap
  · have h1 : 0 < n := by omega
    obtain ⟨g, rfl, hg1, hg2⟩ := ho.form h1
    have hc2 := ho.cell (show n - 1 < n by omega)
    obtain ⟨hy0, hy1⟩ := hL.getD (show n - 1 < L.length by omega)
    have hcap := ho.cap
    have hp0 : (0 : Int) ≤ (n : Int) - 1 := by omega
    have hp1 : (n : Int) - 1 < (n : Int) := by omega
    have hp2 : ((n : Int) - 1).toNat = n - 1 := by omega
    have hp3 : (n : Int) - 1 ≤ (c : Int) := by omega
    have hwr : IntKind.i64.wrap ((n : Int) - 1) = (n : Int) - 1 := by rw [IntKind.wrap_i64]; omega
    have hg : decide ((0 : Int) < (n : Int)) = true := decide_eq_true (by omega)
    by_cases hxy : L.getD (n - 1) 0 = -x
    · have HS : Hid (snc L x = L.take (n - 1)) := hide (snc_pop hll h1 hxy)
      have HN : Hid (OwnI w base (some ⟨g, 0, none⟩) (n - 1) c (snc L x)) := by
        rw [HS.out]
        exact ho.shrink (by omega) h1
      generalize L.getD (n - 1) 0 = y at *
      have hbe : (y == -x) = true := by simpa using hxy
      clear ho hbase hll hxy APP HO
      go_enter Try.func125, Try.ntmps125
      go_wp2_with fail
      go_ret
      exact ⟨_, n - 1, c, rfl, by omega, HN.out, World.grownBy.refl w _, .inl rfl⟩
    · have HS : Hid (snc L x = L ++ [x]) := hide (snc_push hll (.inr hxy))
      generalize L.getD (n - 1) 0 = y at *
      have hbe : (y == -x) = false := by simpa using hxy
      clear ho hbase hll hxy
      go_enter Try.func125, Try.ntmps125
      go_wp2_with (at_builtin; refine wpList_append_int _ rfl (.tmp 24) (.tmp 26) 22 rfl base i0 Try.underlying22 HI0.out HZ0.out HZ1.out HZ2.out (some ⟨g, 0, none⟩) n c L rfl (HO.out.alloc _) (some ⟨_, 0, none⟩) 1 1 [x] rfl (IL.lit _ [x] (by simp) rfl rfl) (by omega) (by have := HBS.out; simp; omega) ?_; intro A8 c8 w8 hap)
      go_ret
      exact APP.out _ _ _ _ HS.out hap
end Go.Proofs.Ytoaiblhlpdaeoaa
/- Package artin: conjugate. -/
namespace Go.Proofs.Ytoaiblhlpdaeoaa
set_option linter.unusedVariables false
set_option linter.unusedSimpArgs false
open Go.RowKit

/-- A word of the call's own that grows: block b1 at first; what else was there is as it was. -/
structure CJ (w3 : World) (b1 : Nat) (R : Option Addr) (m c : Nat) (L : List Int) (wr : World) : Prop where
  own : OwnI wr b1 R m c L
  grown : w3.grownBy wr (some b1)
  lies : (Value.slice R m c).ownBlock = some b1 ∨ ∃ g, (Value.slice R m c).ownBlock = some g ∧ w3.heap.size ≤ g
theorem CJ.step {w3 wr w' : World} {b1 m c m2 c2 : Nat} {R A2 : Option Addr} {L L2 : List Int} (h : CJ w3 b1 R m c L wr) (ho : OwnI w' b1 A2 m2 c2 L2) (hg : wr.grownBy w' (Value.slice R m c).ownBlock)
    (hl : (Value.slice A2 m2 c2).ownBlock = (Value.slice R m c).ownBlock ∨ ∃ g, (Value.slice A2 m2 c2).ownBlock = some g ∧ wr.heap.size ≤ g) : CJ w3 b1 A2 m2 c2 L2 w' := by
  refine ⟨ho, ⟨hg.os.trans h.grown.os, hg.tape.trans h.grown.tape, hg.output.trans h.grown.output, Nat.le_trans h.grown.size hg.size, fun b hb hne => ?_⟩, ?_⟩
  · refine (hg.block b (Nat.lt_of_lt_of_le hb h.grown.size) fun e => ?_).trans (h.grown.block b hb hne)
    rcases h.lies with h1 | ⟨g, h1, h2⟩
    · rw [h1] at e; exact hne e
    · rw [h1] at e
      injection e with e
      omega
  · rcases hl with h1 | ⟨g, h1, h2⟩
    · rw [h1]
      exact h.lies
    · exact .inr ⟨g, h1, Nat.le_trans h.grown.size h2⟩
theorem IL.keptN {w w' : World} {A : Option Addr} {n : Nat} {xs : List Int} (h : IL w A n xs) {row : Option Nat} (hg : w.grownBy w' row) (hne : 0 < n → ∀ ad, A = some ad → some ad.block ≠ row) : IL w' A n xs :=
  ⟨h.len, h.small, fun hn => by
    obtain ⟨ad, e, hl, hc⟩ := h.mem hn
    exact ⟨ad, e, Nat.lt_of_lt_of_le hl hg.size, fun j hj => (World.cell?_of_block (w := w) (hg.block (ad.add j).block (by rw [block_of_add]; exact hl) (by rw [block_of_add]; exact hne hn ad e))).trans (hc j hj)⟩⟩
/-- The word that conjugates. -/
def conjW (xs ys : List Int) : List Int := nf (xs ++ ys ++ invw xs)
theorem flat3 (a b d : List Int) (k : Nat) (hk : k < 3) : ([a, b, d].take (k + 1)).flatten = ([a, b, d].take k).flatten ++ [a, b, d].getD k [] := by
  match k, hk with
  | 0, _ => simp
  | 1, _ => simp
  | 2, _ => simp

set_option maxRecDepth 100000 in
set_option maxHeartbeats 8000000 in
theorem aconj_any (A : Option Addr) (n c : Nat) (xs : List Int) (B : Option Addr) (m d : Nat) (ys : List Int) (w : World) (ha : SL w A n c xs) (hb : SL w B m d ys) (hx : smallL xs) (hy : smallL ys) (hn : n ≤ 3000) (hm : m ≤ 3000) :
    Calls Try.prog 105 #[.slice A n c, .slice B m d] w (GivesOwn w (conjW xs ys)) := by
  have HLX := hide ha.il.len
  have HLY := hide hb.il.len
  have HA := hide ha
  have HB := hide hb
  have HIA : Hid (0 < n → ∀ ad, A = some ad → ad.block < w.heap.size) := hide ha.inside
  have HIB : Hid (0 < m → ∀ ad, B = some ad → ad.block < w.heap.size) := hide hb.inside
  have HX := hide hx
  have HY := hide hy
  clear ha hb hx hy
  obtain ⟨i0, hi0, hz0, hz1, hz2⟩ := info_parts int_info
  obtain ⟨C, hC⟩ : ∃ C : Nat, 2 * n + m = C := ⟨_, rfl⟩
  have hw2 : IntKind.i64.wrap (2 * (n : Int)) = 2 * (n : Int) := by rw [IntKind.wrap_i64]; omega
  have hw3 : IntKind.i64.wrap (2 * (n : Int) + (m : Int)) = (C : Int) := by rw [IntKind.wrap_i64]; omega
  have hC9 : C ≤ 9000 := by omega
  clear hC
  go_enter Try.func105, Try.ntmps105
  go_wp2_with (at_make; refine wpList_make_own _ rfl _ _ 22 rfl w.heap.size 3 i0 (.int .i64 0) 1 Try.underlying22 hi0 hz0 hz1 .i64 .i64 _ C rfl rfl rfl (by rw [hz2]; omega) (by unfold maxLen; omega) (Nat.le_refl _) ?_; intro w1 hown1 hg1)
  have hB1 : Below w.heap.size w w1 := (Below.refl _ _).grown hg1 (Nat.le_refl _) (by intro k hk; cases hk)
  have HO1 : Hid (OwnI w1 w.heap.size (some ⟨w.heap.size, 0, none⟩) 0 C []) := ⟨hown1, by omega⟩
  obtain ⟨b1, hb1⟩ : ∃ b, w.heap.size = b := ⟨_, rfl⟩
  have hlt1 : b1 < w1.heap.size := by
    have := HO1.out.lt b1 (by rw [hb1]; rfl)
    exact this.2
  replace HA := hide (HA.out.below hB1)
  replace HB := hide (HB.out.below hB1)
  have HNA : Hid (0 < n → ∀ ad, A = some ad → some ad.block ≠ some b1) := hide (fun h ad e hh => by
    have := HIA.out h ad e
    injection hh with hh
    omega)
  have HNB : Hid (0 < m → ∀ ad, B = some ad → some ad.block ≠ some b1) := hide (fun h ad e hh => by
    have := HIB.out h ad e
    injection hh with hh
    omega)
  have HB1 := hide hB1
  clear hown1 hg1 hi0 hz0 hz1 hz2 hw2 hw3 hB1 HIA HIB
  refine (ainv_any A n c xs _ HA.out.il HX.out).mono ?_
  rintro e w2 ⟨I, ni, ci, rfl, hi, hb2⟩
  have HO2 := hide (HO1.out.below hb2)
  replace HA := hide (HA.out.below hb2)
  replace HB := hide (HB.out.below hb2)
  replace HB1 := hide (HB1.out.trans (hb2.mono HB1.out.size))
  have HI := hide hi.sl
  have HNI : Hid (0 < ni → ∀ ad, I = some ad → some ad.block ≠ some b1) := hide (fun h ad e hh => by
    obtain ⟨g, rfl, hg, _⟩ := hi.form h
    injection e with e
    subst e
    injection hh with hh
    have : w1.heap.size ≤ b1 := by rw [← hh]; exact hg
    omega)
  have hni : ni = n := by
    have h := hi.len
    rw [← h, ← HLX.out]
    simp [invw]
  have hlt2 : b1 < w2.heap.size := Nat.lt_of_lt_of_le hlt1 hb2.size
  subst hni
  clear hi hb2 HO1 hlt1
  have hal : Below w2.heap.size w2 (w2.alloc (.cells #[.slice A ni c, .slice B m d, .slice I ni ci] 22)) := (Below.refl _ _).alloc (Nat.le_refl _) _
  have hbk := Blk.new w2 22 #[.slice A ni c, .slice B m d, .slice I ni ci]
  go_upto_region 3 with fail
  obtain ⟨lt, hlt⟩ : ∃ l, w2.heap.size = l := ⟨_, rfl⟩
  obtain ⟨w3, hw3⟩ : ∃ x, w2.alloc (.cells #[.slice A ni c, .slice B m d, .slice I ni ci] 22) = x := ⟨_, rfl⟩
  rw [hw3] at hal hbk ⊢
  rw [hlt] at hbk ⊢
  have hlt3 : lt < w3.heap.size := hbk.lt
  have HO3 := hide (HO2.out.below hal)
  replace HB1 := hide (HB1.out.trans (hal.mono HB1.out.size))
  have HLT : Hid (b1 < lt) := hide (by rw [← hlt]; exact hlt2)
  have HR : Hid (∀ k, k < 3 → ∃ D e f, ∀ wr, w3.grownBy wr (some b1) → wr.cell? ⟨lt, k, none⟩ = some (.slice D e f) ∧ IL wr D e ([xs, ys, invw xs].getD k [])) := hide (fun k hk => by
    have hB := fun wr (hg : w3.grownBy wr (some b1)) => hbk.grown hg (by intro h; injection h with h; have := HLT.out; omega)
    match k, hk with
    | 0, _ => exact ⟨_, _, _, fun wr hg => ⟨(hB wr hg).cell 0, (HA.out.il.below hal).keptN hg HNA.out⟩⟩
    | 1, _ => exact ⟨_, _, _, fun wr hg => ⟨(hB wr hg).cell 1, (HB.out.il.below hal).keptN hg HNB.out⟩⟩
    | 2, _ => exact ⟨_, _, _, fun wr hg => ⟨(hB wr hg).cell 2, (HI.out.il.below hal).keptN hg HNI.out⟩⟩)
  have HLE : Hid (∀ k, k < 3 → ([xs, ys, invw xs].getD k []).length ≤ 3000 ∧ smallL ([xs, ys, invw xs].getD k [])) := hide (fun k hk => by
    match k, hk with
    | 0, _ => exact ⟨by show xs.length ≤ 3000; rw [HLX.out]; omega, HX.out⟩
    | 1, _ => exact ⟨by show ys.length ≤ 3000; rw [HLY.out]; omega, HY.out⟩
    | 2, _ => exact ⟨by show (invw xs).length ≤ 3000; rw [HI.out.il.len]; omega, HX.out.inv⟩)
  have HJ : Hid (CJ w3 b1 (some ⟨b1, 0, none⟩) 0 C [] w3) := hide ⟨by have h := HO3.out; rw [hb1] at h; exact h, World.grownBy.refl w3 _, .inl rfl⟩
  have HF : Hid (([xs, ys, invw xs].take 3).flatten.foldl snc [] = conjW xs ys) := hide (by rw [foldl_snc]; unfold conjW; simp)
  have HFL : Hid (∀ k, k < 3 → ([xs, ys, invw xs].take (k + 1)).flatten = ([xs, ys, invw xs].take k).flatten ++ [xs, ys, invw xs].getD k []) := hide (fun k hk => flat3 _ _ _ k hk)
  have HS0 : Hid (smallL ([xs, ys, invw xs].take 0).flatten) := hide (fun x hx => by simp at hx)
  have HL0 : Hid (([xs, ys, invw xs].take 0).flatten = []) := hide (by simp)
  obtain ⟨rows, hrows⟩ : ∃ r, [xs, ys, invw xs] = r := ⟨_, rfl⟩
  rw [hrows] at HR HLE HF HFL HS0 HL0
  clear hrows HO3 HO2 HA HB HI HNA HNB HNI hal hbk hlt hw3 hlt2
  have HBE := hide hb1
  clear hb1
  go_loopw [5, 23] (fun pv iv wr => ∃ (k m2 c2 : Nat) (R : Option Addr), pv = .slice R m2 c2 ∧ iv = .int .i64 k ∧ k ≤ 3 ∧ m2 ≤ k * 3000 ∧ Hid (CJ w3 b1 R m2 c2 ((rows.take k).flatten.foldl snc []) wr) ∧ Hid (smallL (rows.take k).flatten)) (fun _ iv _ => 3 - (intOf iv).toNat)
  case atStart => exact ⟨0, 0, C, _, rfl, rfl, by omega, by omega, by rw [HL0.out]; exact HJ, HS0⟩
  case round =>
    clear HJ HS0 HL0
    obtain ⟨k, m2, c2, R, rfl, rfl, hk, hm2, HC, HS⟩ := hrel
    rename World => wo
    by_cases hlt : k < 3
    · obtain ⟨D, e, f, hRk⟩ := HR.out k hlt
      obtain ⟨hcell, hil⟩ := hRk wo HC.out.grown
      obtain ⟨hr1, hr2⟩ := HLE.out k hlt
      have hel := hil.len
      have hse := hil.small
      have HFK := hide (HFL.out k hlt)
      have HD : Hid (∀ wr, w3.grownBy wr (some b1) → IL wr D e (rows.getD k [])) := hide (fun wr hg => (hRk wr hg).2)
      have HRS := hide hr2
      rw [hel] at hr1
      have HEL := hide hel
      obtain ⟨row, hrow⟩ : ∃ r, rows.getD k [] = r := ⟨_, rfl⟩
      obtain ⟨pre, hpre⟩ : ∃ r, (rows.take k).flatten = r := ⟨_, rfl⟩
      rw [hrow] at HD HRS HEL HFK
      rw [hpre] at HC HS HFK
      clear hil hel hr2 hrow hpre hRk
      have hkd : decide ((k : Int) < 3) = true := decide_eq_true (by omega)
      go_upto_region 6 with fail
      go_loopw [5, 29] (fun pv iv wr => ∃ (j m2 c2 : Nat) (R : Option Addr), pv = .slice R m2 c2 ∧ iv = .int .i64 j ∧ j ≤ e ∧ m2 ≤ k * 3000 + j ∧ Hid (CJ w3 b1 R m2 c2 ((pre ++ row.take j).foldl snc []) wr)) (fun _ iv _ => e - (intOf iv).toNat)
      case atStart => exact ⟨0, m2, c2, R, rfl, rfl, by omega, by omega, by rw [List.take_zero, List.append_nil]; exact HC⟩
      case round =>
        clear HC hcell hm2
        obtain ⟨j, m3, c3, R3, rfl, rfl, hj, hm3, HC⟩ := hrel
        by_cases hlj : j < e
        · obtain ⟨ad, rfl, hcl⟩ := (HD.out wr HC.out.grown).at_ hlj
          have hjl : j < row.length := by rw [HEL.out]; exact hlj
          have HT : Hid ((pre ++ row.take (j + 1)).foldl snc [] = snc ((pre ++ row.take j).foldl snc []) (row.getD j 0)) := hide (by
            rw [List.take_succ_eq_append_getElem hjl, ← List.append_assoc, List.foldl_append (l := pre ++ row.take j), show row.getD j 0 = row[j] by simp [List.getD, List.getElem?_eq_getElem hjl]]
            rfl)
          have hx := HRS.out.getD hjl
          have HSL : Hid (smallL ((pre ++ row.take j).foldl snc [])) := hide (fun y hy => by
            rcases foldl_snc_mem _ _ hy with h | h
            · simp at h
            · rcases List.mem_append.1 h with h | h
              · exact HS.out y h
              · exact HRS.out y (List.mem_of_mem_take h))
          obtain ⟨L, hL⟩ : ∃ L, (pre ++ row.take j).foldl snc [] = L := ⟨_, rfl⟩
          rw [hL] at HC HSL HT
          generalize row.getD j 0 = x at *
          have HRD := hide (ared_any b1 R3 m3 c3 L x wr HC.out.own (by have h1 := HC.out.grown.size; have := HLT.out; omega) HSL.out hx (by omega))
          clear hL hjl
          go_wp2_with fail
          refine HRD.out.mono ?_
          rintro e4 w4 ⟨A2, m4, c4, rfl, hm4, ho4, hg4, hl4⟩
          have HC4 := hide (HC.out.step ho4 hg4 hl4)
          rw [← HT.out] at HC4
          clear ho4 hg4 hl4 HRD HC hcl
          go_wp2_with fail
          go_roundw
          case rel => exact ⟨j + 1, m4, c4, A2, by go_num, by go_num, by omega, by omega, HC4⟩
          case measure => simp [intOf]; omega
        · obtain rfl : j = e := by omega
          have HC4 := hide HC.out
          rw [List.take_of_length_le (by rw [HEL.out]; omega), ← HFK.out] at HC4
          have HS4 : Hid (smallL (rows.take (k + 1)).flatten) := hide (by rw [HFK.out]; exact HS.out.app HRS.out)
          clear HC
          go_wp2_with fail
          go_roundw
          case rel => exact ⟨k + 1, m3, c3, R3, by go_num, by go_num, by omega, by omega, HC4, HS4⟩
          case measure => simp [intOf]; omega
    · obtain rfl : k = 3 := by omega
      have hc := HC.out.own
      rw [HF.out] at hc
      have HE := hide hc
      have HBB : Hid (Below b1 w wo) := hide (by
        have h := HB1.out
        rw [HBE.out] at h
        exact h.grown HC.out.grown (by exact Nat.le_of_lt (by have := HLT.out; omega)) (fun j hj => by injection hj with hj; omega))
      clear hc HC HS
      go_wp2_with fail
      go_ret
      exact ⟨_, _, _, rfl, by rw [HBE.out]; exact HE.out, by rw [HBE.out]; exact HBB.out⟩
end Go.Proofs.Ytoaiblhlpdaeoaa
