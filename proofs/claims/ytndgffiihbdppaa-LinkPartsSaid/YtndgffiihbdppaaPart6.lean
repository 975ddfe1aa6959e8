/- Several texts in one. -/
import Derived.Test.YtndgffiihbdppaaPart5
import Derived.BigRegion
import Derived.Test.YtndgffiihbdppaaPart2
import Derived.Test.YtndgffiihbdppaaBase1
import Derived.Test.YtndgffiihbdppaaPart3
/- Package braid: Permutation. -/
namespace Go.Proofs.Ytndgffiihbdppaa
set_option linter.unusedVariables false
set_option linter.unusedSimpArgs false
open Go.RowKit

/-- The strands at each position, after the letters w. -/
def AtP (n : Nat) (w : List Int) (sl : List Nat) : Prop := sl.length = n ∧ ∀ p, p < n → sl.getD p 0 < n ∧ endE w (sl.getD p 0) = p
theorem AtP.start (n : Nat) : AtP n [] (List.range n) := ⟨by simp, fun p hp => by rw [range_getD hp]; exact ⟨hp, rfl⟩⟩
theorem AtP.isP {n : Nat} {w : List Int} {sl : List Nat} (h : AtP n w sl) : Proofs.Ytndgffiihbdppaa.isP sl := isP_of (fun j hj => by rw [h.1]; exact (h.2 j (by rw [← h.1]; exact hj)).1) (fun i j hi hj he => by
  have h1 := (h.2 i (by rw [← h.1]; exact hi)).2
  have h2 := (h.2 j (by rw [← h.1]; exact hj)).2
  rw [he, h2] at h1
  exact h1.symm)
theorem AtP.inv {n : Nat} {w : List Int} {sl : List Nat} (h : AtP n w sl) : zs (Proofs.Ytndgffiihbdppaa.inv sl) = zs (endsL n w) := by
  refine (inv_unique h.isP (ps := zs (endsL n w)) (by rw [zs_length, endsL_length, h.1]) fun j hj => ?_).symm
  obtain ⟨h1, h2⟩ := h.2 j (by rw [← h.1]; exact hj)
  rw [zs_getD]
  congr 1
  unfold endsL
  rw [getD_map_nat (by rw [List.length_range]; exact h1), range_getD h1, h2]
/-- Two positions exchanged. -/
def swapP (i : Nat) (sl : List Nat) : List Nat := (sl.set (i - 1) (sl.getD i 0)).set i (sl.getD (i - 1) 0)
theorem swapP_zs (i : Nat) (sl : List Nat) : ((zs sl).set (i - 1) ((sl.getD i 0 : Nat) : Int)).set i ((sl.getD (i - 1) 0 : Nat) : Int) = zs (swapP i sl) := by
  unfold swapP zs
  rw [List.map_set, List.map_set]
  rfl
theorem swapP_getD {i n : Nat} {x : Int} (hx : x.natAbs = i) {sl : List Nat} (hl : sl.length = n) (h1 : 1 ≤ i) (h2 : i < n) {p : Nat} (hp : p < n) : (swapP i sl).getD p 0 = sl.getD (stepE p x) 0 := by
  unfold swapP stepE
  rw [hx]
  simp only [List.getD, List.getElem?_set, List.length_set]
  grind
theorem AtP.step {n : Nat} {w : List Int} {sl : List Nat} (h : AtP n w sl) {x : Int} (h0 : x ≠ 0) (h1 : x.natAbs < n) : AtP n (w ++ [x]) (swapP x.natAbs sl) := by
  refine ⟨by unfold swapP; simp [h.1], fun p hp => ?_⟩
  rw [swapP_getD rfl h.1 (by omega) h1 hp]
  have hs := stepE_lt h0 h1 hp
  obtain ⟨h3, h4⟩ := h.2 _ hs
  exact ⟨h3, by rw [endE_snoc, h4, stepE_twice h0]⟩

/-- A slice and an error; without an error the slice is the call's own. -/
def GivesLEo (w : World) (err : Int) (xs : List Int) (e : Ending) (w' : World) : Prop :=
  ∃ A n c, e = .returned (.tuple #[.slice A n c, .int .i64 err]) ∧ SL w' A n c xs ∧ Below w.heap.size w w' ∧ (err = 0 → OwnI w' w.heap.size A n c xs)
set_option maxRecDepth 100000 in
set_option maxHeartbeats 4000000 in
theorem bperm_own (m : Int) (A : Option Addr) (n c : Nat) (xs : List Int) (w : World) (ha : SL w A n c xs) (hm : (Lit.int .i64 m).wf = true) :
    Calls Try.prog 29 #[.int .i64 m, .slice A n c] w (GivesLEo w (bfault m xs) (permE m xs)) := by
  have HC := hide (bcheck_any m A n c xs w ha hm)
  have HL := hide ha.il.len
  have HA := hide ha.il
  have hns := ha.il.small
  clear ha
  obtain ⟨f, hf⟩ : ∃ f, bfault m xs = f := ⟨_, rfl⟩
  have HF := hide hf
  rw [hf] at HC ⊢
  clear hf
  by_cases h0 : f = 0
  case neg =>
    have HV : Hid (permE m xs = []) := hide (by unfold permE; rw [HF.out, if_neg h0])
    have hne : (f != 0) = true := by simpa using h0
    clear h0
    go_enter Try.func29, Try.ntmps29
    go_wp2_with fail
    refine HC.out.mono ?_
    rintro e w1 ⟨rfl, hww⟩
    subst hww
    go_wp2_with fail
    go_ret2
    exact ⟨none, 0, 0, rfl, by rw [HV.out]; exact SL.nil_ _, Below.refl _ _, fun h => absurd h (by simpa using hne)⟩
  subst h0
  have hz := bfault_zero HF.out
  obtain ⟨M, hM⟩ : ∃ M : Nat, m = (M : Int) := ⟨m.toNat, by omega⟩
  subst hM
  have hM1 : 1 ≤ M := by omega
  have hM6 : M ≤ 6 := by omega
  have HV : Hid (permE (M : Int) xs = zs (endsL M xs)) := hide (by unfold permE; rw [HF.out, if_pos rfl, Int.toNat_natCast])
  have hn30 : n ≤ 30 := by have := hz.2.2.1; rw [HL.out] at this; exact this
  have HX : Hid (∀ k, k < n → xs.getD k 0 ≠ 0 ∧ (xs.getD k 0).natAbs < M) := hide (fun k hk => by
    have hlx : k < xs.length := by rw [HL.out]; exact hk
    have := hz.2.2.2 (xs.getD k 0) (by rw [show xs.getD k 0 = xs[k] by simp [List.getD, hlx]]; exact List.getElem_mem _)
    omega)
  clear hz
  obtain ⟨i0, hi0, hz0, hz1, hz2⟩ := info_parts int_info
  go_enter Try.func29, Try.ntmps29
  go_wp2_with fail
  refine HC.out.mono ?_
  rintro e w1 ⟨rfl, hww⟩
  subst hww
  go_wp2_with (at_make; refine wpList_make_full _ rfl _ _ 22 rfl w.heap.size 3 i0 (.int .i64 0) 1 Try.underlying22 hi0 hz0 hz1 .i64 .i64 _ _ M rfl rfl rfl rfl (by rw [hz2]; omega) (by unfold maxLen; omega) (Nat.le_refl _) ?_; intro w2 hown2 hg2)
  have hB2 : Below w.heap.size w w2 := (Below.refl _ _).grown hg2 (Nat.le_refl _) (by intro k hk; cases hk)
  have hw2 := OwnI.zero (z := #[]) hown2 (by omega)
  have HO2 : Hid (OwnI w2 w.heap.size (some ⟨w.heap.size, 0, none⟩) M M (fillN (fun j => (j : Int)) M 0)) := hide (by rw [fillN_zero]; exact hw2)
  have HB2 := hide hB2
  clear hown2 hg2 hw2 hB2
  go_loopw [22] (fun i wr => ∃ k : Nat, k ≤ M ∧ i = .int .i64 k ∧ Hid (OwnI wr w.heap.size (some ⟨w.heap.size, 0, none⟩) M M (fillN (fun j => (j : Int)) M k)) ∧ Hid (Below w.heap.size w wr)) (fun i _ => M - (intOf i).toNat)
  case atStart => exact ⟨0, Nat.zero_le _, rfl, HO2, HB2⟩
  case round =>
    clear HO2 HB2
    obtain ⟨k, hk, rfl, HO, HB⟩ := hrel
    by_cases hlt : k < M
    · have hcell := HO.out.cell hlt
      have hfr := HO.out.frozen k
      have HN := hide (HO.out.set_ k (k : Int))
      rw [fillN_set (fun j => (j : Int)) M k] at HN
      generalize (fillN (fun j => (j : Int)) M k).getD k 0 = z at *
      go_wp2_with fail
      go_roundw
      case rel => exact ⟨k + 1, by omega, by go_num, HN, hide (HB.out.setCell (Nat.le_refl _) _)⟩
      case measure => simp [intOf]; omega
    · have hkn : k = M := by omega
      have HR : Hid (OwnI wr w.heap.size (some ⟨w.heap.size, 0, none⟩) M M (zs (List.range M))) := hide (by
        have h := HO.out
        rw [hkn, fillN_full (xs := zs (List.range M)) (by rw [zs_length, List.length_range]) (fun j hj => by rw [zs_getD, range_getD hj])] at h
        exact h)
      have HP0 : Hid (∃ sl, AtP M (xs.take 0) sl ∧ OwnI wr w.heap.size (some ⟨w.heap.size, 0, none⟩) M M (zs sl)) := hide ⟨_, by rw [List.take_zero]; exact AtP.start M, HR.out⟩
      have HB0 := HB
      rename World => wo
      clear hkn HO HR hk HB
      go_wp2_with fail
      go_loopw [32] (fun i wx => ∃ k : Nat, k ≤ n ∧ i = .int .i64 k ∧ Hid (∃ sl, AtP M (xs.take k) sl ∧ OwnI wx w.heap.size (some ⟨w.heap.size, 0, none⟩) M M (zs sl)) ∧ Hid (Below w.heap.size w wx)) (fun i _ => n - (intOf i).toNat)
      case atStart => exact ⟨0, Nat.zero_le _, rfl, HP0, HB0⟩
      case round =>
        clear HP0 HB0
        obtain ⟨k, hk, rfl, HP, HB⟩ := hrel
        by_cases hlt : k < n
        · obtain ⟨sl, hat, hown⟩ := HP.out
          obtain ⟨ad, rfl, hx⟩ := (HA.out.below HB.out).at_ hlt
          obtain ⟨hx0, hx1⟩ := HX.out k hlt
          have hlx : k < xs.length := by rw [HL.out]; exact hlt
          have HAT : Hid (AtP M (xs.take (k + 1)) (swapP (xs.getD k 0).natAbs sl)) := hide (by
            rw [List.take_succ_eq_append_getElem hlx, ← show xs.getD k 0 = xs[k] by simp [List.getD, hlx]]
            exact hat.step hx0 hx1)
          clear HP hat hlx
          generalize xs.getD k 0 = x at *
          have HG := hide (gen_any x wr (by omega) (by omega))
          obtain ⟨i, hi⟩ : ∃ i, x.natAbs = i := ⟨_, rfl⟩
          rw [hi] at HG HAT hx1
          have hi1 : 1 ≤ i := by omega
          clear hi hx0
          go_wp2_with fail
          refine HG.out.mono ?_
          rintro e w3 ⟨rfl, hww⟩
          subst hww
          obtain ⟨j, rfl⟩ : ∃ j, i = j + 1 := ⟨i - 1, by omega⟩
          have hB2 := HB.out
          have hc1 : wr.cell? ⟨w.heap.size, j + 1, none⟩ = some (.int .i64 (sl.getD (j + 1) 0 : Nat)) := by have := hown.cell (j := j + 1) (by omega); rw [zs_getD] at this; exact this
          have hc0 : wr.cell? ⟨w.heap.size, j, none⟩ = some (.int .i64 (sl.getD j 0 : Nat)) := by have := hown.cell (j := j) (by omega); rw [zs_getD] at this; exact this
          have hf1 := hown.frozen (j + 1)
          have hf0 := hown.frozen j
          have HN := hide ((hown.set_ j ((sl.getD (j + 1) 0 : Nat) : Int)).set_ (j + 1) ((sl.getD j 0 : Nat) : Int))
          have hsz := swapP_zs (j + 1) sl
          rw [Nat.add_sub_cancel] at hsz
          rw [hsz] at HN
          have HBN := hide ((hB2.setCell (p := ⟨w.heap.size, j, none⟩) (Nat.le_refl _) (.int .i64 ((sl.getD (j + 1) 0 : Nat) : Int))).setCell (p := ⟨w.heap.size, j + 1, none⟩) (Nat.le_refl _) (.int .i64 ((sl.getD j 0 : Nat) : Int)))
          clear hsz hown hB2 HB
          generalize ((sl.getD (j + 1) 0 : Nat) : Int) = u at *
          generalize ((sl.getD j 0 : Nat) : Int) = v at *
          have hwj : IntKind.i64.wrap (j : Int) = (j : Int) := by rw [IntKind.wrap_i64]; omega
          have hwj1 : IntKind.i64.wrap ((j : Int) + 1) = (j : Int) + 1 := by rw [IntKind.wrap_i64]; omega
          go_upto_region 14 with fail
          go_region
          go_wp2_with fail
          go_roundw
          case rel => exact ⟨k + 1, by omega, by go_num, hide ⟨_, HAT.out, HN.out.drew⟩, hide HBN.out.drew⟩
          case measure => simp [intOf]; omega
        · have hkn : k = n := by omega
          obtain ⟨sl, hat, hown⟩ := HP.out
          rw [List.take_of_length_le (by rw [HL.out]; omega)] at hat
          have hsl := hat.1
          have HI := hide (inverse_ok (some ⟨w.heap.size, 0, none⟩) M M sl wr hown.il hat.isP (by omega))
          rw [hat.inv, ← HV.out] at HI
          clear hkn HP hat hown
          go_wp2_with fail
          refine HI.out.mono ?_
          rintro e w3 ⟨B, mm, d, rfl, hs, hb⟩
          have HR := hide hs.sl
          have HRO := hide (hs.mono HB.out.size)
          have HBB := hide (HB.out.trans (hb.mono HB.out.size))
          clear hs hb
          go_wp2_with fail
          go_ret2
          exact ⟨_, _, _, rfl, HR.out, HBB.out, fun _ => HRO.out⟩
end Go.Proofs.Ytndgffiihbdppaa
/- Package link: number. -/
namespace Go.Proofs.Ytndgffiihbdppaa
set_option linter.unusedVariables false
set_option linter.unusedSimpArgs false
open Go.RowKit

/-- Numbers of components, how many there are, and an error. -/
def GivesNum (w : World) (f : Int) (K : Nat) (ls : List Int) (e : Ending) (w' : World) : Prop :=
  ∃ A n c, e = .returned (.tuple #[.slice A n c, .int .i64 (K : Int), .int .i64 f]) ∧ OwnI w' w.heap.size A n c ls ∧ Below w.heap.size w w'
theorem next_at {w1 wr : World} {ad : Addr} {M x : Nat} {a : List Nat} (h : IL w1 (some ad) M (zs a)) (hb : Below w1.heap.size w1 wr) (hx : x < M) : wr.cell? (ad.add x) = some (.int .i64 (a.getD x 0 : Nat)) := by
  obtain ⟨ad', e, hc⟩ := (h.below hb).at_ hx
  injection e with e
  subst e
  rw [hc, zs_getD]

set_option maxRecDepth 100000 in
set_option maxHeartbeats 8000000 in
theorem number_no (m : Int) (A : Option Addr) (n c : Nat) (xs : List Int) (w : World) (ha : SL w A n c xs) (hm : (Lit.int .i64 m).wf = true) (h0 : bfault m xs ≠ 0) :
    Calls Try.prog 32 #[.int .i64 m, .slice A n c] w (GivesNum w (bfault m xs) 0 []) := by
  have HC := hide (bperm_own m A n c xs w ha hm)
  obtain ⟨f, hf⟩ : ∃ f, bfault m xs = f := ⟨_, rfl⟩
  rw [hf] at HC h0 ⊢
  have hne : (f != 0) = true := by simpa using h0
  clear ha hm hf h0
  go_enter Try.func32, Try.ntmps32
  go_wp2_with fail
  refine HC.out.mono ?_
  rintro e w1 ⟨P, pn, pc, rfl, _, hb, _⟩
  have HB := hide hb
  clear hb HC
  go_wp2_with fail
  go_ret3
  exact ⟨none, 0, 0, rfl, OwnI.nil_ _ _, HB.out⟩

set_option maxRecDepth 100000 in
set_option maxHeartbeats 8000000 in
theorem number_yes (M : Nat) (A : Option Addr) (n c : Nat) (xs : List Int) (w : World) (ha : SL w A n c xs) (hm : (Lit.int .i64 (M : Int)).wf = true) (h0 : bfault (M : Int) xs = 0) :
    Calls Try.prog 32 #[.int .i64 M, .slice A n c] w (GivesNum w 0 (prtL (endsL M xs)).length (zs ((List.range M).map (lkAt (endsL M xs))))) := by
  have HC := bperm_own (M : Int) A n c xs w ha hm
  obtain ⟨g1, g6, gl, gx⟩ := bfault_zero h0
  have hM1 : 1 ≤ M := by omega
  have hM6 : M ≤ 6 := by omega
  have hok : okB M xs := fun x h => by have := gx x h; omega
  have HPA := hide (ends_isP hok)
  have HAL : Hid ((endsL M xs).length = M) := hide (endsL_length M xs)
  rw [h0, show permE (M : Int) xs = zs (endsL M xs) by unfold permE; rw [if_pos h0, Int.toNat_natCast]] at HC
  replace HC := hide HC
  obtain ⟨a, haa⟩ : ∃ a, endsL M xs = a := ⟨_, rfl⟩
  rw [haa] at HC HPA HAL ⊢
  clear ha hm h0 g1 g6 gl gx hok haa
  obtain ⟨i0, hi0, hz0, hz1, hz2⟩ := info_parts int_info
  go_enter Try.func32, Try.ntmps32
  go_wp2_with fail
  refine HC.out.mono ?_
  rintro e w1 ⟨P, pn, pc, rfl, _, hb, ho⟩
  have HO1 := hide (ho rfl)
  have hpn : M = pn := by have := HO1.out.len; rw [zs_length, HAL.out] at this; exact this
  subst hpn
  have HW1 := hide hb
  have hs1 := hb.size
  obtain ⟨ad, rfl, _⟩ := HO1.out.il.at_ (show 0 < M by omega)
  have HNX := hide HO1.out.il
  clear hb ho HC
  go_wp2_with (at_make; refine wpList_make_full _ rfl _ _ 22 rfl w1.heap.size 3 i0 (.int .i64 0) 1 Try.underlying22 hi0 hz0 hz1 .i64 .i64 _ _ M rfl rfl rfl rfl (by rw [hz2]; omega) (by unfold maxLen; omega) (Nat.le_refl _) ?_; intro w2 hown2 hg2)
  have hB2 : Below w1.heap.size w1 w2 := (Below.refl _ _).grown hg2 (Nat.le_refl _) (by intro k hk; cases hk)
  have hw2 := OwnI.zero (z := #[]) hown2 (by omega)
  obtain ⟨g, hg⟩ : ∃ g, w1.heap.size = g := ⟨_, rfl⟩
  have HO2 : Hid (OwnI w2 g (some ⟨g, 0, none⟩) M M (fillN (fun _ => (-1 : Int)) M 0)) := hide (by rw [fillN_zero, ← hg]; exact hw2)
  rw [hg] at hB2 hs1 ⊢
  have HG := hide hg
  have HB2 := hide hB2
  clear hown2 hg2 hw2 hB2 hi0 hz0 hz1 hz2 hg
  go_loopw [27] (fun i wr => ∃ k : Nat, k ≤ M ∧ i = .int .i64 k ∧ Hid (OwnI wr g (some ⟨g, 0, none⟩) M M (fillN (fun _ => (-1 : Int)) M k)) ∧ Hid (Below g w1 wr)) (fun i _ => M - (intOf i).toNat)
  case atStart => exact ⟨0, Nat.zero_le _, rfl, HO2, HB2⟩
  case round =>
    clear HO2 HB2
    obtain ⟨k, hk, rfl, HO, HB⟩ := hrel
    by_cases hlt : k < M
    · have hcell := HO.out.cell hlt
      have hfr := HO.out.frozen k
      have HN := hide (HO.out.set_ k (-1))
      rw [fillN_set (fun _ => (-1 : Int)) M k] at HN
      generalize (fillN (fun _ => (-1 : Int)) M k).getD k 0 = z at *
      go_wp2_with fail
      go_roundw
      case rel => exact ⟨k + 1, by omega, by go_num, HN, hide (HB.out.setCell (Nat.le_refl _) _)⟩
      case measure => simp [intOf]; omega
    · have hkn : k = M := by omega
      have HO0 : Hid (OwnI wr g (some ⟨g, 0, none⟩) M M (cK a 0 0)) := hide (by
        have h := HO.out
        rw [hkn, fillN_full (xs := cK a 0 0) (by rw [cK_length, HAL.out]) (fun j hj => by rw [cK_start, HAL.out]; simp [List.getD, hj])] at h
        exact h)
      have HB0 := HB
      rename World => wo
      clear hkn HO hk HB
      go_wp2_with fail
      go_loopw [11, 36] (fun cv i wr => ∃ k : Nat, k ≤ M ∧ cv = .int .i64 ((minK a k).length : Nat) ∧ i = .int .i64 k ∧ Hid (OwnI wr g (some ⟨g, 0, none⟩) M M (cK a k 0)) ∧ Hid (Below g w1 wr)) (fun _ i _ => M - (intOf i).toNat)
      case atStart => exact ⟨0, Nat.zero_le _, rfl, rfl, HO0, HB0⟩
      case round =>
        clear HO0 HB0
        obtain ⟨k, hk, rfl, rfl, HO, HB⟩ := hrel
        have hcl := minK_le a k
        by_cases hlt : k < M
        · have hkl : k < a.length := by rw [HAL.out]; exact hlt
          have HKL := hide hkl
          have hcell := HO.out.cell hlt
          rw [cK_getD hkl] at hcell
          simp only [List.take_zero, List.not_mem_nil, or_false] at hcell
          by_cases hr : repS a k < k
          · rw [if_pos hr] at hcell
            have HS := hide (cK_skip HPA.out hkl hr)
            have HE : Hid ((minK a (k + 1)).length = (minK a k).length) := hide (by
              rw [minK_no]
              cases e : isMin a k with
              | false => rfl
              | true => have := (repS_min HPA.out hkl).2 e; omega)
            have hne : (((lkAt a k : Nat) : Int) != -1) = true := by rw [bne_iff_ne]; omega
            clear hr hkl
            generalize ((lkAt a k : Nat) : Int) = v at *
            generalize (minK a k).length = K at *
            go_wp2_with fail
            go_roundw
            case rel => exact ⟨k + 1, by omega, by rw [HE.out], by go_num, by rw [HS.out]; exact HO, HB⟩
            case measure => simp [intOf]; omega
          · have hmin := min_of_rep HPA.out hkl hr
            have HMN := hide hmin
            rw [if_neg hr] at hcell
            have HE : Hid ((minK a (k + 1)).length = (minK a k).length + 1) := hide (by rw [minK_yes hmin, List.length_append]; rfl)
            have hper := per_spec HPA.out hkl
            have HK1 := hide hper.1
            have HAB := hide (cK_back HPA.out hkl hmin)
            have HNE := hide (cK_next HPA.out hkl hmin)
            have HST := hide (fun (t : Nat) (ht : t < perOf a k) => cK_set HPA.out hkl hmin ht)
            have HNO := hide (fun (t : Nat) (ht : t < perOf a k) => cK_none HPA.out hkl hmin ht)
            have HIT := hide (fun t => it_lt HPA.out hkl t)
            clear hper hr hkl hmin
            generalize perOf a k = p at *
            have HI0 : Hid (it a 0 k = k) := hide rfl
            obtain ⟨K, hK⟩ : ∃ K, (minK a k).length = K := ⟨_, rfl⟩
            rw [hK] at HE HST hcl ⊢
            clear hK
            rename World => wp
            go_wp2_with fail
            go_loopg [13] p (fun gh sv wr => ∃ t : Nat, t ≤ p ∧ Hid (gh = p - t) ∧ sv = .int .i64 (it a t k : Nat) ∧ Hid (OwnI wr g (some ⟨g, 0, none⟩) M M (cK a k t)) ∧ Hid (Below g w1 wr))
            case atStart => exact ⟨0, Nat.zero_le _, hide rfl, by rw [HI0.out], HO, HB⟩
            case round =>
              clear HO HB hcell
              obtain ⟨t, ht, HGH, rfl, HO, HB⟩ := hrel
              have hxM : it a t k < M := by have := HIT.out t; rwa [HAL.out] at this
              have hcell := HO.out.cell hxM
              have hfr := HO.out.frozen (it a t k)
              by_cases htp : t < p
              · rw [HNO.out t htp] at hcell
                have HO3 := hide (HO.out.set_ (it a t k) (K : Int))
                rw [HST.out t htp] at HO3
                have HB3 := hide (HB.out.setCell (p := ⟨g, it a t k, none⟩) (Nat.le_refl _) (.int .i64 (K : Int)))
                have hnx := next_at HNX.out (wr := wr.setCell ⟨g, it a t k, none⟩ (.int .i64 (K : Int))) (by rw [HG.out]; exact HB3.out) hxM
                have HSU : Hid (a.getD (it a t k) 0 = it a (t + 1) k) := hide rfl
                rw [HSU.out] at hnx
                obtain ⟨y, hy⟩ : ∃ y, it a (t + 1) k = y := ⟨_, rfl⟩
                have HY := hide hy
                rw [hy] at hnx
                clear hy HO HB HSU
                generalize it a t k = x at *
                go_wp2_with fail
                go_roundg (p - (t + 1))
                case rel => exact ⟨t + 1, by omega, hide rfl, by rw [HY.out], HO3, HB3⟩
                case measure => have := HGH.out; omega
              · have htq : t = p := by omega
                rw [htq] at HO hcell
                rw [htq, HAB.out.1]
                rw [HAB.out.1, HAB.out.2] at hcell
                rw [HNE.out] at HO
                have hne : (((lkAt a k : Nat) : Int) == -1) = false := by rw [beq_eq_false_iff_ne]; omega
                have hkw : IntKind.i64.wrap ((K : Int) + 1) = ((K + 1 : Nat) : Int) := by rw [IntKind.wrap_i64]; omega
                clear htq htp hfr hxM ht
                generalize ((lkAt a k : Nat) : Int) = v at *
                go_wp2_with fail
                go_roundw
                case rel => exact ⟨k + 1, by omega, by rw [HE.out]; first | rfl | (go_num), by go_num, HO, HB⟩
                case measure => simp [intOf]; omega
        · have hkn : k = M := by omega
          have HE : Hid (OwnI wr g (some ⟨g, 0, none⟩) M M (zs ((List.range M).map (lkAt a)))) := hide (by
            have h := HO.out
            have h2 := cK_end HPA.out
            rw [HAL.out] at h2
            rw [hkn, h2] at h
            exact h)
          have HKK : Hid ((minK a k).length = (prtL a).length) := hide (by rw [prt_minK, HAL.out, hkn])
          rw [HKK.out] at *
          go_wp2_with fail
          go_ret3
          exact ⟨_, _, _, rfl, HE.out.mono hs1, HW1.out.trans (HB.out.mono hs1)⟩
end Go.Proofs.Ytndgffiihbdppaa
/- Package link: Components, IsKnot. -/
namespace Go.Proofs.Ytndgffiihbdppaa
set_option linter.unusedVariables false
set_option linter.unusedSimpArgs false
open Go.RowKit

theorem WR.empty {w : World} {base g K c : Nat} (h : OwnV w base (some ⟨g, 0, none⟩) K c (List.replicate K (.slice none 0 0))) : WR w base (some ⟨g, 0, none⟩) K c (List.replicate K (.slice none 0 0)) (List.replicate K []) := by
  refine ⟨h, ⟨by simp [zssW], fun p hp => ?_⟩, fun p p' v v' _ hv _ b hb => ?_⟩
  · rw [List.length_replicate] at hp
    exact ⟨none, 0, 0, by simp [hp], by rw [zssW_getD (by simpa using hp)]; simp [List.getD, hp]; exact OwnI.nil_ _ _⟩
  · rw [List.getElem?_replicate] at hv
    split at hv
    · injection hv with hv
      rw [← hv] at hb
      cases hb
    · cases hv
theorem lkL_bad {m : Int} {xs : List Int} (h : bfault m xs ≠ 0) : lkL m xs = [] := by unfold lkL; rw [if_neg h]
theorem lkL_good {M : Nat} {xs : List Int} (h : bfault (M : Int) xs = 0) : lkL (M : Int) xs = zssW (prtL (endsL M xs)) := by unfold lkL zssW; rw [if_pos h, Int.toNat_natCast]
set_option maxRecDepth 100000 in
set_option maxHeartbeats 8000000 in
theorem components_any (m : Int) (A : Option Addr) (n c : Nat) (xs : List Int) (w : World) (ha : SL w A n c xs) (hm : (Lit.int .i64 m).wf = true) :
    Calls Try.prog 8 #[.int .i64 m, .slice A n c] w (GivesLK w (bfault m xs) (lkL m xs)) := by
  by_cases h0 : bfault m xs = 0
  case neg =>
    have HC := hide (number_no m A n c xs w ha hm h0)
    rw [lkL_bad h0]
    obtain ⟨f, hf⟩ : ∃ f, bfault m xs = f := ⟨_, rfl⟩
    rw [hf] at HC h0 ⊢
    have hne : (f != 0) = true := by simpa using h0
    clear ha hm hf h0
    go_enter Try.func8, Try.ntmps8
    go_wp2_with fail
    refine HC.out.mono ?_
    rintro e w1 ⟨P, pn, pc, rfl, ho, hb⟩
    have HB := hide hb
    clear hb ho HC
    go_wp2_with fail
    go_ret2
    exact ⟨none, 0, 0, rfl, SLL.nil_ _, HB.out⟩
  case pos =>
    obtain ⟨g1, g6, gl, gx⟩ := bfault_zero h0
    obtain ⟨M, rfl⟩ : ∃ M : Nat, m = M := ⟨m.toNat, by omega⟩
    have hM6 : M ≤ 6 := by omega
    have hok : okB M xs := fun x h => by have := gx x h; omega
    have HPA := hide (ends_isP hok)
    have HAL : Hid ((endsL M xs).length = M) := hide (endsL_length M xs)
    have HC := hide (number_yes M A n c xs w ha hm h0)
    rw [lkL_good h0, h0]
    obtain ⟨a, haa⟩ : ∃ a, endsL M xs = a := ⟨_, rfl⟩
    rw [haa] at HC HPA HAL ⊢
    have hK6 : (prtL a).length ≤ 6 := by have := prtL_le a; rw [HAL.out] at this; omega
    obtain ⟨K, hK⟩ : ∃ K, (prtL a).length = K := ⟨_, rfl⟩
    have HK := hide hK
    rw [hK] at HC hK6
    clear ha hm h0 g1 g6 gl gx hok haa hK
    obtain ⟨i0, hi0, hz0, hz1, hz2⟩ := info_parts int_info
    obtain ⟨i1, hj0, hk0, hk1, hk2⟩ := info_parts slice_info
    have HI0 := hide hi0
    have HY0 := hide hz0
    have HY1 := hide hz1
    have HY2 := hide hz2
    clear hi0 hz0 hz1 hz2
    go_enter Try.func8, Try.ntmps8
    go_wp2_with fail
    refine HC.out.mono ?_
    rintro e w1 ⟨P, pn, pc, rfl, ho, hb⟩
    have hpn : M = pn := by have := ho.len; rw [zs_length, List.length_map, List.length_range] at this; exact this
    subst hpn
    have HO1 := hide ho.il
    have HW1 := hide hb
    have hs1 := hb.size
    clear hb ho HC
    go_wp2_with (at_make; refine wpList_make_full _ rfl _ _ 23 rfl w1.heap.size 22 i1 (.slice none 0 0) 1 Try.underlying23 hj0 hk0 hk1 .i64 .i64 _ _ K rfl rfl rfl rfl (by rw [hk2]; omega) (by unfold maxLen; omega) (Nat.le_refl _) ?_; intro w2 hown2 hg2)
    have hB2 : Below w1.heap.size w1 w2 := (Below.refl _ _).grown hg2 (Nat.le_refl _) (by intro k hk; cases hk)
    have ho2 := ownV_zero hown2 (by omega)
    have HR2 := hide (WR.empty ho2)
    obtain ⟨g, hg⟩ : ∃ g, w1.heap.size = g := ⟨_, rfl⟩
    have HG := hide hg
    rw [hg] at HR2 hB2 hs1 ⊢
    have HB2 := hide hB2
    have HR0 : Hid (∃ vs, WR w2 g (some ⟨g, 0, none⟩) K K vs (rwK a 0)) := hide ⟨_, by rw [rwK_start, HK.out]; exact HR2.out⟩
    clear hown2 hg2 ho2 hB2 hg hj0 hk0 hk1 hk2 HR2
    go_loopw [26] (fun i wr => ∃ k : Nat, k ≤ M ∧ i = .int .i64 k ∧ Hid (∃ vs, WR wr g (some ⟨g, 0, none⟩) K K vs (rwK a k)) ∧ Hid (Below g w1 wr)) (fun i _ => M - (intOf i).toNat)
    case atStart => exact ⟨0, Nat.zero_le _, rfl, HR0, HB2⟩
    case round =>
      clear HR0 HB2
      obtain ⟨i, hi, rfl, HR, HB⟩ := hrel
      by_cases hlt : i < M
      · obtain ⟨vs, hwr⟩ := HR.out
        have hil : i < a.length := by rw [HAL.out]; exact hlt
        obtain ⟨ad, rfl, hc⟩ := (HO1.out.below (by rw [HG.out]; exact HB.out)).at_ hlt
        rw [zs_getD, show ((List.range M).map (lkAt a)).getD i 0 = lkAt a i by simp [List.getD, hlt]] at hc
        have hbK : lkAt a i < K := by rw [← HK.out]; exact lkAt_lt HPA.out hil
        have HNW := hide (rwK_put HPA.out hil)
        have hrl : (rwK a i).getD (lkAt a i) [] = (List.range i).filter fun s => decide (lkAt a s = lkAt a i) := rwK_getD (by rw [HK.out]; exact hbK)
        obtain ⟨b, hb⟩ : ∃ b, lkAt a i = b := ⟨_, rfl⟩
        rw [hb] at hc hbK HNW hrl
        obtain ⟨R, m', cc, hvb, hob⟩ := hwr.row hbK
        have hm6 : m' ≤ 1000 := by
          have h1 := hob.len
          rw [zs_length, hrl] at h1
          have h2 : ((List.range i).filter fun s => decide (lkAt a s = b)).length ≤ i := by
            refine Nat.le_trans (List.length_filter_le _ _) ?_
            rw [List.length_range]
            exact Nat.le_refl _
          omega
        obtain ⟨gQ, e, hcQ⟩ := hwr.own.cellAt hbK
        injection e with e
        injection e with e
        subst e
        rw [hvb] at hcQ
        have HVB := hide hvb
        have HOB := hide hob
        have HWR := hide hwr
        have hgs := HB.out.size
        have hgr : g ≤ wr.heap.size := by have := HG.out; omega
        obtain ⟨curQ, BQ⟩ : ∃ cur, Blk wr g 22 cur := by
          rcases hwr.own.own.2 with ⟨e, _⟩ | ⟨g', cap, cur, e, _, hh, _⟩
          · cases e
          · simp only [Value.slice.injEq, Option.some.injEq, Addr.mk.injEq, and_true, true_and] at e
            obtain ⟨rfl, _⟩ := e
            exact ⟨cur, hh⟩
        have HBQ := hide BQ
        have hcQ2 : curQ[b]? = some (.slice R m' cc) := by rw [← BQ.cell b]; exact hcQ
        clear hb hrl hvb hob hwr hil HR BQ
        go_wp2_with (at_builtin; refine wpList_append_int _ rfl (.tmp 36) (.tmp 38) 22 rfl g i0 Try.underlying22 HI0.out HY0.out HY1.out HY2.out R m' cc (zs ((rwK a i).getD b [])) rfl (HOB.out.alloc _) (some ⟨wr.heap.size, 0, none⟩) 1 1 [(i : Int)] rfl (IL.lit wr [(i : Int)] (by simp) rfl rfl) (by omega) (Nat.le_trans hgr (by simp)) ?_; intro R' c' w12 hap; have hrow : (Value.slice R (m' + 1) cc).ownBlock = (Value.slice R m' cc).ownBlock := ownBlock_len R (m' + 1) m' cc cc; have BQ3 := (HBQ.out.alloc (.cells #[.int .i64 i] 3)).grown hap.grown (by rw [hrow]; exact fun e => ownI_ne_ HOB.out HBQ.out (by decide) e); have hcQ3 : w12.cell? ⟨g, b, none⟩ = some (.slice R m' cc) := (BQ3.cell b).trans hcQ2; have hfQ3 := BQ3.frozen b)
        have HW3 := hide (HWR.out.put (i := i) hgr hbK HVB.out HOB.out hap)
        rw [← HNW.out] at HW3
        have HB13 : Hid (Below g w1 (w12.setCell ⟨g, b, none⟩ (.slice R' (m' + 1) c'))) := hide (((HB.out.alloc hgr _).grown hap.grown (Nat.le_trans hgr (by simp)) (fun b' hb' => (HOB.out.lt b' (by rw [← hrow]; exact hb')).1)).setCell (p := ⟨g, b, none⟩) (Nat.le_refl _) _)
        clear hap BQ3 hcQ3 hfQ3 hrow hc hcQ hcQ2
        go_roundw
        case rel => exact ⟨i + 1, by omega, by go_num, hide ⟨_, HW3.out⟩, HB13⟩
        case measure => simp [intOf]; omega
      · have hin : i = M := by omega
        obtain ⟨vs, hwr⟩ := HR.out
        have h2 := rwK_end HPA.out
        rw [HAL.out] at h2
        rw [hin, h2] at hwr
        have HWR := hide hwr
        clear hwr h2 hin HR
        go_wp2_with fail
        go_ret2
        exact ⟨_, _, _, rfl, SLL.of_rows HWR.out.own HWR.out.rows, HW1.out.trans (HB.out.mono hs1)⟩

set_option maxRecDepth 100000 in
set_option maxHeartbeats 4000000 in
theorem isKnot_any (m : Int) (A : Option Addr) (n c : Nat) (xs : List Int) (w : World) (ha : SL w A n c xs) (hm : (Lit.int .i64 m).wf = true) :
    Calls Try.prog 10 #[.int .i64 m, .slice A n c] w fun e w' => e = .returned (.tuple #[.bool (lkK m xs), .int .i64 (bfault m xs)]) ∧ Below w.heap.size w w' := by
  by_cases h0 : bfault m xs = 0
  case neg =>
    have HC := hide (number_no m A n c xs w ha hm h0)
    have HE : Hid (lkK m xs = false) := hide (by unfold lkK; rw [decide_eq_false h0]; rfl)
    rw [HE.out]
    obtain ⟨f, hf⟩ : ∃ f, bfault m xs = f := ⟨_, rfl⟩
    rw [hf] at HC ⊢
    clear ha hm hf h0 HE
    go_enter Try.func10, Try.ntmps10
    go_wp2_with fail
    refine HC.out.mono ?_
    rintro e w1 ⟨P, pn, pc, rfl, ho, hb⟩
    have HB := hide hb
    clear hb ho HC
    go_wp2_with fail
    go_ret2
    exact ⟨rfl, HB.out⟩
  case pos =>
    obtain ⟨g1, g6, gl, gx⟩ := bfault_zero h0
    obtain ⟨M, rfl⟩ : ∃ M : Nat, m = M := ⟨m.toNat, by omega⟩
    have HC := hide (number_yes M A n c xs w ha hm h0)
    rw [lkK_ok h0, h0]
    obtain ⟨K, hK⟩ : ∃ K, (prtL (endsL M xs)).length = K := ⟨_, rfl⟩
    rw [hK] at HC ⊢
    have hKe : ((K : Int) == 1) = decide (K = 1) := by rw [Bool.eq_iff_iff, beq_iff_eq, decide_eq_true_iff]; omega
    clear ha hm h0 g1 g6 gl gx hK
    go_enter Try.func10, Try.ntmps10
    go_wp2_with fail
    refine HC.out.mono ?_
    rintro e w1 ⟨P, pn, pc, rfl, ho, hb⟩
    have HB := hide hb
    clear hb ho HC
    go_wp2_with fail
    go_ret2
    exact ⟨rfl, HB.out⟩
end Go.Proofs.Ytndgffiihbdppaa
