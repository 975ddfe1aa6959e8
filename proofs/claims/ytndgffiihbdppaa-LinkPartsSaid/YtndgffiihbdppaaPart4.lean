/- Several texts in one. -/
import Derived.Test.YtndgffiihbdppaaPart1
import Derived.Test.YtndgffiihbdppaaBase1
import Derived.BigRegion
import Derived.Test.YtndgffiihbdppaaPart2
import Derived.Test.YtndgffiihbdppaaPart3
/- slices.Sort of at most nine integers. -/
namespace Go.Proofs.Ytndgffiihbdppaa
set_option linter.unusedVariables false
set_option linter.unusedSimpArgs false
open Go.RowKit

theorem grownBy_setS {a w : World} {g : Nat} (h : a.grownBy w (some g)) (i : Nat) (u : Value) : a.grownBy (w.setCell ⟨g, i, none⟩ u) (some g) :=
  ⟨h.os, h.tape, h.output, by simpa [World.setCell] using h.size, fun k hk hne => (Below.heap_setCell w ⟨g, i, none⟩ u k (fun e => hne (by rw [e]))).trans (h.block k hk hne)⟩

structure SiSt (w wr : World) (base g n c : Nat) (xs ys : List Int) (i j : Nat) : Prop where
  own : OwnI wr base (some ⟨g, 0, none⟩) n c ys
  grown : w.grownBy wr (some g)
  ins : InsSt xs ys i j
theorem SiSt.drewN {w wr : World} {base g n c i j : Nat} {xs ys : List Int} (h : SiSt w wr base g n c xs ys i j) (k : Nat) : SiSt w (wr.drewN k) base g n c xs ys i j :=
  ⟨h.own.drewN k, ⟨h.grown.os, h.grown.tape, h.grown.output, h.grown.size, h.grown.block⟩, h.ins⟩
theorem SiSt.swap {w wr : World} {base g n c i j : Nat} {xs ys : List Int} {x y : Int} (h : SiSt w wr base g n c xs ys i (j + 1)) (hi : i < n) (hj : j + 1 ≤ i) (hx : ys.getD (j + 1) 0 = x) (hy : ys.getD j 0 = y) (hlt : x < y) :
    SiSt w ((wr.setCell ⟨g, j + 1, none⟩ (.int .i64 y)).setCell ⟨g, j, none⟩ (.int .i64 x)).drew base g n c xs (swp ys j) i j := by
  have hl := h.own.len
  have h1 := (h.own.set_ (j + 1) y).set_ j x
  have e : (ys.set (j + 1) y).set j x = swp ys j := by unfold swp; rw [hx, hy]
  rw [e] at h1
  have hg := grownBy_setS (grownBy_setS h.grown (j + 1) (.int .i64 y)) j (.int .i64 x)
  exact ⟨h1.drew, ⟨hg.os, hg.tape, hg.output, hg.size, hg.block⟩, h.ins.swap (by omega) hj (by rw [hx, hy]; exact hlt)⟩
end Go.Proofs.Ytndgffiihbdppaa
/- LinkSums: sums as loops take them (mathematics), the cells of a matrix of linking numbers. -/
namespace Go.Proofs.Ytndgffiihbdppaa
set_option linter.unusedVariables false
set_option linter.unusedSimpArgs false
open Go.RowKit

theorem lkSum_bd {n : Nat} {a : List Nat} (i k : Nat) : ∀ (w u : List Int), (lkSum n a i k u w).natAbs ≤ 2 * w.length
  | [], u => by simp [lkSum]
  | x :: w, u => by
    have ih := lkSum_bd (n := n) (a := a) i k w (u ++ [x])
    have hs := LP.sign_le x
    show (((if lkAt a (lkS n u (x.natAbs - 1)) = i ∧ lkAt a (lkS n u x.natAbs) = k then x.sign else 0) + (if lkAt a (lkS n u x.natAbs) = i ∧ lkAt a (lkS n u (x.natAbs - 1)) = k then x.sign else 0)) + lkSum n a i k (u ++ [x]) w).natAbs ≤ _
    rw [List.length_cons]
    split <;> split <;> omega
end Go.Proofs.Ytndgffiihbdppaa
/- slices.Index of integers: the first place. -/
namespace Go.Proofs.Ytndgffiihbdppaa
set_option linter.unusedVariables false
set_option linter.unusedSimpArgs false
open Go.RowKit

set_option maxHeartbeats 1000000 in
theorem indexI_some (A : Option Addr) (n c p : Nat) (xs : List Int) (x : Int) (w : World) (ha : IL w A n xs) (hp : p < n) (h1 : xs.getD p 0 = x) (h2 : ∀ j, j < p → xs.getD j 0 ≠ x) :
    Calls Try.prog 46 #[.slice A n c, .int .i64 x] w fun e w' => e = .returned (.int .i64 (p : Nat)) ∧ w = w' := by
  have hna := ha.small
  have HX := hide h1
  have HN := hide h2
  clear h1 h2
  go_enter Try.func46, Try.ntmps46
  go_wp2
  go_loop [8] (fun i => ∃ k : Nat, k ≤ p ∧ i = .int .i64 k) (fun i => n - (intOf i).toNat)
  case atStart => exact ⟨0, Nat.zero_le _, rfl⟩
  case round =>
    obtain ⟨k, hk, rfl⟩ := hrel
    have hlt : k < n := by omega
    obtain ⟨ad, rfl, hca⟩ := ha.at_ hlt
    by_cases he : k = p
    · subst he
      rw [HX.out] at hca
      go_wp2
      go_ret
      exact ⟨rfl, rfl⟩
    · have hb : (x == xs.getD k 0) = false := by
        have : ¬ x = xs.getD k 0 := fun e => HN.out k (by omega) e.symm
        simpa using this
      generalize xs.getD k 0 = y at *
      go_wp2
      go_round
      case rel => exact ⟨k + 1, by omega, by go_num⟩
      case measure => simp [intOf]; omega

end Go.Proofs.Ytndgffiihbdppaa
/- timbref1.Linked. -/
namespace Go.Proofs.Ytndgffiihbdppaa
set_option linter.unusedVariables false
set_option linter.unusedSimpArgs false
open Go.RowKit

theorem ePts2 : ∀ args w, (callFunc 43 args).run Try.prog w = .ok (.enter 43 args) w := enters (fn := Try.f43) (by kernel_rfl) (by kernel_rfl) (by kernel_rfl)
theorem eIdx_ : ∀ args w, (callFunc 47 args).run Try.prog w = .ok (.enter 47 args) w := enters (fn := Try.f47) (by kernel_rfl) (by kernel_rfl) (by kernel_rfl)
theorem tdiv_sign {x : Int} {nx : Nat} (h0 : x ≠ 0) (h : x.natAbs = nx) : x.tdiv (nx : Int) = x.sign := by
  rcases Int.lt_trichotomy x 0 with h1 | h1 | h1
  · have e : x = -(nx : Int) := by omega
    rw [Int.sign_eq_neg_one_of_neg h1, e, Int.neg_tdiv, Int.tdiv_self (by omega)]
  · exact absurd h1 h0
  · have e : x = (nx : Int) := by omega
    rw [Int.sign_eq_one_of_pos h1, e, Int.tdiv_self (by omega)]
/-- What the call yields. -/
def GivesLk (w : World) (l : List (List Int)) (e : Ending) (w' : World) : Prop := ∃ Q q d, e = .returned (.slice Q q d) ∧ ILL w' Q q l ∧ Below w.heap.size w w'
set_option maxRecDepth 100000 in
set_option maxHeartbeats 8000000 in
theorem linked_any (N : Nat) (A : Option Addr) (l c : Nat) (xs : List Int) (w : World) (ha : IL w A l xs) (h1 : 1 ≤ N) (hN : N ≤ 6) (hlc : l ≤ c) (hl30 : l ≤ 30) (hx : okB N xs) (hb0 : bfault (N : Int) xs = 0) :
    Calls Try.prog 14 #[.int .i64 N, .slice A l c] w (GivesLk w (lkM N xs)) := by
  obtain ⟨i0, hi0, hz0, hz1, hz2⟩ := info_parts int_info
  have HI0 := hide hi0
  have HY0 := hide hz0
  have HY1 := hide hz1
  have HY2 := hide hz2
  obtain ⟨i1, hj0, hk0, hk1, hk2⟩ := info_parts slice_info
  have HI1 := hide hj0
  have HZ0 := hide hk0
  have HZ1 := hide hk1
  have HZ2 := hide hk2
  have HA := hide ha
  have HX := hide hx
  have HBF := hide hb0
  have HPA := hide (ends_isP hx)
  have hfid := ePts2
  clear ha hx hi0 hz0 hz1 hz2 hj0 hk0 hk1 hk2 hb0
  go_enter Try.func14, Try.ntmps14
  go_wp2_with fail
  refine (parts_any N A l c xs w HA.out h1 (by omega) HX.out).mono ?_
  rintro e w1 ⟨Q, K, d, rfl, hq, hb⟩
  have HW := hide hb
  have HQ := hide hq
  have hKl : (prtL (endsL N xs)).length = K := by have := hq.len; simpa [zssW] using this
  have hK6 : K ≤ N := by rw [← hKl]; have := prtL_le (endsL N xs); rwa [endsL_length] at this
  have HKL := hide hKl
  clear hb hq hKl
  go_upto_region 2 with fail
  have hb : Below w1.heap.size w1 (w1.alloc (.cells #[.slice Q K d] 23)) := (Below.refl _ _).alloc (Nat.le_refl _) _
  have BP := hide (Blk.new w1 23 #[.slice Q K d])
  replace HQ := hide (HQ.out.below hb)
  replace HW := hide (HW.out.trans (hb.mono HW.out.size))
  obtain ⟨gp, hq⟩ : ∃ q, w1.heap.size = q := ⟨_, rfl⟩
  obtain ⟨w2, hw⟩ : ∃ x, w1.alloc (.cells #[.slice Q K d] 23) = x := ⟨_, rfl⟩
  rw [hw] at BP HW HQ ⊢
  rw [hq] at BP ⊢
  clear hb hq hw
  have hcp := BP.out.cell 0
  simp at hcp
  go_wp2_with (at_make; refine wpList_make_full _ rfl _ _ 23 rfl w2.heap.size 22 i1 (.slice none 0 0) 1 Try.underlying23 HI1.out HZ0.out HZ1.out .i64 .i64 _ _ K rfl rfl rfl rfl (by rw [HZ2.out]; omega) (by unfold maxLen; omega) (Nat.le_refl _) ?_; intro w3 hown3 hg3)
  have hB3 : Below w2.heap.size w2 w3 := (Below.refl _ _).grown hg3 (Nat.le_refl _) (by intro k hk; cases hk)
  have ho3 := ownV_zero hown3 (by omega)
  obtain ⟨gm, hgm⟩ : ∃ g, w2.heap.size = g := ⟨_, rfl⟩
  rw [hgm] at ho3 hB3 ⊢
  have HM := hide (MaI.start (n := K) ho3 (fun _ _ => 0))
  have HCs : Hid (∀ i, i < K → ∃ v, w3.cell? ⟨gm, i, none⟩ = some v) := hide (fun i hi => by
    obtain ⟨g', e, hc⟩ := ho3.cellAt hi
    injection e with e
    injection e with e
    subst e
    exact ⟨_, hc.trans (by rw [List.getElem?_replicate, if_pos hi])⟩)
  have HB := hide hB3
  have HGM := hide hgm
  have hgpm : gp < gm := by have := BP.out.lt; omega
  clear hown3 hg3 hB3 ho3 hgm hcp
  go_wp2_with fail
  go_loopw [25] (fun iv wr => ∃ (k : Nat) (gr : Nat → Nat), iv = .int .i64 k ∧ k ≤ K ∧ Hid (MaI wr gm gm K gr k (fun _ _ => 0)) ∧ Hid (∀ i, i < K → ∃ v, wr.cell? ⟨gm, i, none⟩ = some v) ∧ Hid (Below gm w2 wr)) (fun iv _ => K - (intOf iv).toNat)
  case atStart => exact ⟨0, _, by go_num, Nat.zero_le _, HM, HCs, HB⟩
  case round =>
    clear HM HCs HB
    obtain ⟨k, gr, rfl, hk, HM, HCs, HB⟩ := hrel
    by_cases hlt : k < K
    · obtain ⟨v, hv⟩ := HCs.out k hlt
      obtain ⟨cs9, hcs9⟩ := HM.out.blk
      have HK9 := hide hcs9
      have HV := hide hv
      have hbw : gm ≤ wr.heap.size := by have := HM.out.go_lt; omega
      have hcp := (BP.out.below HB.out hgpm).cell 0
      simp at hcp
      clear hcs9 hv
      go_upto_region 8 with (at_make; refine wpList_make_full _ rfl _ _ 22 rfl wr.heap.size 3 i0 (.int .i64 0) 1 Try.underlying22 HI0.out HY0.out HY1.out .i64 .i64 _ _ K rfl rfl rfl rfl (by rw [HY2.out]; omega) (by unfold maxLen; omega) (Nat.le_refl _) ?_; intro w4 hown4 hg4; have hb4 : Below wr.heap.size wr w4 := (Below.refl _ _).grown hg4 (Nat.le_refl _) (by intro k hk; cases hk); have hv4 := (hb4.cell (p := ⟨gm, k, none⟩) HK9.out.lt).trans HV.out; have hf4 := (HK9.out.below hb4 HK9.out.lt).frozen k)
      have ho4 := OwnI.zero (z := #[]) hown4 (by omega)
      have HM4 := hide (HM.out.push (g := wr.heap.size) hb4 (Nat.le_refl _) (by rw [map_zero]; exact ho4.mono hbw) (ho4.lt _ rfl).2 hbw HV.out)
      have HC4 : Hid (∀ i, i < K → ∃ v, (w4.setCell ⟨gm, k, none⟩ (.slice (some ⟨wr.heap.size, 0, none⟩) K K)).cell? ⟨gm, i, none⟩ = some v) := hide (fun i hi => by
        by_cases e : i = k
        · subst e
          exact ⟨_, World.cell?_setCell_same w4 _ _ hv4⟩
        · rw [World.cell?_setCell_other w4 _ _ _ (by intro h2; simp only [Addr.mk.injEq] at h2; omega)]
          obtain ⟨v', hv'⟩ := HCs.out i hi
          exact ⟨v', (hb4.cell (p := ⟨gm, i, none⟩) HK9.out.lt).trans hv'⟩)
      have HB4 := hide ((HB.out.trans (hb4.mono hbw)).setCell (p := ⟨gm, k, none⟩) (Nat.le_refl _) (.slice (some ⟨wr.heap.size, 0, none⟩) K K))
      clear hown4 hg4 hb4 hv4 hf4 ho4 hcp HM HB HCs HV HK9
      go_wp2_with fail
      go_roundw
      case rel => exact ⟨k + 1, _, by go_num, by omega, HM4, HC4, HB4⟩
      case measure => simp [intOf]; omega
    · have hkK : k = K := by omega
      rw [hkK] at HM
      clear hkK HCs
      rename World => w5
      obtain ⟨a, haa⟩ : ∃ a, endsL N xs = a := ⟨_, rfl⟩
      rw [haa] at HPA HKL HQ
      have HAA := hide haa
      have HAL : Hid (a.length = N) := hide (by rw [← haa, endsL_length])
      have hwg : w.heap.size ≤ gm := by have h1 := HW.out.size; have h2 := HGM.out; omega
      have HXL : Hid (xs.length = l) := hide HA.out.len
      clear haa
      have HM0 : Hid (MaI w5 gm gm K gr K (fun i j => lkSum N a i j [] (xs.take 0))) := HM
      clear HM
      go_wp2_with fail
      go_loopw [37] (fun iv wr => ∃ k : Nat, iv = .int .i64 k ∧ k ≤ l ∧ Hid (MaI wr gm gm K gr K (fun i j => lkSum N a i j [] (xs.take k))) ∧ Hid (Below gm w2 wr)) (fun iv _ => l - (intOf iv).toNat)
      case atStart => exact ⟨0, by go_num, Nat.zero_le _, HM0, HB⟩
      case round =>
        clear HM0 HB
        obtain ⟨k, rfl, hk, HM, HB⟩ := hrel
        have HWr := hide (HW.out.trans (HB.out.mono hwg))
        by_cases hlt : k < l
        · have hab := HA.out.below HWr.out
          obtain ⟨ad, rfl, hc⟩ := hab.at_ hlt
          have hxm : xs.getD k 0 ∈ xs := by
            have hkl : k < xs.length := by rw [HXL.out]; exact hlt
            rw [List.getD, List.getElem?_eq_getElem hkl]
            exact List.getElem_mem hkl
          have hxk := HX.out _ hxm
          obtain ⟨x, hxx⟩ : ∃ x, xs.getD k 0 = x := ⟨_, rfl⟩
          rw [hxx] at hc hxk
          have HTK : Hid (xs.take (k + 1) = xs.take k ++ [x]) := hide (by
            have hkl : k < xs.length := by rw [HXL.out]; exact hlt
            rw [List.take_succ_eq_append_getElem hkl, ← hxx]
            simp [List.getD, List.getElem?_eq_getElem hkl])
          have hokT : okB N (xs.take k) := fun y hy => HX.out y (List.mem_of_mem_take hy)
          have HCE := hide (ends_any N (some ad) k c (xs.take k) wr (hab.pre (Nat.le_of_lt hlt)) (by omega) hokT)
          have HPT := hide (ends_isP hokT)
          have hp1 := lkS_lt hokT (p := x.natAbs - 1) (by omega)
          have hp2 := lkS_lt hokT (p := x.natAbs) hxk.2
          have hg1 : (endsL N (xs.take k)).getD (lkS N (xs.take k) (x.natAbs - 1)) 0 = x.natAbs - 1 := by
            unfold lkS at hp1 ⊢
            have h2 : (endsL N (xs.take k)).idxOf (x.natAbs - 1) < (endsL N (xs.take k)).length := by rw [endsL_length]; exact hp1
            rw [List.getD, List.getElem?_eq_getElem h2, Option.getD_some, List.getElem_idxOf]
          have hg2 : (endsL N (xs.take k)).getD (lkS N (xs.take k) x.natAbs) 0 = x.natAbs := by
            unfold lkS at hp2 ⊢
            have h2 : (endsL N (xs.take k)).idxOf x.natAbs < (endsL N (xs.take k)).length := by rw [endsL_length]; exact hp2
            rw [List.getD, List.getElem?_eq_getElem h2, Option.getD_some, List.getElem_idxOf]
          have hkc : (k : Int) ≤ (c : Int) := by omega
          have hk0 : (0 : Int) ≤ (k : Int) := by omega
          have hkt : ((k : Int)).toNat = k := by omega
          obtain ⟨nx, hnx⟩ : ∃ n, x.natAbs = n := ⟨_, rfl⟩
          obtain ⟨m1, hm1⟩ : ∃ m, nx - 1 = m := ⟨_, rfl⟩
          obtain ⟨p1, hq1⟩ : ∃ p, lkS N (xs.take k) m1 = p := ⟨_, rfl⟩
          obtain ⟨p2, hq2⟩ : ∃ p, lkS N (xs.take k) nx = p := ⟨_, rfl⟩
          rw [hnx, hm1, hq1] at hp1 hg1
          rw [hnx, hq2] at hp2 hg2
          have HIA : Hid (∀ w, Calls Try.prog 47 #[.int .i64 x] w fun e w' => e = .returned (.int .i64 (nx : Int)) ∧ w = w') := hide fun w => by
            have h := index_any_ x w (by omega)
            rwa [hnx] at h
          have hw1 : IntKind.i64.wrap ((nx : Int) - 1) = (m1 : Int) := by rw [IntKind.wrap_i64]; omega
          have hI : ∀ (w : World) (E : Option Addr) (ec p v : Nat), IL w E N (zs (endsL N (xs.take k))) → p < N → (endsL N (xs.take k)).getD p 0 = v → Calls Try.prog 46 #[.slice E N ec, .int .i64 (v : Int)] w fun e w' => e = .returned (.int .i64 (p : Nat)) ∧ w = w' := fun w E ec p v hE hp hg => by
            refine indexI_some E N ec p _ (v : Int) w hE hp (by rw [zs_getD, hg]) fun j hj e => ?_
            rw [zs_getD] at e
            have e2 : (endsL N (xs.take k)).getD j 0 = v := by omega
            have := HPT.out.inj (i := j) (j := p) (by rw [endsL_length]; omega) (by rw [endsL_length]; exact hp) (by rw [e2, hg])
            omega
          have HI1 := hide fun w E ec h => hI w E ec p1 m1 h hp1 hg1
          have HI2 := hide fun w E ec h => hI w E ec p2 nx h hp2 hg2
          have HP1 := hide hp1
          have HP2 := hide hp2
          have HXK := hide hxk
          have HNX := hide hnx
          have HM1 := hide hm1
          have HQ1 := hide hq1
          have HQ2 := hide hq2
          clear hI hg1 hg2 hp1 hp2 hxk hnx hm1 hq1 hq2 HPT hxx
          go_upto_region 12 with fail
          go_wp2_with fail
          refine HCE.out.mono ?_
          rintro e w6 ⟨E, en, ec, rfl, hoe, hb⟩
          have hen : N = en := by have := hoe.len; rw [zs_length, endsL_length] at this; exact this
          subst hen
          have HE := hide hoe.il
          have hgw : gm ≤ wr.heap.size := by have h1 := HB.out.size; have h2 := HGM.out; omega
          replace HB := hide (HB.out.trans (hb.mono hgw))
          replace HM := hide (HM.out.below hb)
          clear hgw hb
          clear hoe HCE hc HWr
          go_wp2_with fail
          refine (HIA.out _).mono ?_
          rintro e w0 ⟨rfl, hww⟩
          subst hww
          go_wp2_with fail
          refine (HI1.out _ _ _ HE.out).mono ?_
          rintro e w0 ⟨rfl, hww⟩
          subst hww
          go_wp2_with fail
          refine (of_any gp p1 K d Q a w6 HPA.out (BP.out.below HB.out hgpm) (HQ.out.below (by rw [HGM.out]; exact HB.out)) (by rw [HAL.out]; exact HP1.out)).mono ?_
          rintro e w7 ⟨rfl, hb⟩
          have hgw : gm ≤ w6.heap.size := by have h1 := HB.out.size; have h2 := HGM.out; omega
          replace HB := hide (HB.out.trans (hb.mono hgw))
          replace HM := hide (HM.out.below hb)
          replace HE := hide (HE.out.below hb)
          clear hgw hb
          go_wp2_with fail
          refine (HIA.out _).mono ?_
          rintro e w0 ⟨rfl, hww⟩
          subst hww
          go_wp2_with fail
          refine (HI2.out _ _ _ HE.out).mono ?_
          rintro e w0 ⟨rfl, hww⟩
          subst hww
          go_wp2_with fail
          refine (of_any gp p2 K d Q a w7 HPA.out (BP.out.below HB.out hgpm) (HQ.out.below (by rw [HGM.out]; exact HB.out)) (by rw [HAL.out]; exact HP2.out)).mono ?_
          rintro e w8 ⟨rfl, hb⟩
          have hgw : gm ≤ w7.heap.size := by have h1 := HB.out.size; have h2 := HGM.out; omega
          replace HB := hide (HB.out.trans (hb.mono hgw))
          replace HM := hide (HM.out.below hb)
          clear hgw hb
          clear HE HI1 HI2 hw1
          obtain ⟨s, hs⟩ : ∃ s, lkAt a p1 = s := ⟨_, rfl⟩
          obtain ⟨t, ht⟩ : ∃ t, lkAt a p2 = t := ⟨_, rfl⟩
          have hsK : s < K := by rw [← hs, ← HKL.out]; exact lkAt_lt HPA.out (by rw [HAL.out]; exact HP1.out)
          have htK : t < K := by rw [← ht, ← HKL.out]; exact lkAt_lt HPA.out (by rw [HAL.out]; exact HP2.out)
          rw [hs, ht]
          have HCC : Hid (∀ i j, lkC1 N a i j (xs.take k) x = (if s = i ∧ t = j then x.sign else 0) + (if t = i ∧ s = j then x.sign else 0)) := hide fun i j => by
            unfold lkC1
            rw [HNX.out, HM1.out, HQ1.out, HQ2.out, hs, ht]
          have hnx0 : (nx : Int) ≠ 0 := by have h1 := HXK.out; have h2 := HNX.out; omega
          have hquo := tdiv_sign HXK.out.1 HNX.out
          have hsg := sign_odd HXK.out.1
          obtain ⟨sg, hsgg⟩ : ∃ y, x.sign = y := ⟨_, rfl⟩
          rw [hsgg] at hquo hsg
          rw [hsgg] at HCC
          have hquo2 : IntKind.i64.wrap (x.tdiv (nx : Int)) = sg := by rw [hquo, IntKind.wrap_i64]; omega
          have hbd := fun i j => lkSum_bd (n := N) (a := a) i j (xs.take k) []
          have hlk : (xs.take k).length ≤ 30 := by rw [List.length_take]; omega
          obtain ⟨V, hV⟩ : ∃ V : Nat → Nat → Int, (fun i j => lkSum N a i j [] (xs.take k)) = V := ⟨_, rfl⟩
          have HV : Hid (∀ i j, lkSum N a i j [] (xs.take (k + 1)) = V i j + ((if s = i ∧ t = j then sg else 0) + (if t = i ∧ s = j then sg else 0))) := hide fun i j => by
            rw [HTK.out, lkSum_snoc, List.nil_append, HCC.out, ← hV]
          have hVb : ∀ i j, -60 ≤ V i j ∧ V i j ≤ 60 := fun i j => by
            have := hbd i j
            rw [← hV]
            show -60 ≤ lkSum N a i j [] (xs.take k) ∧ lkSum N a i j [] (xs.take k) ≤ 60
            omega
          rw [hV] at HM
          clear hs ht hsgg hbd hlk hV HCC HTK HNX HM1 HQ1 HQ2 HP1 HP2 HXK
          go_upto_region 14 with fail
          have ho1 := HM.out.out s hsK
          have hc1 := HM.out.cell hsK htK
          have hvb := hVb s t
          obtain ⟨v, hv⟩ : ∃ y, V s t = y := ⟨_, rfl⟩
          rw [hv] at hc1 hvb
          have hadd1 : IntKind.i64.wrap (v + sg) = v + sg := by rw [IntKind.wrap_i64]; omega
          refine wp_region_T (S := fun w' => w'.cell? ⟨gm, s, none⟩ = some (.slice (some ⟨gr s, 0, none⟩) K K) ∧ w'.cell? ⟨gr s, t, none⟩ = some (.int .i64 v)) 13 (by kernel_rfl) ⟨ho1, hc1⟩ (fun hS => ?_)
          refine wpT_tk 0 (v := .slice (some ⟨gm, 0, none⟩) K K) rfl (by kernel_rfl) (by kernel_rfl) (by kernel_rfl) (by kernel_rfl) (yi rfl fun w' hw' => gives_move (.inl rfl) rfl) hS ?_
          go_frame
          refine wpT_tk 1 (v := .int .i64 (s : Nat)) rfl (by kernel_rfl) (by kernel_rfl) (by kernel_rfl) (by kernel_rfl) (yi rfl fun w' hw' => gives_move (.inl rfl) rfl) hS ?_
          go_frame
          refine wpT_tk 2 (v := .pointer (some ⟨gm, s, none⟩)) rfl (by kernel_rfl) (by kernel_rfl) (by kernel_rfl) (by kernel_rfl) (yi rfl fun w' hw' => gives_indexQ rfl Try.underlying23 (fun _ => by kernel_rfl) rfl rfl hsK) hS ?_
          go_frame
          refine wpT_tk 3 (v := .slice (some ⟨gr s, 0, none⟩) K K) rfl (by kernel_rfl) (by kernel_rfl) (by kernel_rfl) (by kernel_rfl) (yi rfl fun w' hw' => gives_load1 rfl (by kernel_rfl) rfl hw'.1) hS ?_
          go_frame
          refine wpT_tk 4 (v := .int .i64 (t : Nat)) rfl (by kernel_rfl) (by kernel_rfl) (by kernel_rfl) (by kernel_rfl) (yi rfl fun w' hw' => gives_move (.inl rfl) rfl) hS ?_
          go_frame
          refine wpT_tk 5 (v := .pointer (some ⟨gr s, t, none⟩)) rfl (by kernel_rfl) (by kernel_rfl) (by kernel_rfl) (by kernel_rfl) (yi rfl fun w' hw' => gives_indexQ rfl Try.underlying22 (fun _ => by kernel_rfl) rfl rfl htK) hS ?_
          go_frame
          refine wpT_tk 6 (v := .int .i64 v) rfl (by kernel_rfl) (by kernel_rfl) (by kernel_rfl) (by kernel_rfl) (yi rfl fun w' hw' => gives_load1 rfl (by kernel_rfl) rfl hw'.2) hS ?_
          go_frame
          refine wpT_tk 7 (v := .int .i64 x) rfl (by kernel_rfl) (by kernel_rfl) (by kernel_rfl) (by kernel_rfl) (yi rfl fun w' hw' => gives_move (.inl rfl) rfl) hS ?_
          go_frame
          refine wpT_tk 8 (v := .int .i64 x) rfl (by kernel_rfl) (by kernel_rfl) (by kernel_rfl) (by kernel_rfl) (yi rfl fun w' hw' => gives_move (.inl rfl) rfl) hS ?_
          go_frame
          refine wpT_1 9 rfl (by kernel_rfl) ?_
          refine wp_call [.int .i64 x] rfl rfl eIdx_ rfl ((HIA.out _).mono ?_)
          rintro e w0 ⟨rfl, hww⟩
          subst hww
          refine ⟨_, rfl, fun _ => hS, ?_⟩
          go_frame
          refine wpT_tk 10 (v := .int .i64 sg) rfl (by kernel_rfl) (by kernel_rfl) (by kernel_rfl) (by kernel_rfl) (yi rfl fun w' hw' => gives_quo rfl rfl rfl hnx0 hquo2) hS ?_
          go_frame
          refine wpT_tk 11 (v := .int .i64 (v + sg)) rfl (by kernel_rfl) (by kernel_rfl) (by kernel_rfl) (by kernel_rfl) (yi rfl fun w' hw' => gives_add rfl rfl rfl hadd1) hS ?_
          go_frame
          refine wpT_tk 12 (v := .pointer (some ⟨gr s, t, none⟩)) rfl (by kernel_rfl) (by kernel_rfl) (by kernel_rfl) (by kernel_rfl) (yi rfl fun w' hw' => gives_indexQ rfl Try.underlying22 (fun _ => by kernel_rfl) rfl rfl htK) hS ?_
          go_frame
          refine wpT_1 13 rfl (by kernel_rfl) ?_
          refine wp_storeI rfl (by kernel_rfl) (by kernel_rfl) rfl rfl hS.2 (HM.out.frozen hsK t) ?_
          refine ⟨fun h => absurd rfl h, ?_⟩
          go_frame
          refine wpT_done (by kernel_rfl) (noPanic_mk ?_) _
          have hgs : gm ≤ gr s := HM.out.base_le.2 s hsK
          have hgt : gm ≤ gr t := HM.out.base_le.2 t htK
          have hdr : Below w8.heap.size w8 w8.drew := (Below.refl _ _).drew
          have hgw : gm ≤ w8.heap.size := by have h1 := HB.out.size; have h2 := HGM.out; omega
          have HM9 := hide ((HM.out.below hdr).set_ hsK htK (v + sg))
          have HB9 := hide ((HB.out.trans (hdr.mono hgw)).setCell (p := ⟨gr s, t, none⟩) hgs (.int .i64 (v + sg)))
          have HV1 : Hid (∀ i j, (if i = s ∧ j = t then v + sg else V i j) = V i j + (if s = i ∧ t = j then sg else 0)) := hide fun i j => by
            by_cases e : s = i ∧ t = j
            · obtain ⟨rfl, rfl⟩ := e
              rw [if_pos ⟨rfl, rfl⟩, if_pos ⟨rfl, rfl⟩, hv]
            · rw [if_neg (fun h => e ⟨h.1.symm, h.2.symm⟩), if_neg e, Int.add_zero]
          obtain ⟨V1, hV1⟩ : ∃ V1 : Nat → Nat → Int, (fun i j => if i = s ∧ j = t then v + sg else V i j) = V1 := ⟨_, rfl⟩
          rw [hV1] at HM9
          have HW1 : Hid (∀ i j, V1 i j = V i j + (if s = i ∧ t = j then sg else 0)) := hide fun i j => by rw [← hV1]; exact HV1.out i j
          have hvb2 : -61 ≤ V1 t s ∧ V1 t s ≤ 61 := by
            rw [HW1.out]
            have := hVb t s
            split <;> omega
          obtain ⟨v2, hv2⟩ : ∃ y, V1 t s = y := ⟨_, rfl⟩
          rw [hv2] at hvb2
          have hadd2 : IntKind.i64.wrap (v2 + sg) = v2 + sg := by rw [IntKind.wrap_i64]; omega
          clear hS hv HV1 hV1 ho1 hc1 hvb hadd1 hdr hgw hVb HM HB
          obtain ⟨w9, hw9⟩ : ∃ x, w8.drew.setCell ⟨gr s, t, none⟩ (.int .i64 (v + sg)) = x := ⟨_, rfl⟩
          rw [hw9] at HM9 HB9 ⊢
          clear hw9
          go_upto_region 15 with fail
          have ho2 := HM9.out.out t htK
          have hc2 := HM9.out.cell htK hsK
          rw [hv2] at hc2
          refine wp_region_T (S := fun w' => w'.cell? ⟨gm, t, none⟩ = some (.slice (some ⟨gr t, 0, none⟩) K K) ∧ w'.cell? ⟨gr t, s, none⟩ = some (.int .i64 v2)) 13 (by kernel_rfl) ⟨ho2, hc2⟩ (fun hS => ?_)
          refine wpT_tk 0 (v := .slice (some ⟨gm, 0, none⟩) K K) rfl (by kernel_rfl) (by kernel_rfl) (by kernel_rfl) (by kernel_rfl) (yi rfl fun w' hw' => gives_move (.inl rfl) rfl) hS ?_
          go_frame
          refine wpT_tk 1 (v := .int .i64 (t : Nat)) rfl (by kernel_rfl) (by kernel_rfl) (by kernel_rfl) (by kernel_rfl) (yi rfl fun w' hw' => gives_move (.inl rfl) rfl) hS ?_
          go_frame
          refine wpT_tk 2 (v := .pointer (some ⟨gm, t, none⟩)) rfl (by kernel_rfl) (by kernel_rfl) (by kernel_rfl) (by kernel_rfl) (yi rfl fun w' hw' => gives_indexQ rfl Try.underlying23 (fun _ => by kernel_rfl) rfl rfl htK) hS ?_
          go_frame
          refine wpT_tk 3 (v := .slice (some ⟨gr t, 0, none⟩) K K) rfl (by kernel_rfl) (by kernel_rfl) (by kernel_rfl) (by kernel_rfl) (yi rfl fun w' hw' => gives_load1 rfl (by kernel_rfl) rfl hw'.1) hS ?_
          go_frame
          refine wpT_tk 4 (v := .int .i64 (s : Nat)) rfl (by kernel_rfl) (by kernel_rfl) (by kernel_rfl) (by kernel_rfl) (yi rfl fun w' hw' => gives_move (.inl rfl) rfl) hS ?_
          go_frame
          refine wpT_tk 5 (v := .pointer (some ⟨gr t, s, none⟩)) rfl (by kernel_rfl) (by kernel_rfl) (by kernel_rfl) (by kernel_rfl) (yi rfl fun w' hw' => gives_indexQ rfl Try.underlying22 (fun _ => by kernel_rfl) rfl rfl hsK) hS ?_
          go_frame
          refine wpT_tk 6 (v := .int .i64 v2) rfl (by kernel_rfl) (by kernel_rfl) (by kernel_rfl) (by kernel_rfl) (yi rfl fun w' hw' => gives_load1 rfl (by kernel_rfl) rfl hw'.2) hS ?_
          go_frame
          refine wpT_tk 7 (v := .int .i64 x) rfl (by kernel_rfl) (by kernel_rfl) (by kernel_rfl) (by kernel_rfl) (yi rfl fun w' hw' => gives_move (.inl rfl) rfl) hS ?_
          go_frame
          refine wpT_tk 8 (v := .int .i64 x) rfl (by kernel_rfl) (by kernel_rfl) (by kernel_rfl) (by kernel_rfl) (yi rfl fun w' hw' => gives_move (.inl rfl) rfl) hS ?_
          go_frame
          refine wpT_1 9 rfl (by kernel_rfl) ?_
          refine wp_call [.int .i64 x] rfl rfl eIdx_ rfl ((HIA.out _).mono ?_)
          rintro e w0 ⟨rfl, hww⟩
          subst hww
          refine ⟨_, rfl, fun _ => hS, ?_⟩
          go_frame
          refine wpT_tk 10 (v := .int .i64 sg) rfl (by kernel_rfl) (by kernel_rfl) (by kernel_rfl) (by kernel_rfl) (yi rfl fun w' hw' => gives_quo rfl rfl rfl hnx0 hquo2) hS ?_
          go_frame
          refine wpT_tk 11 (v := .int .i64 (v2 + sg)) rfl (by kernel_rfl) (by kernel_rfl) (by kernel_rfl) (by kernel_rfl) (yi rfl fun w' hw' => gives_add rfl rfl rfl hadd2) hS ?_
          go_frame
          refine wpT_tk 12 (v := .pointer (some ⟨gr t, s, none⟩)) rfl (by kernel_rfl) (by kernel_rfl) (by kernel_rfl) (by kernel_rfl) (yi rfl fun w' hw' => gives_indexQ rfl Try.underlying22 (fun _ => by kernel_rfl) rfl rfl hsK) hS ?_
          go_frame
          refine wpT_1 13 rfl (by kernel_rfl) ?_
          refine wp_storeI rfl (by kernel_rfl) (by kernel_rfl) rfl rfl hS.2 (HM9.out.frozen htK s) ?_
          refine ⟨fun h => absurd rfl h, ?_⟩
          go_frame
          refine wpT_done (by kernel_rfl) (noPanic_mk ?_) _
          have hdr : Below w9.heap.size w9 w9.drew := (Below.refl _ _).drew
          have hgw : gm ≤ w9.heap.size := by have h1 := HB9.out.size; have h2 := HGM.out; omega
          have HMX := hide (((HM9.out.below hdr).set_ htK hsK (v2 + sg)).congr (Y := fun i j => lkSum N a i j [] (xs.take (k + 1))) fun i hi j hj => by
            show (if i = t ∧ j = s then v2 + sg else V1 i j) = lkSum N a i j [] (xs.take (k + 1))
            rw [HV.out]
            have h1 := HW1.out i j
            by_cases e : t = i ∧ s = j
            · obtain ⟨rfl, rfl⟩ := e
              rw [if_pos (show t = t ∧ s = s from ⟨rfl, rfl⟩), ← hv2, h1, Int.add_assoc]
              congr 2
              exact (if_pos ⟨rfl, rfl⟩).symm
            · rw [if_neg (fun h => e ⟨h.1.symm, h.2.symm⟩), if_neg e, h1]
              omega)
          have HBX := hide ((HB9.out.trans (hdr.mono hgw)).setCell (p := ⟨gr t, s, none⟩) hgt (.int .i64 (v2 + sg)))
          clear hS hdr hgw HM9 HB9 HV HW1 hv2 ho2 hc2 hadd2 hvb2 hquo hquo2 hsg hnx0 hgs hgt
          go_wp2_with fail
          go_roundw
          case rel => exact ⟨k + 1, by go_num, by omega, HMX, HBX⟩
          case measure => simp [intOf]; omega
        · have HME : Hid (MaI wr gm gm K gr K (fun i j => lkSum N a i j [] xs)) := hide (by
            have h := HM.out
            rwa [List.take_of_length_le (by rw [HXL.out]; omega)] at h)
          clear HM
          rename World => w10
          go_wp2_with fail
          go_loopw [89] (fun iv wr => ∃ k : Nat, iv = .int .i64 k ∧ k ≤ K ∧ Hid (MaI wr gm gm K gr K (fun i j => if i < k then (lkSum N a i j [] xs).tdiv 2 else lkSum N a i j [] xs)) ∧ Hid (Below gm w2 wr)) (fun iv _ => K - (intOf iv).toNat)
          case atStart => exact ⟨0, by go_num, Nat.zero_le _, hide (HME.out.congr fun i _ j _ => (if_neg (Nat.not_lt_zero _)).symm), HB⟩
          case round =>
            clear HME HB
            obtain ⟨i, rfl, hi, HM, HB⟩ := hrel
            by_cases hlt : i < K
            · go_wp2_with fail
              go_loopw [94] (fun iv wr => ∃ j : Nat, iv = .int .i64 j ∧ j ≤ K ∧ Hid (MaI wr gm gm K gr K (fun i' j' => if i' < i ∨ i' = i ∧ j' < j then (lkSum N a i' j' [] xs).tdiv 2 else lkSum N a i' j' [] xs)) ∧ Hid (Below gm w2 wr)) (fun iv _ => K - (intOf iv).toNat)
              case atStart => exact ⟨0, by go_num, Nat.zero_le _, hide (HM.out.congr fun i' _ j' _ => by simp), HB⟩
              case round =>
                clear HM HB
                obtain ⟨j, rfl, hj, HM, HB⟩ := hrel
                by_cases hjt : j < K
                · have ho := HM.out.out i hlt
                  have hc := HM.out.cell hlt hjt
                  rw [if_neg (by omega)] at hc
                  have hbd := lkSum_bd (n := N) (a := a) i j xs []
                  have hxl := HXL.out
                  have hgi := HM.out.base_le.2 i hlt
                  have hfz := HM.out.frozen hlt j
                  obtain ⟨v, hv⟩ : ∃ y, lkSum N a i j [] xs = y := ⟨_, rfl⟩
                  rw [hv] at hc hbd
                  obtain ⟨u, hu⟩ : ∃ u, v.tdiv 2 = u := ⟨_, rfl⟩
                  have hub : -60 ≤ u ∧ u ≤ 60 := by
                    have h1 := Int.natAbs_tdiv_le_natAbs v 2
                    rw [hu] at h1
                    omega
                  have hw : IntKind.i64.wrap u = u := by rw [IntKind.wrap_i64]; omega
                  have HM2 := hide ((HM.out.set_ hlt hjt u).congr (Y := fun i' j' => if i' < i ∨ i' = i ∧ j' < j + 1 then (lkSum N a i' j' [] xs).tdiv 2 else lkSum N a i' j' [] xs) fun i' _ j' _ => by
                    show (if i' = i ∧ j' = j then u else if i' < i ∨ i' = i ∧ j' < j then (lkSum N a i' j' [] xs).tdiv 2 else lkSum N a i' j' [] xs) = _
                    by_cases e : i' = i ∧ j' = j
                    · obtain ⟨rfl, rfl⟩ := e
                      rw [if_pos ⟨rfl, rfl⟩, if_pos (by omega), hv, hu]
                    · rw [if_neg e]
                      by_cases e2 : i' < i ∨ i' = i ∧ j' < j
                      · rw [if_pos e2, if_pos (by omega)]
                      · rw [if_neg e2, if_neg (by omega)])
                  have HB2 := hide (HB.out.setCell (p := ⟨gr i, j, none⟩) hgi (.int .i64 u))
                  clear hbd hv hub HM HB hgi
                  go_wp2_with fail
                  go_roundw
                  case rel => exact ⟨j + 1, by go_num, by omega, HM2, HB2⟩
                  case measure => simp [intOf]; omega
                · have HM3 : Hid (MaI wr gm gm K gr K (fun i' j' => if i' < i + 1 then (lkSum N a i' j' [] xs).tdiv 2 else lkSum N a i' j' [] xs)) := hide (HM.out.congr fun i' _ j' hj' => by
                    show (if i' < i ∨ i' = i ∧ j' < j then _ else _) = if i' < i + 1 then _ else _
                    by_cases e : i' < i + 1
                    · rw [if_pos e, if_pos (by omega)]
                    · rw [if_neg e, if_neg (by omega)])
                  clear HM
                  go_wp2_with fail
                  go_roundw
                  case rel => exact ⟨i + 1, by go_num, by omega, HM3, HB⟩
                  case measure => simp [intOf]; omega
            · have HML := hide (HM.out.congr (Y := fun i' j' => lkE N xs i' j') fun i' hi' j' _ => by
                show (if i' < i then _ else _) = _
                rw [if_pos (by omega)]
                unfold lkE
                rw [HAA.out])
              have HIL : Hid (ILL wr (some ⟨gm, 0, none⟩) K (lkM N xs)) := hide (by
                rw [lkM_eq HBF.out, HAA.out, HKL.out]
                refine ⟨by simp, by omega, fun _ => ⟨_, rfl, HML.out.go_lt, fun j hj => ⟨_, _, _, by rw [Addr.add_mid, Nat.zero_add]; exact HML.out.out j hj, ?_⟩⟩⟩
                rw [show (List.map (fun i => List.map (fun k => lkE N xs i k) (List.range K)) (List.range K)).getD j [] = List.map (fun k => lkE N xs j k) (List.range K) by simp [List.getD, hj]]
                exact (HML.out.row j hj).il)
              have HWE := hide (HW.out.trans (HB.out.mono hwg))
              clear HM HML HB
              go_wp2_with fail
              go_ret
              exact ⟨_, _, _, rfl, HIL.out, HWE.out⟩
end Go.Proofs.Ytndgffiihbdppaa
/- slices.EqualFunc for lists of lists that are the same: timblaw1.lists, timbkeep1.ArtinRelations. -/
namespace Go.Proofs.Ytndgffiihbdppaa
set_option linter.unusedVariables false
set_option linter.unusedSimpArgs false
open Go.RowKit

theorem lists1_any (A B : Option Addr) (n m c d : Nat) (xs ys : List Int) (w : World) (ha : IL w A n xs) (hb : IL w B m ys) :
    Calls Try.prog 35 #[.slice A n c, .slice B m d] w fun e w' => e = .returned (.bool (eqB xs ys)) ∧ Below w.heap.size w w' := by
  have HC := hide (equal_any A B n m c d xs ys w ha hb)
  clear ha hb
  go_enter Try.func35, Try.ntmps35
  go_wp2_with fail
  refine HC.out.mono ?_
  rintro e w1 ⟨rfl, hb1⟩
  go_wp2
  go_ret
  exact ⟨rfl, hb1⟩

set_option maxHeartbeats 1000000 in
theorem equalFunc_yes (A B : Option Addr) (n m c d : Nat) (xss : List (List Int)) (w : World) (ha : ILL w A n xss) (hb : ILL w B m xss) :
    Calls Try.prog 34 #[.slice A n c, .slice B m d, .func (.func 35) #[] #[]] w fun e w' => e = .returned (.bool true) ∧ Below w.heap.size w w' := by
  have hnm : n = m := by rw [← ha.len, ← hb.len]
  subst hnm
  have hsm := ha.small
  go_enter Try.func34, Try.ntmps34
  go_wp2
  go_loopw [17] (fun i wr => ∃ k : Nat, k ≤ n ∧ i = .int .i64 k ∧ Below w.heap.size w wr) (fun i _ => n - (intOf i).toNat)
  case atStart => exact ⟨0, Nat.zero_le _, rfl, Below.refl _ _⟩
  case round =>
    obtain ⟨k, hk, rfl, hnx⟩ := hrel
    have ha' := ha.below hnx
    have hb' := hb.below hnx
    have HA := hide (And.intro ha hb)
    clear ha hb
    by_cases hlt : k < n
    · obtain ⟨ad, B8, m8, d8, rfl, hc8, hi8⟩ := ha'.at_ hlt
      obtain ⟨bd, B9, m9, d9, rfl, hc9, hi9⟩ := hb'.at_ hlt
      have HC := hide (lists1_any B8 B9 m8 m9 d8 d9 _ _ wr hi8 hi9)
      have HE : Hid (eqB (xss.getD k []) (xss.getD k []) = true) := eqB_true rfl
      rw [HE.out] at HC
      clear ha' hb' hi8 hi9
      go_wp2_with fail
      refine HC.out.mono ?_
      rintro e w2 ⟨rfl, hb2⟩
      have hb02 := hnx.trans (hb2.mono hnx.size)
      clear hb2
      go_wp2
      go_roundw
      case rel => exact ⟨k + 1, by omega, by go_num, hb02⟩
      case measure => simp [intOf]; omega
    · go_wp2
      go_ret
      exact ⟨rfl, hnx⟩

set_option maxHeartbeats 1000000 in
theorem lists_yes (A B : Option Addr) (n m c d : Nat) (xss : List (List Int)) (w : World) (ha : ILL w A n xss) (hb : ILL w B m xss) :
    Calls Try.prog 12 #[.slice A n c, .slice B m d] w fun e w' => e = .returned (.bool true) ∧ Below w.heap.size w w' := by
  have HC := hide (equalFunc_yes A B n m c d xss w ha hb)
  clear ha hb
  go_enter Try.func12, Try.ntmps12
  go_wp2_with fail
  refine HC.out.mono ?_
  rintro e w1 ⟨rfl, hb1⟩
  go_wp2
  go_ret
  exact ⟨rfl, hb1⟩
end Go.Proofs.Ytndgffiihbdppaa
