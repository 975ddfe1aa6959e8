/- Several texts in one. -/
import Derived.Test.YtndgffiihbdppaaPart6
import Derived.Test.YtndgffiihbdppaaPart5
import Derived.Test.YtndgffiihbdppaaPart4
import Derived.BigRegion
import Derived.Test.YtndgffiihbdppaaPart1
import Derived.Test.YtndgffiihbdppaaBase1
/- Package link: LinkingNumbers. -/
namespace Go.Proofs.Ytndgffiihbdppaa
set_option linter.unusedVariables false
set_option linter.unusedSimpArgs false
open Go.RowKit

theorem MaI.off {w : World} {base go n k : Nat} {gr : Nat → Nat} {X : Nat → Nat → Int} (h : MaI w base go n gr k X) {b : Nat} (hg : go ≠ b) (hr : ∀ i, i < k → gr i ≠ b) (j : Nat) (v : Value) : MaI (w.setCell ⟨b, j, none⟩ v) base go n gr k X := by
  refine ⟨?_, fun i hi => ?_, fun i hi => ?_, h.ne, h.inj, fun i hi => ?_, h.base_le⟩
  · obtain ⟨cs, hc⟩ := h.blk
    exact ⟨cs, hc.far hg _⟩
  · rw [← h.out i hi]
    exact World.cell?_of_block (w := w) (a := ⟨go, i, none⟩) (Below.heap_setCell w ⟨b, j, none⟩ _ go hg)
  · have ho := h.row i hi
    refine ⟨⟨ho.own.1, ?_⟩, ho.small⟩
    rcases ho.own.2 with h2 | ⟨b', cap, cur, hv, hb, hh, q⟩
    · exact .inl h2
    · have hbg : b' = gr i := by
        injection hv with hv
        injection hv with hv
        injection hv with hv
        exact hv.symm
      exact .inr ⟨b', cap, cur, hv, hb, (Below.heap_setCell w ⟨b, j, none⟩ _ b' (by rw [hbg]; exact hr i hi)).trans hh, q⟩
  · have := h.lt i hi
    simpa [World.setCell] using this
theorem OwnI.off {w : World} {base g n c : Nat} {xs : List Int} (h : OwnI w base (some ⟨g, 0, none⟩) n c xs) {b : Nat} (hg : g ≠ b) (j : Nat) (v : Value) : OwnI (w.setCell ⟨b, j, none⟩ v) base (some ⟨g, 0, none⟩) n c xs := by
  refine ⟨⟨h.own.1, ?_⟩, h.small⟩
  rcases h.own.2 with h2 | ⟨b', cap, cur, hv, hb, hh, q⟩
  · exact .inl h2
  · have hbg : b' = g := by
      injection hv with hv
      injection hv with hv
      injection hv with hv
      exact hv.symm
    exact .inr ⟨b', cap, cur, hv, hb, (Below.heap_setCell w ⟨b, j, none⟩ _ b' (by rw [hbg]; exact hg)).trans hh, q⟩
theorem cmp1_sign (x : Int) : cmp1 x 0 = x.sign := by
  unfold cmp1
  rcases Int.lt_trichotomy x 0 with h | h | h
  · rw [if_pos h, Int.sign_eq_neg_one_of_neg h]
  · subst h; rfl
  · rw [if_neg (by omega), if_pos h, Int.sign_eq_one_of_pos h]
theorem zs_set2 (l : List Nat) (i u v : Nat) : ((zs l).set i (u : Int)).set (i + 1) (v : Int) = zs ((l.set i u).set (i + 1) v) := by
  unfold zs
  rw [List.map_set, List.map_set]
  rfl
theorem lkM_bad {m : Int} {xs : List Int} (h : bfault m xs ≠ 0) : lkM m xs = [] := by unfold lkM; rw [if_neg h]
theorem MaI.sll {w : World} {base go n : Nat} {gr : Nat → Nat} {X : Nat → Nat → Int} (h : MaI w base go n gr n X) (hn : n ≤ 1000) : SLL w (some ⟨go, 0, none⟩) n n ((List.range n).map fun i => (List.range n).map (X i)) := by
  refine ⟨by simp, by omega, fun e => (by cases e), Nat.le_refl _, fun _ => ⟨_, rfl, h.go_lt, fun j hj => ⟨_, _, _, by rw [Addr.add_mid, Nat.zero_add]; exact h.out j hj, ?_⟩⟩⟩
  rw [show (List.map (fun i => List.map (X i) (List.range n)) (List.range n)).getD j [] = List.map (X j) (List.range n) by simp [List.getD, hj]]
  exact (h.row j hj).sl

set_option maxRecDepth 100000 in
set_option maxHeartbeats 8000000 in
theorem linking_any (m : Int) (A : Option Addr) (n c : Nat) (xs : List Int) (w : World) (ha : SL w A n c xs) (hm : (Lit.int .i64 m).wf = true) :
    Calls Try.prog 9 #[.int .i64 m, .slice A n c] w (GivesLK w (bfault m xs) (lkM m xs)) := by
  by_cases h0 : bfault m xs = 0
  case neg =>
    have HC := hide (number_no m A n c xs w ha hm h0)
    rw [lkM_bad h0]
    obtain ⟨f, hf⟩ : ∃ f, bfault m xs = f := ⟨_, rfl⟩
    rw [hf] at HC h0 ⊢
    have hne : (f != 0) = true := by simpa using h0
    clear ha hm hf h0
    go_enter Try.func9, Try.ntmps9
    go_wp2_with fail
    refine HC.out.mono ?_
    rintro e w1 ⟨P, pn, pc, rfl, ho, hb⟩
    have HB := hide hb
    clear hb ho HC
    go_wp2_with fail
    go_ret2
    exact ⟨none, 0, 0, rfl, SLL.nil_ _, HB.out⟩
  case pos =>
    obtain ⟨g1, g6, gl, gx⟩ := bfault_zero h0
    obtain ⟨M, rfl⟩ : ∃ M : Nat, m = M := ⟨m.toNat, by omega⟩
    have hM1 : 1 ≤ M := by omega
    have hM6 : M ≤ 6 := by omega
    have hok : okB M xs := fun x h => by have := gx x h; omega
    have HX := hide hok
    have HPA := hide (ends_isP hok)
    have HAL : Hid ((endsL M xs).length = M) := hide (endsL_length M xs)
    have HC := hide (number_yes M A n c xs w ha hm h0)
    have HLM := hide (lkM_eq h0)
    have HA := hide ha.il
    have HXL : Hid (xs.length = n) := hide ha.il.len
    have hn30 : n ≤ 30 := by have := HXL.out; omega
    rw [HLM.out, h0]
    have HAT : Hid ((List.range M).map (lkAt (endsL M xs)) = atK M (endsL M xs) []) := hide (by have h := atK_start HAL.out; rwa [HAL.out] at h)
    rw [HAT.out] at HC
    have HLE : Hid (∀ i k, lkE M xs i k = (lkSum M (endsL M xs) i k [] xs).tdiv 2) := hide fun i k => rfl
    obtain ⟨a, haa⟩ : ∃ a, endsL M xs = a := ⟨_, rfl⟩
    rw [haa] at HC HPA HAL HLE ⊢
    have hK6 : (prtL a).length ≤ 6 := by have := prtL_le a; rw [HAL.out] at this; omega
    obtain ⟨K, hK⟩ : ∃ K, (prtL a).length = K := ⟨_, rfl⟩
    have HK := hide hK
    rw [hK] at HC hK6 ⊢
    clear ha hm h0 g1 g6 gl gx hok haa hK HLM HAT
    obtain ⟨i0, hi0, hz0, hz1, hz2⟩ := info_parts int_info
    obtain ⟨i1, hj0, hk0, hk1, hk2⟩ := info_parts slice_info
    have HI0 := hide hi0
    have HY0 := hide hz0
    have HY1 := hide hz1
    have HY2 := hide hz2
    clear hi0 hz0 hz1 hz2
    go_enter Try.func9, Try.ntmps9
    go_wp2_with fail
    refine HC.out.mono ?_
    rintro e w1 ⟨P, pn, pc, rfl, ho, hb⟩
    have hpn : M = pn := by have := ho.len; rw [zs_length, atK_length] at this; exact this
    subst hpn
    obtain ⟨gp, rfl, hgp, hgp1⟩ := ho.form (by omega)
    have HO1 := hide ho
    have HW1 := hide hb
    have hs1 := hb.size
    clear hb ho HC
    go_wp2_with (at_make; refine wpList_make_full _ rfl _ _ 23 rfl w1.heap.size 22 i1 (.slice none 0 0) 1 Try.underlying23 hj0 hk0 hk1 .i64 .i64 _ _ K rfl rfl rfl rfl (by rw [hk2]; omega) (by unfold maxLen; omega) (Nat.le_refl _) ?_; intro w3 hown3 hg3)
    have hB3 : Below w1.heap.size w1 w3 := (Below.refl _ _).grown hg3 (Nat.le_refl _) (by intro k hk; cases hk)
    have ho3 := ownV_zero hown3 (by omega)
    obtain ⟨gm, hgm⟩ : ∃ g, w1.heap.size = g := ⟨_, rfl⟩
    rw [hgm] at ho3 hB3 hs1 hgp1 ⊢
    have HM := hide (MaI.start (n := K) ho3 (fun _ _ => 0))
    have HCs : Hid (∀ i, i < K → ∃ v, w3.cell? ⟨gm, i, none⟩ = some v) := hide (fun i hi => by
      obtain ⟨g', e, hc⟩ := ho3.cellAt hi
      injection e with e
      injection e with e
      subst e
      exact ⟨_, hc.trans (by rw [List.getElem?_replicate, if_pos hi])⟩)
    have HB := hide hB3
    have HGM := hide hgm
    clear hown3 hg3 hB3 ho3 hgm hj0 hk0 hk1 hk2
    go_loopw [34] (fun iv wr => ∃ (k : Nat) (gr : Nat → Nat), iv = .int .i64 k ∧ k ≤ K ∧ Hid (MaI wr gm gm K gr k (fun _ _ => 0)) ∧ Hid (∀ i, i < K → ∃ v, wr.cell? ⟨gm, i, none⟩ = some v) ∧ Hid (Below gm w1 wr)) (fun iv _ => K - (intOf iv).toNat)
    case atStart => exact ⟨0, _, by go_num, Nat.zero_le _, HM, HCs, HB⟩
    case round =>
      clear HM HCs HB
      obtain ⟨k, gr, rfl, hk, HM, HCs, HB⟩ := hrel
      by_cases hlt : k < K
      · obtain ⟨v, hv⟩ := HCs.out k hlt
        obtain ⟨cs9, hcs9⟩ := HM.out.blk
        have HK9 := hide hcs9
        have HV := hide hv
        have hbw : gm ≤ wr.heap.size := by have := HM.out.go_lt; omega
        clear hcs9 hv
        go_wp2_with (at_make; refine wpList_make_full _ rfl _ _ 22 rfl wr.heap.size 3 i0 (.int .i64 0) 1 Try.underlying22 HI0.out HY0.out HY1.out .i64 .i64 _ _ K rfl rfl rfl rfl (by rw [HY2.out]; omega) (by unfold maxLen; omega) (Nat.le_refl _) ?_; intro w4 hown4 hg4; have hb4 : Below wr.heap.size wr w4 := (Below.refl _ _).grown hg4 (Nat.le_refl _) (by intro k hk; cases hk); have hv4 := (hb4.cell (p := ⟨gm, k, none⟩) HK9.out.lt).trans HV.out; have hf4 := (HK9.out.below hb4 HK9.out.lt).frozen k)
        have ho4 := OwnI.zero (z := #[]) hown4 (by omega)
        have HM4 := hide (HM.out.push (g := wr.heap.size) hb4 (Nat.le_refl _) (by rw [map_zero]; exact ho4.mono hbw) (ho4.lt _ rfl).2 hbw HV.out)
        have HC4 : Hid (∀ i, i < K → ∃ v, (w4.setCell ⟨gm, k, none⟩ (.slice (some ⟨wr.heap.size, 0, none⟩) K K)).cell? ⟨gm, i, none⟩ = some v) := hide (fun i hi => by
          by_cases e : i = k
          · subst e
            exact ⟨_, World.cell?_setCell_same w4 _ _ hv4⟩
          · rw [World.cell?_setCell_other w4 _ _ _ (by intro h2; simp only [Addr.mk.injEq] at h2; omega)]
            obtain ⟨v', hv'⟩ := HCs.out i hi
            exact ⟨v', (hb4.cell (p := ⟨gm, i, none⟩) HK9.out.lt).trans hv'⟩)
        have HB4 := hide ((HB.out.trans (hb4.mono hbw)).setCell (p := ⟨gm, k, none⟩) (Nat.le_refl _) (.slice (some ⟨wr.heap.size, 0, none⟩) K K))
        clear hown4 hg4 hb4 hv4 hf4 ho4 HM HB HCs HV HK9
        go_roundw
        case rel => exact ⟨k + 1, _, by go_num, by omega, HM4, HC4, HB4⟩
        case measure => simp [intOf]; omega
      · have hkK : k = K := by omega
        rw [hkK] at HM
        have HO := hide (HO1.out.below (by rw [HGM.out]; exact HB.out))
        replace HB := hide (HW1.out.trans (HB.out.mono hs1))
        clear hkK HCs HO1 HW1 HGM
        rename World => w5
        have HM0 : Hid (MaI w5 gm gm K gr K (fun i j => lkSum M a i j [] (xs.take 0))) := HM
        have HO0 : Hid (OwnI w5 w.heap.size (some ⟨gp, 0, none⟩) M pc (zs (atK M a (xs.take 0)))) := HO
        have HNE : Hid (∀ i, i < K → gr i ≠ gp) := hide fun i hi e => by have := HM.out.base_le.2 i hi; omega
        clear HM HO
        go_wp2_with fail
        go_loopw [45] (fun iv wr => ∃ k : Nat, iv = .int .i64 k ∧ k ≤ n ∧ Hid (MaI wr gm gm K gr K (fun i j => lkSum M a i j [] (xs.take k))) ∧ Hid (OwnI wr w.heap.size (some ⟨gp, 0, none⟩) M pc (zs (atK M a (xs.take k)))) ∧ Hid (Below w.heap.size w wr)) (fun iv _ => n - (intOf iv).toNat)
        case atStart => exact ⟨0, by go_num, Nat.zero_le _, HM0, HO0, HB⟩
        case round =>
          clear HM0 HO0 HB
          obtain ⟨k, rfl, hk, HM, HO, HB⟩ := hrel
          by_cases hlt2 : k < n
          · obtain ⟨ad, rfl, hc⟩ := (HA.out.below HB.out).at_ hlt2
            have hxm : xs.getD k 0 ∈ xs := by
              have hkl : k < xs.length := by rw [HXL.out]; exact hlt2
              rw [List.getD, List.getElem?_eq_getElem hkl]
              exact List.getElem_mem hkl
            have hxk := HX.out _ hxm
            obtain ⟨x, hxx⟩ : ∃ x, xs.getD k 0 = x := ⟨_, rfl⟩
            rw [hxx] at hc hxk
            have HTK : Hid (xs.take (k + 1) = xs.take k ++ [x]) := hide (by
              have hkl : k < xs.length := by rw [HXL.out]; exact hlt2
              rw [List.take_succ_eq_append_getElem hkl, ← hxx]
              simp [List.getD, List.getElem?_eq_getElem hkl])
            have hokT : okB M (xs.take k) := fun y hy => HX.out y (List.mem_of_mem_take hy)
            obtain ⟨j, hj⟩ : ∃ j, x.natAbs = j + 1 := ⟨x.natAbs - 1, by omega⟩
            have hjM : j + 1 < M := by omega
            have hps : lkAt a (lkS M (xs.take k) j) < K := by rw [← HK.out]; exact lkAt_lt HPA.out (by rw [HAL.out]; exact lkS_lt hokT (by omega))
            have hpt : lkAt a (lkS M (xs.take k) (j + 1)) < K := by rw [← HK.out]; exact lkAt_lt HPA.out (by rw [HAL.out]; exact lkS_lt hokT hjM)
            have hc0 := HO.out.cell (j := j) (by omega)
            have hc1 := HO.out.cell (j := j + 1) hjM
            rw [zs_getD, atK_getD (by omega)] at hc0
            rw [zs_getD, atK_getD hjM] at hc1
            have HNA := hide (atK_step (a := a) (u := xs.take k) hxk.1 hj hjM)
            rw [← HTK.out, atK_getD hjM, atK_getD (show j < M by omega)] at HNA
            have HCC : Hid (∀ i i', lkSum M a i i' [] (xs.take (k + 1)) = lkSum M a i i' [] (xs.take k) + ((if lkAt a (lkS M (xs.take k) j) = i ∧ lkAt a (lkS M (xs.take k) (j + 1)) = i' then x.sign else 0) + (if lkAt a (lkS M (xs.take k) (j + 1)) = i ∧ lkAt a (lkS M (xs.take k) j) = i' then x.sign else 0))) := hide fun i i' => by
              rw [HTK.out, lkSum_snoc, List.nil_append]
              unfold lkC1
              rw [hj, show j + 1 - 1 = j by omega]
            obtain ⟨s, hs⟩ : ∃ s, lkAt a (lkS M (xs.take k) j) = s := ⟨_, rfl⟩
            obtain ⟨t, ht⟩ : ∃ t, lkAt a (lkS M (xs.take k) (j + 1)) = t := ⟨_, rfl⟩
            rw [hs] at hps hc0 HNA HCC
            rw [ht] at hpt hc1 HNA HCC
            have hsg := sign_odd hxk.1
            have hwx : IntKind.i64.wrap (-x) = -x := by rw [IntKind.wrap_i64]; omega
            have HMX : Hid (max x (-x) = ((j : Int) + 1)) := hide (by omega)
            have HCM := hide (fun w => cmp_any x 0 w)
            rw [cmp1_sign] at HCM
            obtain ⟨sg, hsgg⟩ : ∃ y, x.sign = y := ⟨_, rfl⟩
            rw [hsgg] at hsg HCM HCC
            have hbd := fun i j => lkSum_bd (n := M) (a := a) i j (xs.take k) []
            have hlk : (xs.take k).length ≤ 30 := by rw [List.length_take]; omega
            obtain ⟨V, hV⟩ : ∃ V : Nat → Nat → Int, (fun i j => lkSum M a i j [] (xs.take k)) = V := ⟨_, rfl⟩
            have HV : Hid (∀ i j, lkSum M a i j [] (xs.take (k + 1)) = V i j + ((if s = i ∧ t = j then sg else 0) + (if t = i ∧ s = j then sg else 0))) := hide fun i j => by
              rw [HCC.out, ← hV]
            have hVb : ∀ i j, -60 ≤ V i j ∧ V i j ≤ 60 := fun i j => by
              have := hbd i j
              rw [← hV]
              show -60 ≤ lkSum M a i j [] (xs.take k) ∧ lkSum M a i j [] (xs.take k) ≤ 60
              omega
            rw [hV] at HM
            have HVB := hide hVb
            have hwj : IntKind.i64.wrap (j : Int) = (j : Int) := by rw [IntKind.wrap_i64]; omega
            have hwj1 : IntKind.i64.wrap ((j : Int) + 1) = (j : Int) + 1 := by rw [IntKind.wrap_i64]; omega
            clear hs ht hsgg hbd hlk hV HCC HTK hxx hxm hxk hj hokT hVb
            go_upto_region 14 with ((with_reducible show wpList _ _ _ (Oper.mk _ (.call { callee := .builtin .max, args := _, argTypes := _ }) _ _ _ _ :: _) _ _); refine wpList_gives rfl (gives_maxI rfl rfl rfl HMX.out) ?_)
            go_region
            go_upto_region 15 with fail
            have hwd : Below w.heap.size w wr.drew := HB.out.drew
            replace HM := hide (HM.out.below (show Below wr.heap.size wr wr.drew from (Below.refl _ _).drew))
            replace HO := hide HO.out.drew
            replace HB := hide hwd
            clear hwd hc0 hc1 hc
            generalize wr.drew = w6 at *
            go_wp2_with fail
            refine (HCM.out _).mono ?_
            rintro e w0 ⟨rfl, hww⟩
            subst hww
            go_upto_region 16 with fail
            have ho1 := HM.out.out s hps
            have hc1 := HM.out.cell hps hpt
            have hf1 := HM.out.frozen hps t
            have hvb := HVB.out s t
            obtain ⟨v, hv⟩ : ∃ y, V s t = y := ⟨_, rfl⟩
            rw [hv] at hc1 hvb
            have hadd1 : IntKind.i64.wrap (v + sg) = v + sg := by rw [IntKind.wrap_i64]; omega
            have hgs : gm ≤ gr s := HM.out.base_le.2 s hps
            have hgt : gm ≤ gr t := HM.out.base_le.2 t hpt
            have HM9 := hide (HM.out.set_ hps hpt (v + sg))
            have HO9 := hide (HO.out.off (b := gr s) (fun e => HNE.out s hps e.symm) t (.int .i64 (v + sg)))
            have HB9 := hide (HB.out.setCell (p := ⟨gr s, t, none⟩) (Nat.le_trans hs1 hgs) (.int .i64 (v + sg)))
            clear HM HO HB
            go_upto_region 17 with fail
            clear ho1 hc1 hf1
            have HV1 : Hid (∀ i j, (if i = s ∧ j = t then v + sg else V i j) = V i j + (if s = i ∧ t = j then sg else 0)) := hide fun i j => by
              by_cases e : s = i ∧ t = j
              · obtain ⟨rfl, rfl⟩ := e
                rw [if_pos ⟨rfl, rfl⟩, if_pos ⟨rfl, rfl⟩, hv]
              · rw [if_neg (fun h => e ⟨h.1.symm, h.2.symm⟩), if_neg e, Int.add_zero]
            obtain ⟨V1, hV1⟩ : ∃ V1 : Nat → Nat → Int, (fun i j => if i = s ∧ j = t then v + sg else V i j) = V1 := ⟨_, rfl⟩
            rw [hV1] at HM9
            have HW1 : Hid (∀ i j, V1 i j = V i j + (if s = i ∧ t = j then sg else 0)) := hide fun i j => by rw [← hV1]; exact HV1.out i j
            have hvb2 : -61 ≤ V1 t s ∧ V1 t s ≤ 61 := by
              rw [HW1.out]
              have := HVB.out t s
              split <;> omega
            obtain ⟨v2, hv2⟩ : ∃ y, V1 t s = y := ⟨_, rfl⟩
            rw [hv2] at hvb2
            have hadd2 : IntKind.i64.wrap (v2 + sg) = v2 + sg := by rw [IntKind.wrap_i64]; omega
            clear hv HV1 hV1 hvb hadd1
            generalize w6.setCell ⟨gr s, t, none⟩ (.int .i64 (v + sg)) = w9 at *
            have ho2 := HM9.out.out t hpt
            have hc2 := HM9.out.cell hpt hps
            have hf2 := HM9.out.frozen hpt s
            rw [hv2] at hc2
            have HMX2 := hide ((HM9.out.set_ hpt hps (v2 + sg)).congr (Y := fun i j => lkSum M a i j [] (xs.take (k + 1))) fun i hi j hj => by
              show (if i = t ∧ j = s then v2 + sg else V1 i j) = lkSum M a i j [] (xs.take (k + 1))
              rw [HV.out]
              have h1 := HW1.out i j
              by_cases e : t = i ∧ s = j
              · obtain ⟨rfl, rfl⟩ := e
                rw [if_pos (show t = t ∧ s = s from ⟨rfl, rfl⟩), ← hv2, h1, Int.add_assoc]
                congr 2
                exact (if_pos ⟨rfl, rfl⟩).symm
              · rw [if_neg (fun h => e ⟨h.1.symm, h.2.symm⟩), if_neg e, h1]
                omega)
            have HOX := hide (HO9.out.off (b := gr t) (fun e => HNE.out t hpt e.symm) s (.int .i64 (v2 + sg)))
            have HBX := hide (HB9.out.setCell (p := ⟨gr t, s, none⟩) (Nat.le_trans hs1 hgt) (.int .i64 (v2 + sg)))
            clear HM9 HO9 HB9 HV HW1 hv2 hvb2
            go_upto_region 18 with fail
            clear ho2 hc2 hf2 hadd2
            generalize w9.setCell ⟨gr t, s, none⟩ (.int .i64 (v2 + sg)) = wx at *
            have hcx0 := HOX.out.cell (j := j) (by omega)
            have hcx1 := HOX.out.cell (j := j + 1) hjM
            have hfx0 := HOX.out.frozen j
            have hfx1 := HOX.out.frozen (j + 1)
            have HON := hide ((HOX.out.set_ j (t : Int)).set_ (j + 1) (s : Int))
            rw [zs_set2, HNA.out] at HON
            have HMN := hide ((HMX2.out.off (b := gp) (by omega) HNE.out j (.int .i64 (t : Int))).off (b := gp) (by omega) HNE.out (j + 1) (.int .i64 (s : Int)))
            have HBN := hide ((HBX.out.setCell (p := ⟨gp, j, none⟩) hgp (.int .i64 (t : Int))).setCell (p := ⟨gp, j + 1, none⟩) hgp (.int .i64 (s : Int)))
            clear HOX HMX2 HBX HNA
            generalize (zs (atK M a (xs.take k))).getD j 0 = z0 at *
            generalize (zs (atK M a (xs.take k))).getD (j + 1) 0 = z1 at *
            go_wp2_with fail
            go_roundw
            case rel => exact ⟨k + 1, by go_num, by omega, HMN, HON, HBN⟩
            case measure => simp [intOf]; omega
          · have HME : Hid (MaI wr gm gm K gr K (fun i j => lkSum M a i j [] xs)) := hide (by
              have h := HM.out
              rwa [List.take_of_length_le (by rw [HXL.out]; omega)] at h)
            clear HM HO HNE
            rename World => w10
            go_wp2_with fail
            go_loopw [96] (fun iv wr => ∃ k : Nat, iv = .int .i64 k ∧ k ≤ K ∧ Hid (MaI wr gm gm K gr K (fun i j => if i < k then (lkSum M a i j [] xs).tdiv 2 else lkSum M a i j [] xs)) ∧ Hid (Below w.heap.size w wr)) (fun iv _ => K - (intOf iv).toNat)
            case atStart => exact ⟨0, by go_num, Nat.zero_le _, hide (HME.out.congr fun i _ j _ => (if_neg (Nat.not_lt_zero _)).symm), HB⟩
            case round =>
              clear HME HB
              obtain ⟨i, rfl, hi, HM, HB⟩ := hrel
              by_cases hlt3 : i < K
              · have hoi := HM.out.out i hlt3
                rename World => w11
                go_wp2_with fail
                go_loopw [102] (fun iv wr => ∃ j : Nat, iv = .int .i64 j ∧ j ≤ K ∧ Hid (MaI wr gm gm K gr K (fun i' j' => if i' < i ∨ i' = i ∧ j' < j then (lkSum M a i' j' [] xs).tdiv 2 else lkSum M a i' j' [] xs)) ∧ Hid (Below w.heap.size w wr)) (fun iv _ => K - (intOf iv).toNat)
                case atStart => exact ⟨0, by go_num, Nat.zero_le _, hide (HM.out.congr fun i' _ j' _ => by simp), HB⟩
                case round =>
                  clear HM HB hoi
                  obtain ⟨j, rfl, hj, HM, HB⟩ := hrel
                  by_cases hjt : j < K
                  · have hc := HM.out.cell hlt3 hjt
                    rw [if_neg (by omega)] at hc
                    have hbd := lkSum_bd (n := M) (a := a) i j xs []
                    have hxl := HXL.out
                    have hgi := HM.out.base_le.2 i hlt3
                    have hfz := HM.out.frozen hlt3 j
                    obtain ⟨v, hv⟩ : ∃ y, lkSum M a i j [] xs = y := ⟨_, rfl⟩
                    rw [hv] at hc hbd
                    obtain ⟨u, hu⟩ : ∃ u, v.tdiv 2 = u := ⟨_, rfl⟩
                    have hub : -60 ≤ u ∧ u ≤ 60 := by
                      have h1 := Int.natAbs_tdiv_le_natAbs v 2
                      rw [hu] at h1
                      omega
                    have hw : IntKind.i64.wrap u = u := by rw [IntKind.wrap_i64]; omega
                    have HM2 := hide ((HM.out.set_ hlt3 hjt u).congr (Y := fun i' j' => if i' < i ∨ i' = i ∧ j' < j + 1 then (lkSum M a i' j' [] xs).tdiv 2 else lkSum M a i' j' [] xs) fun i' _ j' _ => by
                      show (if i' = i ∧ j' = j then u else if i' < i ∨ i' = i ∧ j' < j then (lkSum M a i' j' [] xs).tdiv 2 else lkSum M a i' j' [] xs) = _
                      by_cases e : i' = i ∧ j' = j
                      · obtain ⟨rfl, rfl⟩ := e
                        rw [if_pos ⟨rfl, rfl⟩, if_pos (by omega), hv, hu]
                      · rw [if_neg e]
                        by_cases e2 : i' < i ∨ i' = i ∧ j' < j
                        · rw [if_pos e2, if_pos (by omega)]
                        · rw [if_neg e2, if_neg (by omega)])
                    have HB2 := hide (HB.out.setCell (p := ⟨gr i, j, none⟩) (Nat.le_trans hs1 hgi) (.int .i64 u))
                    clear hbd hv hub HM HB hgi hxl
                    go_wp2_with fail
                    go_roundw
                    case rel => exact ⟨j + 1, by go_num, by omega, HM2, HB2⟩
                    case measure => simp [intOf]; omega
                  · have HM3 : Hid (MaI wr gm gm K gr K (fun i' j' => if i' < i + 1 then (lkSum M a i' j' [] xs).tdiv 2 else lkSum M a i' j' [] xs)) := hide (HM.out.congr fun i' _ j' hj' => by
                      show (if i' < i ∨ i' = i ∧ j' < j then _ else _) = if i' < i + 1 then _ else _
                      by_cases e : i' < i + 1
                      · rw [if_pos e, if_pos (by omega)]
                      · rw [if_neg e, if_neg (by omega)])
                    clear HM
                    go_wp2_with fail
                    go_roundw
                    case rel => exact ⟨i + 1, by go_num, by omega, HM3, HB⟩
                    case measure => simp [intOf]; omega
              · have HML := hide (HM.out.congr (Y := fun i' j' => lkE M xs i' j') fun i' hi' j' _ => by
                  show (if i' < i then _ else _) = _
                  rw [if_pos (by omega), HLE.out])
                clear HM
                go_wp2_with fail
                go_ret2
                exact ⟨_, _, _, rfl, HML.out.sll (by omega), HB.out⟩
end Go.Proofs.Ytndgffiihbdppaa
/- Package link keeps its contracts. -/
namespace Go.Proofs.Ytndgffiihbdppaa
set_option linter.unusedVariables false
set_option linter.unusedSimpArgs false

theorem linkC : LinkC where
  parts := components_any -- 8
  link := linking_any -- 9
  knot := isKnot_any -- 10
end Go.Proofs.Ytndgffiihbdppaa
/- Sums, and matrices whose rows are short sums of terms. (Split off XBuP: it needs no function of the program.) -/
namespace Go.Proofs.Ytndgffiihbdppaa
set_option linter.unusedVariables false
set_option linter.unusedSimpArgs false
open Go.RowKit
def sumK (f : Nat → Nat) : Nat → Nat
  | 0 => 0
  | n + 1 => sumK f n + f n
theorem sumK_le {f g : Nat → Nat} : ∀ {n : Nat}, (∀ i, i < n → f i ≤ g i) → sumK f n ≤ sumK g n
  | 0, _ => Nat.le_refl _
  | n + 1, h => Nat.add_le_add (sumK_le fun i hi => h i (by omega)) (h n (by omega))
theorem sumK_mul (c : Nat) (f : Nat → Nat) : ∀ n, sumK (fun i => c * f i) n = c * sumK f n
  | 0 => rfl
  | n + 1 => by
    show sumK (fun i => c * f i) n + c * f n = c * (sumK f n + f n)
    rw [sumK_mul c f n, Nat.mul_add]
theorem sumK_mulr (c : Nat) (f : Nat → Nat) (n : Nat) : sumK (fun i => f i * c) n = sumK f n * c := by
  rw [Nat.mul_comm, ← sumK_mul]
  congr 1
  funext i
  exact Nat.mul_comm _ _
theorem sumK_add (f g : Nat → Nat) : ∀ n, sumK (fun i => f i + g i) n = sumK f n + sumK g n
  | 0 => rfl
  | n + 1 => by
    show sumK (fun i => f i + g i) n + (f n + g n) = sumK f n + f n + (sumK g n + g n)
    rw [sumK_add f g n]; omega
theorem sumK_zero : ∀ n, sumK (fun _ => 0) n = 0
  | 0 => rfl
  | n + 1 => sumK_zero n
theorem sumK_swap (f : Nat → Nat → Nat) (m : Nat) : ∀ n, sumK (fun i => sumK (fun j => f i j) m) n = sumK (fun j => sumK (fun i => f i j) n) m
  | 0 => by
    show 0 = sumK (fun _ => 0) m
    rw [sumK_zero]
  | n + 1 => by
    show sumK (fun i => sumK (fun j => f i j) m) n + sumK (fun j => f n j) m = sumK (fun j => sumK (fun i => f i j) n + f n j) m
    rw [sumK_swap f m n, sumK_add]
theorem sumK_one {f : Nat → Nat} : ∀ {n i : Nat}, i < n → f i ≤ sumK f n
  | n + 1, i, h => by
    show f i ≤ sumK f n + f n
    by_cases e : i = n
    · subst e; omega
    · have := sumK_one (f := f) (n := n) (i := i) (by omega); omega
theorem sumK_mono_ {f : Nat → Nat} : ∀ {n m : Nat}, m ≤ n → sumK f m ≤ sumK f n
  | 0, m, h => by obtain rfl : m = 0 := by omega
                  exact Nat.le_refl _
  | n + 1, m, h => by
    by_cases e : m = n + 1
    · subst e; exact Nat.le_refl _
    · exact Nat.le_trans (sumK_mono_ (show m ≤ n by omega)) (Nat.le_add_right _ _)
theorem LP.N1.sumK {f : Nat → LP} {g : Nat → Nat} {E : Nat} : ∀ {n : Nat}, (∀ i, i < n → LP.N1 (f i) E (g i)) → LP.N1 (CR.sumN n f) E (Proofs.Ytndgffiihbdppaa.sumK g n)
  | 0, _ => LP.N1.zero.mono (Nat.zero_le _) (Nat.zero_le _)
  | n + 1, h => by
    rw [CR.sumN_succ]
    exact (LP.N1.sumK fun i hi => h i (by omega)).add (h n (by omega))
/-- Each row is a short sum of terms. -/
def RN (n : Nat) (A : Mtx LP) (E V : Nat) : Prop := ∃ v : Nat → Nat → Nat, (∀ i, i < n → ∀ j, j < n → LP.N1 (A i j) E (v i j)) ∧ ∀ i, i < n → sumK (v i) n ≤ V
theorem RN.entry {n E V : Nat} {A : Mtx LP} (h : RN n A E V) {i j : Nat} (hi : i < n) (hj : j < n) : LP.N1 (A i j) E V := by
  obtain ⟨v, h1, h2⟩ := h
  exact (h1 i hi j hj).mono (Nat.le_refl _) (Nat.le_trans (sumK_one hj) (h2 i hi))
theorem RN.part {n E V E' V' : Nat} {A B : Mtx LP} (hA : RN n A E V) (hB : RN n B E' V') {i j m : Nat} (hi : i < n) (hj : j < n) (hm : m ≤ n) : LP.N1 (CR.sumN m fun k => A i k * B k j) (E + E') (V * V') := by
  obtain ⟨v, h1, h2⟩ := hA
  have h3 := LP.N1.sumK (n := m) (f := fun k => A i k * B k j) (g := fun k => v i k * V') (E := E + E') (fun k hk => (h1 i hi k (by omega)).mul (hB.entry (by omega) hj))
  refine h3.mono (Nat.le_refl _) ?_
  rw [sumK_mulr]
  refine Nat.mul_le_mul_right _ (Nat.le_trans ?_ (h2 i hi))
  exact sumK_mono_ hm
theorem RN.mul {n E V E' V' : Nat} {A B : Mtx LP} (hA : RN n A E V) (hB : RN n B E' V') : RN n (mulM n A B) (E + E') (V * V') := by
  obtain ⟨v, h1, h2⟩ := hA
  obtain ⟨u, h3, h4⟩ := hB
  refine ⟨fun i j => sumK (fun k => v i k * u k j) n, fun i hi j hj => LP.N1.sumK fun k hk => (h1 i hi k hk).mul (h3 k hk j hj), fun i hi => ?_⟩
  show sumK (fun j => sumK (fun k => v i k * u k j) n) n ≤ V * V'
  rw [sumK_swap]
  have e : sumK (fun k => sumK (fun j => v i k * u k j) n) n ≤ sumK (fun k => v i k * V') n := sumK_le fun k hk => by
    rw [sumK_mul]
    exact Nat.mul_le_mul_left _ (h4 k hk)
  refine Nat.le_trans e ?_
  rw [sumK_mulr]
  exact Nat.mul_le_mul_right _ (h2 i hi)
theorem RN.congr {n E V : Nat} {A B : Mtx LP} (h : RN n A E V) (e : EqM n A B) : RN n B E V := by
  obtain ⟨v, h1, h2⟩ := h
  exact ⟨v, fun i hi j hj => by rw [← e i hi j hj]; exact h1 i hi j hj, h2⟩
theorem RN.mono {n E V E' V' : Nat} {A : Mtx LP} (h : RN n A E V) (h1 : E ≤ E') (h2 : V ≤ V') : RN n A E' V' := by
  obtain ⟨v, h3, h4⟩ := h
  exact ⟨v, fun i hi j hj => (h3 i hi j hj).mono h1 (Nat.le_refl _), fun i hi => Nat.le_trans (h4 i hi) h2⟩
theorem oneM_rn (n : Nat) : RN n (oneM : Mtx LP) 0 1 := by
  refine ⟨fun i j => if j = i then 1 else 0, fun i _ j _ => ?_, fun i hi => ?_⟩
  · show LP.N1 (if i = j then 1 else 0) 0 (if j = i then 1 else 0)
    by_cases h : i = j
    · rw [if_pos h, if_pos h.symm]; exact LP.N1.one
    · rw [if_neg h, if_neg (fun e => h e.symm)]; exact LP.N1.zero
  · have h : ∀ m, sumK (fun j => if j = i then 1 else 0) m = if i < m then 1 else 0 := fun m => by
      induction m with
      | zero => rfl
      | succ m ih =>
        show sumK _ m + (if m = i then 1 else 0) = _
        rw [ih]
        split <;> split <;> split <;> omega
    rw [h, if_pos hi]
    exact Nat.le_refl _
theorem bl_rn (n : Nat) (x : Int) : RN n (bl x) 1 3 := by
  refine ⟨fun i j => if i + 1 = x.natAbs then (if j = i then 2 else if j = i + 1 then 1 else 0) else if i = x.natAbs then (if j + 1 = i then 1 else if j = i then 2 else 0) else if j = i then 1 else 0, fun i _ j _ => ?_, fun i hi => ?_⟩
  · have h1 : LP.N1 (1 + -tT) 1 2 := (LP.N1.one.mono (Nat.zero_le _) (Nat.le_refl _)).add (LP.N1.term 1 1).neg
    have h2 : LP.N1 (1 + -tI) 1 2 := (LP.N1.one.mono (Nat.zero_le _) (Nat.le_refl _)).add (LP.N1.term (-1) 1).neg
    have h3 : LP.N1 (1 : LP) 1 1 := LP.N1.one.mono (Nat.zero_le _) (Nat.le_refl _)
    have h4 : LP.N1 (0 : LP) 1 0 := LP.N1.zero.mono (Nat.zero_le _) (Nat.le_refl _)
    have h5 : LP.N1 tT 1 1 := LP.N1.term 1 1
    have h6 : LP.N1 tI 1 1 := LP.N1.term (-1) 1
    unfold bl
    by_cases a1 : i + 1 = x.natAbs
    · simp only [if_pos a1]
      by_cases a2 : 0 < x
      · simp only [if_pos a2]
        by_cases a3 : j = i
        · simp only [if_pos a3]; exact h1
        · simp only [if_neg a3]
          by_cases a4 : j = i + 1
          · simp only [if_pos a4]; exact h5
          · simp only [if_neg a4]; exact h4
      · simp only [if_neg a2]
        by_cases a4 : j = i + 1
        · simp only [if_pos a4, if_neg (show ¬ j = i by omega)]; exact h3
        · simp only [if_neg a4]; exact h4.mono (Nat.le_refl _) (Nat.zero_le _)
    · simp only [if_neg a1]
      by_cases b1 : i = x.natAbs
      · simp only [if_pos b1]
        by_cases a2 : 0 < x
        · simp only [if_pos a2]
          by_cases a3 : j + 1 = i
          · simp only [if_pos a3]; exact h3
          · simp only [if_neg a3]; exact h4.mono (Nat.le_refl _) (Nat.zero_le _)
        · simp only [if_neg a2]
          by_cases a3 : j + 1 = i
          · simp only [if_pos a3]; exact h6
          · simp only [if_neg a3]
            by_cases a4 : j = i
            · simp only [if_pos a4]; exact h2
            · simp only [if_neg a4]; exact h4
      · simp only [if_neg b1]
        by_cases a4 : i = j
        · simp only [if_pos a4, if_pos a4.symm]; exact h3
        · simp only [if_neg a4, if_neg (show ¬ j = i from fun e => a4 e.symm)]; exact h4
  · have hone : ∀ (a v : Nat) m, sumK (fun j => if j = a then v else 0) m = if a < m then v else 0 := fun a v m => by
      induction m with
      | zero => rfl
      | succ m ih =>
        show sumK _ m + (if m = a then v else 0) = _
        rw [ih]
        split <;> split <;> split <;> omega
    show sumK (fun j => if i + 1 = x.natAbs then (if j = i then 2 else if j = i + 1 then 1 else 0) else if i = x.natAbs then (if j + 1 = i then 1 else if j = i then 2 else 0) else if j = i then 1 else 0) n ≤ 3
    have hle : sumK (fun j => if i + 1 = x.natAbs then (if j = i then 2 else if j = i + 1 then 1 else 0) else if i = x.natAbs then (if j + 1 = i then 1 else if j = i then 2 else 0) else if j = i then 1 else 0) n ≤ sumK (fun j => (if j = i then 2 else 0) + ((if i + 1 = x.natAbs then (if j = i + 1 then 1 else 0) else (if j = i - 1 then 1 else 0)))) n := sumK_le fun j _ => by
      by_cases a1 : i + 1 = x.natAbs
      · simp only [if_pos a1]; split <;> split <;> omega
      · simp only [if_neg a1]
        by_cases b1 : i = x.natAbs
        · simp only [if_pos b1]; split <;> (try split) <;> split <;> omega
        · simp only [if_neg b1]; split <;> split <;> omega
    refine Nat.le_trans hle ?_
    rw [sumK_add, hone]
    by_cases a1 : i + 1 = x.natAbs
    · simp only [if_pos a1]; rw [hone]; split <;> split <;> omega
    · simp only [if_neg a1]; rw [hone]; split <;> split <;> omega
theorem bu_rn {n : Nat} : ∀ w : List Int, RN n (bu n w) w.length (3 ^ w.length)
  | [] => oneM_rn n
  | x :: w => by
    have h := (bl_rn n x).mul (bu_rn w)
    exact h.mono (by rw [List.length_cons]; omega) (by rw [List.length_cons, Nat.pow_succ, Nat.mul_comm]; exact Nat.le_refl _)
end Go.Proofs.Ytndgffiihbdppaa
/- Package braid: poly, block, sumOfProducts. -/
namespace Go.Proofs.Ytndgffiihbdppaa
set_option linter.unusedVariables false
set_option linter.unusedSimpArgs false
open Go.RowKit

set_option maxRecDepth 100000 in
set_option maxHeartbeats 2000000 in
theorem bpoly_any (lo : Int) (A : Option Addr) (n c : Nat) (w : World) : Calls Try.prog 114 #[.int .i64 lo, .slice A n c] w fun e w' => e = .returned (PV lo A n c) ∧ Below w.heap.size w w' := by
  have hb0 : Below w.heap.size w (w.alloc (.cells #[.int .i64 lo, .slice A n c] 36)) := (Below.refl _ _).alloc (Nat.le_refl _) _
  have HB0 := hide hb0
  have HK := hide (Blk.new w 36 #[.int .i64 lo, .slice A n c])
  clear hb0
  go_enter Try.func114, Try.ntmps114
  go_wp2_with fail
  refine bodyPost_ret (results_poly rfl _ rfl HK.out) rfl ?_
  exact ⟨rfl, HB0.out⟩

set_option maxRecDepth 100000 in
set_option maxHeartbeats 4000000 in
theorem sumP_any (F : PolyC) (x y z u : LP) (A : Option Addr) (n c : Nat) (B : Option Addr) (m d : Nat) (C : Option Addr) (l e : Nat) (D : Option Addr) (k f : Nat) (w : World) (ha : SL w A n c (LP.canon x).2) (hb : SL w B m d (LP.canon y).2) (hc : SL w C l e (LP.canon z).2) (hd : SL w D k f (LP.canon u).2)
    (rx : LP.Rt x) (ry : LP.Rt y) (rz : LP.Rt z) (ru : LP.Rt u) (rxy : LP.Rt (x * y)) (rzu : LP.Rt (z * u)) (rs : LP.Rt (x * y + z * u)) :
    Calls Try.prog 116 #[PV (LP.canon x).1 A n c, PV (LP.canon y).1 B m d, PV (LP.canon z).1 C l e, PV (LP.canon u).1 D k f] w (GivesP w (LP.canon (x * y + z * u)).1 (LP.canon (x * y + z * u)).2) := by
  have HM1 := hide (fun (w' : World) (h1 : SL w' A n c (LP.canon x).2) (h2 : SL w' B m d (LP.canon y).2) => F.mul (LP.canon x).1 A n c _ (LP.canon y).1 B m d _ w' h1 h2 rx.wf ry.wf)
  have HM2 := hide (fun (w' : World) (h1 : SL w' C l e (LP.canon z).2) (h2 : SL w' D k f (LP.canon u).2) => F.mul (LP.canon z).1 C l e _ (LP.canon u).1 D k f _ w' h1 h2 rz.wf ru.wf)
  have HA3 := hide (fun (w' : World) (P Q : Option Addr) (pn pc qn qc : Nat) (h1 : SL w' P pn pc (LP.canon (x * y)).2) (h2 : SL w' Q qn qc (LP.canon (z * u)).2) => F.add (LP.canon (x * y)).1 P pn pc _ (LP.canon (z * u)).1 Q qn qc _ w' h1 h2 rxy.wf rzu.wf)
  rw [LP.mulR_canon rx ry rxy] at HM1
  rw [LP.mulR_canon rz ru rzu] at HM2
  rw [LP.addR_canon rxy rzu rs] at HA3
  clear F rx ry rz ru rxy rzu rs
  generalize (LP.canon (x * y + z * u)).1 = ls at *
  generalize (LP.canon (x * y + z * u)).2 = cs at *
  generalize (LP.canon (x * y)).1 = lp at *
  generalize (LP.canon (x * y)).2 = cp at *
  generalize (LP.canon (z * u)).1 = lq at *
  generalize (LP.canon (z * u)).2 = cq at *
  generalize (LP.canon x).1 = lx at *
  generalize (LP.canon x).2 = cx at *
  generalize (LP.canon y).1 = ly at *
  generalize (LP.canon y).2 = cy at *
  generalize (LP.canon z).1 = lz at *
  generalize (LP.canon z).2 = cz at *
  generalize (LP.canon u).1 = lu at *
  generalize (LP.canon u).2 = cu at *
  obtain ⟨W0, hW0⟩ : ∃ W, ((((w.alloc (.cells #[.int .i64 lx, .slice A n c] 36)).alloc (.cells #[.int .i64 ly, .slice B m d] 36)).alloc (.cells #[.int .i64 lz, .slice C l e] 36)).alloc (.cells #[.int .i64 lu, .slice D k f] 36)).alloc (.cells #[.int .i64 0, .slice none 0 0] 36) = W := ⟨_, rfl⟩
  have hs0 : W0.heap.size = w.heap.size + 5 := by rw [← hW0]; simp
  have hb0 : Below w.heap.size w W0 := by
    rw [← hW0]
    exact (((((Below.refl _ _).alloc (Nat.le_refl _) _).alloc (by simp) _).alloc (by simp; omega) _).alloc (by simp; omega) _).alloc (by simp; omega) _
  have B1 : Blk W0 w.heap.size 36 #[.int .i64 lx, .slice A n c] := by rw [← hW0]; exact (((Blk.new w _ _).alloc _).alloc _).alloc _ |>.alloc _
  have B2 : Blk W0 (w.heap.size + 1) 36 #[.int .i64 ly, .slice B m d] := by
    rw [← hW0]
    have h := ((Blk.new (w.alloc (.cells #[.int .i64 lx, .slice A n c] 36)) 36 #[.int .i64 ly, .slice B m d]).alloc (.cells #[.int .i64 lz, .slice C l e] 36)).alloc (.cells #[.int .i64 lu, .slice D k f] 36) |>.alloc (.cells #[.int .i64 0, .slice none 0 0] 36)
    simpa using h
  have B3 : Blk W0 (w.heap.size + 1 + 1) 36 #[.int .i64 lz, .slice C l e] := by
    rw [← hW0]
    have h := (Blk.new ((w.alloc (.cells #[.int .i64 lx, .slice A n c] 36)).alloc (.cells #[.int .i64 ly, .slice B m d] 36)) 36 #[.int .i64 lz, .slice C l e]).alloc (.cells #[.int .i64 lu, .slice D k f] 36) |>.alloc (.cells #[.int .i64 0, .slice none 0 0] 36)
    simpa using h
  have B4 : Blk W0 (w.heap.size + 1 + 1 + 1) 36 #[.int .i64 lu, .slice D k f] := by
    rw [← hW0]
    have h := (Blk.new (((w.alloc (.cells #[.int .i64 lx, .slice A n c] 36)).alloc (.cells #[.int .i64 ly, .slice B m d] 36)).alloc (.cells #[.int .i64 lz, .slice C l e] 36)) 36 #[.int .i64 lu, .slice D k f]).alloc (.cells #[.int .i64 0, .slice none 0 0] 36)
    simpa using h
  have B5 : Blk W0 (w.heap.size + 1 + 1 + 1 + 1) 36 #[.int .i64 0, .slice none 0 0] := by
    rw [← hW0]
    have h := Blk.new ((((w.alloc (.cells #[.int .i64 lx, .slice A n c] 36)).alloc (.cells #[.int .i64 ly, .slice B m d] 36)).alloc (.cells #[.int .i64 lz, .slice C l e] 36)).alloc (.cells #[.int .i64 lu, .slice D k f] 36)) 36 #[.int .i64 0, .slice none 0 0]
    simpa using h
  have HS1 := hide (ha.below hb0)
  have HS2 := hide (hb.below hb0)
  have HS3 := hide (hc.below hb0)
  have HS4 := hide (hd.below hb0)
  have HW := hide hb0
  have K1 := hide B1
  have K2 := hide B2
  have K3 := hide B3
  have K4 := hide B4
  have K5 := hide B5
  clear ha hb hc hd hb0 B1 B2 B3 B4 B5
  go_enter Try.func116, Try.ntmps116
  go_upto_region 1 with fail
  clear hW0
  obtain ⟨b1, hb1⟩ : ∃ b, w.heap.size = b := ⟨_, rfl⟩
  rw [hb1] at K1 K2 K3 K4 K5 hs0 ⊢
  have HZ := hide hb1
  clear hb1
  obtain ⟨b2, hb2⟩ : ∃ b, b1 + 1 = b := ⟨_, rfl⟩
  rw [hb2] at K2 K3 K4 K5 ⊢
  obtain ⟨b3, hb3⟩ : ∃ b, b2 + 1 = b := ⟨_, rfl⟩
  rw [hb3] at K3 K4 K5 ⊢
  obtain ⟨b4, hb4⟩ : ∃ b, b3 + 1 = b := ⟨_, rfl⟩
  rw [hb4] at K4 K5 ⊢
  obtain ⟨b5, hb5⟩ : ∃ b, b4 + 1 = b := ⟨_, rfl⟩
  rw [hb5] at K5 ⊢
  have q1 : b1 < W0.heap.size := by omega
  have q2 : b2 < W0.heap.size := by omega
  have q3 : b3 < W0.heap.size := by omega
  have q4 : b4 < W0.heap.size := by omega
  have q5 : b5 < W0.heap.size := by omega
  have p1 : b1 < b5 := by omega
  have p2 : b1 ≤ b5 := by omega
  clear hb2 hb3 hb4 hb5 hs0
  have c10 := K1.out.cell 0
  have c11 := K1.out.cell 1
  have c20 := K2.out.cell 0
  have c21 := K2.out.cell 1
  simp at c10 c11 c20 c21
  go_wp2_with fail
  refine (HM1.out W0 HS1.out HS2.out).mono ?_
  rintro e1 w1 ⟨P, pn, pc, rfl, hs, hnw, hb⟩
  have HP := hide (hs.below ((Below.refl w1.heap.size w1).alloc (Nat.le_refl _) (.cells #[.int .i64 lp, .slice P pn pc] 36)))
  have hb1 := hb.trans (((Below.refl w1.heap.size w1).alloc (Nat.le_refl _) (.cells #[.int .i64 lp, .slice P pn pc] 36)).mono hb.size)
  have K6 := hide (Blk.new w1 36 #[.int .i64 lp, .slice P pn pc])
  replace K3 := hide (K3.out.below hb1 q3)
  replace K4 := hide (K4.out.below hb1 q4)
  replace K5 := hide (K5.out.below hb1 q5)
  replace HS3 := hide (HS3.out.below hb1)
  replace HS4 := hide (HS4.out.below hb1)
  replace HW := hide (HW.out.trans (hb1.mono HW.out.size))
  have r5 : b5 < w1.heap.size := by have := hb.size; omega
  have r1 : b1 ≤ w1.heap.size := by omega
  clear K1 K2 HS1 HS2 hb1 hb hs hnw c10 c11 c20 c21 HM1 q1 q2 q3 q4 q5
  go_upto_region 2 with fail
  obtain ⟨b6, hb6⟩ : ∃ b, w1.heap.size = b := ⟨_, rfl⟩
  obtain ⟨W1, hW1⟩ : ∃ W, w1.alloc (.cells #[.int .i64 lp, .slice P pn pc] 36) = W := ⟨_, rfl⟩
  have q6 : b6 < W1.heap.size := by rw [← hW1, ← hb6]; simp
  rw [hb6] at K6 r5 r1 ⊢
  rw [hW1] at K6 K3 K4 K5 HS3 HS4 HW HP ⊢
  clear hb6 hW1
  have c10 := K3.out.cell 0
  have c11 := K3.out.cell 1
  have c20 := K4.out.cell 0
  have c21 := K4.out.cell 1
  simp at c10 c11 c20 c21
  go_wp2_with fail
  refine (HM2.out W1 HS3.out HS4.out).mono ?_
  rintro e1 w2 ⟨Q, qn, qc, rfl, hs, hnw, hb⟩
  have HQ := hide (hs.below ((Below.refl w2.heap.size w2).alloc (Nat.le_refl _) (.cells #[.int .i64 lq, .slice Q qn qc] 36)))
  have hb1 := hb.trans (((Below.refl w2.heap.size w2).alloc (Nat.le_refl _) (.cells #[.int .i64 lq, .slice Q qn qc] 36)).mono hb.size)
  have K7 := hide (Blk.new w2 36 #[.int .i64 lq, .slice Q qn qc])
  replace K6 := hide (K6.out.below hb1 q6)
  replace K5 := hide (K5.out.below hb1 (by omega))
  replace HP := hide (HP.out.below hb1)
  replace HW := hide (HW.out.trans (hb1.mono HW.out.size))
  have r6 : b6 < w2.heap.size := by have := hb.size; omega
  clear K3 K4 HS3 HS4 hb1 hb hs hnw c10 c11 c20 c21 HM2 q6
  go_upto_region 3 with fail
  obtain ⟨b7, hb7⟩ : ∃ b, w2.heap.size = b := ⟨_, rfl⟩
  obtain ⟨W2, hW2⟩ : ∃ W, w2.alloc (.cells #[.int .i64 lq, .slice Q qn qc] 36) = W := ⟨_, rfl⟩
  have q7 : b7 < W2.heap.size := by rw [← hW2, ← hb7]; simp
  rw [hb7] at K7 r6 ⊢
  rw [hW2] at K7 K6 K5 HP HQ HW ⊢
  clear hb7 hW2
  have c10 := K6.out.cell 0
  have c11 := K6.out.cell 1
  have c20 := K7.out.cell 0
  have c21 := K7.out.cell 1
  simp at c10 c11 c20 c21
  go_wp2_with fail
  refine (HA3.out W2 _ _ _ _ _ _ HP.out HQ.out).mono ?_
  rintro e1 w3 ⟨R, rn, rc, rfl, hs, hnw, hb⟩
  have HR := hide (hs.below ((Below.refl w3.heap.size w3).alloc (Nat.le_refl _) (.cells #[.int .i64 ls, .slice R rn rc] 36)))
  have hb1 := hb.trans (((Below.refl w3.heap.size w3).alloc (Nat.le_refl _) (.cells #[.int .i64 ls, .slice R rn rc] 36)).mono hb.size)
  have K8 := hide (Blk.new w3 36 #[.int .i64 ls, .slice R rn rc])
  replace K5 := hide (K5.out.below hb1 (by omega))
  replace HW := hide (HW.out.trans (hb1.mono HW.out.size))
  have HN : Hid (0 < rn → ∀ ad, R = some ad → b7 < ad.block) := hide (fun h ad e => by have := hnw h ad e; omega)
  have r7 : b7 < w3.heap.size := by have := hb.size; omega
  clear K6 K7 HP HQ hb1 hb hs hnw c10 c11 c20 c21 HA3 q7
  go_upto_region 4 with fail
  obtain ⟨b8, hb8⟩ : ∃ b, w3.heap.size = b := ⟨_, rfl⟩
  obtain ⟨W3, hW3⟩ : ∃ W, w3.alloc (.cells #[.int .i64 ls, .slice R rn rc] 36) = W := ⟨_, rfl⟩
  rw [hb8] at K8 r7 ⊢
  rw [hW3] at K8 K5 HR HW ⊢
  clear hb8 hW3
  have c10 := K8.out.cell 0
  have c11 := K8.out.cell 1
  have c20 := K5.out.cell 0
  have c21 := K5.out.cell 1
  have f20 := K5.out.frozen 0
  have f21 := K5.out.frozen 1
  simp at c10 c11 c20 c21
  go_wp2_with fail
  refine bodyPost_ret (results_poly rfl _ rfl ((K5.out.set_ 0 (.int .i64 ls)).set_ 1 (.slice R rn rc))) rfl ?_
  refine ⟨R, rn, rc, rfl, ?_, fun h ad e => by have := HN.out h ad e; have := HZ.out; omega, ?_⟩
  · exact (HR.out.setCell (fun h ad e => by have := HN.out h ad e; omega) 0 _).setCell (fun h ad e => by have := HN.out h ad e; omega) 1 _
  · exact (HW.out.setCell (p := ⟨b5, 0, none⟩) (by show w.heap.size ≤ b5; rw [HZ.out]; exact p2) _).setCell (p := ⟨b5, 1, none⟩) (by show w.heap.size ≤ b5; rw [HZ.out]; exact p2) _
end Go.Proofs.Ytndgffiihbdppaa
