/- Several texts in one. -/
import Derived.Test.YtndgffiihbdppaaPart7
import Derived.Test.YtndgffiihbdppaaPart8
import Derived.Test.YtndgffiihbdppaaPart6
import Derived.BigRegion
import Derived.Test.YtndgffiihbdppaaPart2
import Derived.Test.YtndgffiihbdppaaPart1
import Derived.Test.YtndgffiihbdppaaPart4
import Derived.Test.YtndgffiihbdppaaPart3
/- Package link: LinkingNumbers. -/
namespace Go.Proofs.Ytndgffiihbdppaa
set_option linter.unusedVariables false
set_option linter.unusedSimpArgs false
open Go.RowKit

theorem MaI.off {w : World} {base go n k : Nat} {gr : Nat → Nat} {X : Nat → Nat → Int} (h : MaI w base go n gr k X) {b : Nat} (hg : go ≠ b) (hr : ∀ i, i < k → gr i ≠ b) (j : Nat) (v : Value) : MaI (w.setCell ⟨b, j, none⟩ v) base go n gr k X := by
  refine ⟨?_, fun i hi => ?_, fun i hi => ?_, h.ne, h.inj, fun i hi => ?_, h.base_le⟩
  · obtain ⟨cs, hc⟩ := h.blk
    exact ⟨cs, hc.far hg _⟩
  · rw [← h.out i hi]
    exact World.cell?_of_block (w := w) (a := ⟨go, i, none⟩) (Below.heap_setCell w ⟨b, j, none⟩ _ go hg)
  · have ho := h.row i hi
    refine ⟨⟨ho.own.1, ?_⟩, ho.small⟩
    rcases ho.own.2 with h2 | ⟨b', cap, cur, hv, hb, hh, q⟩
    · exact .inl h2
    · have hbg : b' = gr i := by
        injection hv with hv
        injection hv with hv
        injection hv with hv
        exact hv.symm
      exact .inr ⟨b', cap, cur, hv, hb, (Below.heap_setCell w ⟨b, j, none⟩ _ b' (by rw [hbg]; exact hr i hi)).trans hh, q⟩
  · have := h.lt i hi
    simpa [World.setCell] using this
theorem OwnI.off {w : World} {base g n c : Nat} {xs : List Int} (h : OwnI w base (some ⟨g, 0, none⟩) n c xs) {b : Nat} (hg : g ≠ b) (j : Nat) (v : Value) : OwnI (w.setCell ⟨b, j, none⟩ v) base (some ⟨g, 0, none⟩) n c xs := by
  refine ⟨⟨h.own.1, ?_⟩, h.small⟩
  rcases h.own.2 with h2 | ⟨b', cap, cur, hv, hb, hh, q⟩
  · exact .inl h2
  · have hbg : b' = g := by
      injection hv with hv
      injection hv with hv
      injection hv with hv
      exact hv.symm
    exact .inr ⟨b', cap, cur, hv, hb, (Below.heap_setCell w ⟨b, j, none⟩ _ b' (by rw [hbg]; exact hg)).trans hh, q⟩
theorem cmp1_sign (x : Int) : cmp1 x 0 = x.sign := by
  unfold cmp1
  rcases Int.lt_trichotomy x 0 with h | h | h
  · rw [if_pos h, Int.sign_eq_neg_one_of_neg h]
  · subst h; rfl
  · rw [if_neg (by omega), if_pos h, Int.sign_eq_one_of_pos h]
theorem zs_set2 (l : List Nat) (i u v : Nat) : ((zs l).set i (u : Int)).set (i + 1) (v : Int) = zs ((l.set i u).set (i + 1) v) := by
  unfold zs
  rw [List.map_set, List.map_set]
  rfl
theorem lkM_bad {m : Int} {xs : List Int} (h : bfault m xs ≠ 0) : lkM m xs = [] := by unfold lkM; rw [if_neg h]
theorem MaI.sll {w : World} {base go n : Nat} {gr : Nat → Nat} {X : Nat → Nat → Int} (h : MaI w base go n gr n X) (hn : n ≤ 1000) : SLL w (some ⟨go, 0, none⟩) n n ((List.range n).map fun i => (List.range n).map (X i)) := by
  refine ⟨by simp, by omega, fun e => (by cases e), Nat.le_refl _, fun _ => ⟨_, rfl, h.go_lt, fun j hj => ⟨_, _, _, by rw [Addr.add_mid, Nat.zero_add]; exact h.out j hj, ?_⟩⟩⟩
  rw [show (List.map (fun i => List.map (X i) (List.range n)) (List.range n)).getD j [] = List.map (X j) (List.range n) by simp [List.getD, hj]]
  exact (h.row j hj).sl

set_option maxRecDepth 100000 in
set_option maxHeartbeats 8000000 in
theorem linking_any (m : Int) (A : Option Addr) (n c : Nat) (xs : List Int) (w : World) (ha : SL w A n c xs) (hm : (Lit.int .i64 m).wf = true) :
    Calls Try.prog 9 #[.int .i64 m, .slice A n c] w (GivesLK w (bfault m xs) (lkM m xs)) := by
  by_cases h0 : bfault m xs = 0
  case neg =>
    have HC := hide (number_no m A n c xs w ha hm h0)
    rw [lkM_bad h0]
    obtain ⟨f, hf⟩ : ∃ f, bfault m xs = f := ⟨_, rfl⟩
    rw [hf] at HC h0 ⊢
    have hne : (f != 0) = true := by simpa using h0
    clear ha hm hf h0
    go_enter Try.func9, Try.ntmps9
    go_wp2_with fail
    refine HC.out.mono ?_
    rintro e w1 ⟨P, pn, pc, rfl, ho, hb⟩
    have HB := hide hb
    clear hb ho HC
    go_wp2_with fail
    go_ret2
    exact ⟨none, 0, 0, rfl, SLL.nil_ _, HB.out⟩
  case pos =>
    obtain ⟨g1, g6, gl, gx⟩ := bfault_zero h0
    obtain ⟨M, rfl⟩ : ∃ M : Nat, m = M := ⟨m.toNat, by omega⟩
    have hM1 : 1 ≤ M := by omega
    have hM6 : M ≤ 6 := by omega
    have hok : okB M xs := fun x h => by have := gx x h; omega
    have HX := hide hok
    have HPA := hide (ends_isP hok)
    have HAL : Hid ((endsL M xs).length = M) := hide (endsL_length M xs)
    have HC := hide (number_yes M A n c xs w ha hm h0)
    have HLM := hide (lkM_eq h0)
    have HA := hide ha.il
    have HXL : Hid (xs.length = n) := hide ha.il.len
    have hn30 : n ≤ 30 := by have := HXL.out; omega
    rw [HLM.out, h0]
    have HAT : Hid ((List.range M).map (lkAt (endsL M xs)) = atK M (endsL M xs) []) := hide (by have h := atK_start HAL.out; rwa [HAL.out] at h)
    rw [HAT.out] at HC
    have HLE : Hid (∀ i k, lkE M xs i k = (lkSum M (endsL M xs) i k [] xs).tdiv 2) := hide fun i k => rfl
    obtain ⟨a, haa⟩ : ∃ a, endsL M xs = a := ⟨_, rfl⟩
    rw [haa] at HC HPA HAL HLE ⊢
    have hK6 : (prtL a).length ≤ 6 := by have := prtL_le a; rw [HAL.out] at this; omega
    obtain ⟨K, hK⟩ : ∃ K, (prtL a).length = K := ⟨_, rfl⟩
    have HK := hide hK
    rw [hK] at HC hK6 ⊢
    clear ha hm h0 g1 g6 gl gx hok haa hK HLM HAT
    obtain ⟨i0, hi0, hz0, hz1, hz2⟩ := info_parts int_info
    obtain ⟨i1, hj0, hk0, hk1, hk2⟩ := info_parts slice_info
    have HI0 := hide hi0
    have HY0 := hide hz0
    have HY1 := hide hz1
    have HY2 := hide hz2
    clear hi0 hz0 hz1 hz2
    go_enter Try.func9, Try.ntmps9
    go_wp2_with fail
    refine HC.out.mono ?_
    rintro e w1 ⟨P, pn, pc, rfl, ho, hb⟩
    have hpn : M = pn := by have := ho.len; rw [zs_length, atK_length] at this; exact this
    subst hpn
    obtain ⟨gp, rfl, hgp, hgp1⟩ := ho.form (by omega)
    have HO1 := hide ho
    have HW1 := hide hb
    have hs1 := hb.size
    clear hb ho HC
    go_wp2_with (at_make; refine wpList_make_full _ rfl _ _ 23 rfl w1.heap.size 22 i1 (.slice none 0 0) 1 Try.underlying23 hj0 hk0 hk1 .i64 .i64 _ _ K rfl rfl rfl rfl (by rw [hk2]; omega) (by unfold maxLen; omega) (Nat.le_refl _) ?_; intro w3 hown3 hg3)
    have hB3 : Below w1.heap.size w1 w3 := (Below.refl _ _).grown hg3 (Nat.le_refl _) (by intro k hk; cases hk)
    have ho3 := ownV_zero hown3 (by omega)
    obtain ⟨gm, hgm⟩ : ∃ g, w1.heap.size = g := ⟨_, rfl⟩
    rw [hgm] at ho3 hB3 hs1 hgp1 ⊢
    have HM := hide (MaI.start (n := K) ho3 (fun _ _ => 0))
    have HCs : Hid (∀ i, i < K → ∃ v, w3.cell? ⟨gm, i, none⟩ = some v) := hide (fun i hi => by
      obtain ⟨g', e, hc⟩ := ho3.cellAt hi
      injection e with e
      injection e with e
      subst e
      exact ⟨_, hc.trans (by rw [List.getElem?_replicate, if_pos hi])⟩)
    have HB := hide hB3
    have HGM := hide hgm
    clear hown3 hg3 hB3 ho3 hgm hj0 hk0 hk1 hk2
    go_loopw [34] (fun iv wr => ∃ (k : Nat) (gr : Nat → Nat), iv = .int .i64 k ∧ k ≤ K ∧ Hid (MaI wr gm gm K gr k (fun _ _ => 0)) ∧ Hid (∀ i, i < K → ∃ v, wr.cell? ⟨gm, i, none⟩ = some v) ∧ Hid (Below gm w1 wr)) (fun iv _ => K - (intOf iv).toNat)
    case atStart => exact ⟨0, _, by go_num, Nat.zero_le _, HM, HCs, HB⟩
    case round =>
      clear HM HCs HB
      obtain ⟨k, gr, rfl, hk, HM, HCs, HB⟩ := hrel
      by_cases hlt : k < K
      · obtain ⟨v, hv⟩ := HCs.out k hlt
        obtain ⟨cs9, hcs9⟩ := HM.out.blk
        have HK9 := hide hcs9
        have HV := hide hv
        have hbw : gm ≤ wr.heap.size := by have := HM.out.go_lt; omega
        clear hcs9 hv
        go_wp2_with (at_make; refine wpList_make_full _ rfl _ _ 22 rfl wr.heap.size 3 i0 (.int .i64 0) 1 Try.underlying22 HI0.out HY0.out HY1.out .i64 .i64 _ _ K rfl rfl rfl rfl (by rw [HY2.out]; omega) (by unfold maxLen; omega) (Nat.le_refl _) ?_; intro w4 hown4 hg4; have hb4 : Below wr.heap.size wr w4 := (Below.refl _ _).grown hg4 (Nat.le_refl _) (by intro k hk; cases hk); have hv4 := (hb4.cell (p := ⟨gm, k, none⟩) HK9.out.lt).trans HV.out; have hf4 := (HK9.out.below hb4 HK9.out.lt).frozen k)
        have ho4 := OwnI.zero (z := #[]) hown4 (by omega)
        have HM4 := hide (HM.out.push (g := wr.heap.size) hb4 (Nat.le_refl _) (by rw [map_zero]; exact ho4.mono hbw) (ho4.lt _ rfl).2 hbw HV.out)
        have HC4 : Hid (∀ i, i < K → ∃ v, (w4.setCell ⟨gm, k, none⟩ (.slice (some ⟨wr.heap.size, 0, none⟩) K K)).cell? ⟨gm, i, none⟩ = some v) := hide (fun i hi => by
          by_cases e : i = k
          · subst e
            exact ⟨_, World.cell?_setCell_same w4 _ _ hv4⟩
          · rw [World.cell?_setCell_other w4 _ _ _ (by intro h2; simp only [Addr.mk.injEq] at h2; omega)]
            obtain ⟨v', hv'⟩ := HCs.out i hi
            exact ⟨v', (hb4.cell (p := ⟨gm, i, none⟩) HK9.out.lt).trans hv'⟩)
        have HB4 := hide ((HB.out.trans (hb4.mono hbw)).setCell (p := ⟨gm, k, none⟩) (Nat.le_refl _) (.slice (some ⟨wr.heap.size, 0, none⟩) K K))
        clear hown4 hg4 hb4 hv4 hf4 ho4 HM HB HCs HV HK9
        go_roundw
        case rel => exact ⟨k + 1, _, by go_num, by omega, HM4, HC4, HB4⟩
        case measure => simp [intOf]; omega
      · have hkK : k = K := by omega
        rw [hkK] at HM
        have HO := hide (HO1.out.below (by rw [HGM.out]; exact HB.out))
        replace HB := hide (HW1.out.trans (HB.out.mono hs1))
        clear hkK HCs HO1 HW1 HGM
        rename World => w5
        have HM0 : Hid (MaI w5 gm gm K gr K (fun i j => lkSum M a i j [] (xs.take 0))) := HM
        have HO0 : Hid (OwnI w5 w.heap.size (some ⟨gp, 0, none⟩) M pc (zs (atK M a (xs.take 0)))) := HO
        have HNE : Hid (∀ i, i < K → gr i ≠ gp) := hide fun i hi e => by have := HM.out.base_le.2 i hi; omega
        clear HM HO
        go_wp2_with fail
        go_loopw [45] (fun iv wr => ∃ k : Nat, iv = .int .i64 k ∧ k ≤ n ∧ Hid (MaI wr gm gm K gr K (fun i j => lkSum M a i j [] (xs.take k))) ∧ Hid (OwnI wr w.heap.size (some ⟨gp, 0, none⟩) M pc (zs (atK M a (xs.take k)))) ∧ Hid (Below w.heap.size w wr)) (fun iv _ => n - (intOf iv).toNat)
        case atStart => exact ⟨0, by go_num, Nat.zero_le _, HM0, HO0, HB⟩
        case round =>
          clear HM0 HO0 HB
          obtain ⟨k, rfl, hk, HM, HO, HB⟩ := hrel
          by_cases hlt2 : k < n
          · obtain ⟨ad, rfl, hc⟩ := (HA.out.below HB.out).at_ hlt2
            have hxm : xs.getD k 0 ∈ xs := by
              have hkl : k < xs.length := by rw [HXL.out]; exact hlt2
              rw [List.getD, List.getElem?_eq_getElem hkl]
              exact List.getElem_mem hkl
            have hxk := HX.out _ hxm
            obtain ⟨x, hxx⟩ : ∃ x, xs.getD k 0 = x := ⟨_, rfl⟩
            rw [hxx] at hc hxk
            have HTK : Hid (xs.take (k + 1) = xs.take k ++ [x]) := hide (by
              have hkl : k < xs.length := by rw [HXL.out]; exact hlt2
              rw [List.take_succ_eq_append_getElem hkl, ← hxx]
              simp [List.getD, List.getElem?_eq_getElem hkl])
            have hokT : okB M (xs.take k) := fun y hy => HX.out y (List.mem_of_mem_take hy)
            obtain ⟨j, hj⟩ : ∃ j, x.natAbs = j + 1 := ⟨x.natAbs - 1, by omega⟩
            have hjM : j + 1 < M := by omega
            have hps : lkAt a (lkS M (xs.take k) j) < K := by rw [← HK.out]; exact lkAt_lt HPA.out (by rw [HAL.out]; exact lkS_lt hokT (by omega))
            have hpt : lkAt a (lkS M (xs.take k) (j + 1)) < K := by rw [← HK.out]; exact lkAt_lt HPA.out (by rw [HAL.out]; exact lkS_lt hokT hjM)
            have hc0 := HO.out.cell (j := j) (by omega)
            have hc1 := HO.out.cell (j := j + 1) hjM
            rw [zs_getD, atK_getD (by omega)] at hc0
            rw [zs_getD, atK_getD hjM] at hc1
            have HNA := hide (atK_step (a := a) (u := xs.take k) hxk.1 hj hjM)
            rw [← HTK.out, atK_getD hjM, atK_getD (show j < M by omega)] at HNA
            have HCC : Hid (∀ i i', lkSum M a i i' [] (xs.take (k + 1)) = lkSum M a i i' [] (xs.take k) + ((if lkAt a (lkS M (xs.take k) j) = i ∧ lkAt a (lkS M (xs.take k) (j + 1)) = i' then x.sign else 0) + (if lkAt a (lkS M (xs.take k) (j + 1)) = i ∧ lkAt a (lkS M (xs.take k) j) = i' then x.sign else 0))) := hide fun i i' => by
              rw [HTK.out, lkSum_snoc, List.nil_append]
              unfold lkC1
              rw [hj, show j + 1 - 1 = j by omega]
            obtain ⟨s, hs⟩ : ∃ s, lkAt a (lkS M (xs.take k) j) = s := ⟨_, rfl⟩
            obtain ⟨t, ht⟩ : ∃ t, lkAt a (lkS M (xs.take k) (j + 1)) = t := ⟨_, rfl⟩
            rw [hs] at hps hc0 HNA HCC
            rw [ht] at hpt hc1 HNA HCC
            have hsg := sign_odd hxk.1
            have hwx : IntKind.i64.wrap (-x) = -x := by rw [IntKind.wrap_i64]; omega
            have HMX : Hid (max x (-x) = ((j : Int) + 1)) := hide (by omega)
            have HCM := hide (fun w => cmp_any x 0 w)
            rw [cmp1_sign] at HCM
            obtain ⟨sg, hsgg⟩ : ∃ y, x.sign = y := ⟨_, rfl⟩
            rw [hsgg] at hsg HCM HCC
            have hbd := fun i j => lkSum_bd (n := M) (a := a) i j (xs.take k) []
            have hlk : (xs.take k).length ≤ 30 := by rw [List.length_take]; omega
            obtain ⟨V, hV⟩ : ∃ V : Nat → Nat → Int, (fun i j => lkSum M a i j [] (xs.take k)) = V := ⟨_, rfl⟩
            have HV : Hid (∀ i j, lkSum M a i j [] (xs.take (k + 1)) = V i j + ((if s = i ∧ t = j then sg else 0) + (if t = i ∧ s = j then sg else 0))) := hide fun i j => by
              rw [HCC.out, ← hV]
            have hVb : ∀ i j, -60 ≤ V i j ∧ V i j ≤ 60 := fun i j => by
              have := hbd i j
              rw [← hV]
              show -60 ≤ lkSum M a i j [] (xs.take k) ∧ lkSum M a i j [] (xs.take k) ≤ 60
              omega
            rw [hV] at HM
            have HVB := hide hVb
            have hwj : IntKind.i64.wrap (j : Int) = (j : Int) := by rw [IntKind.wrap_i64]; omega
            have hwj1 : IntKind.i64.wrap ((j : Int) + 1) = (j : Int) + 1 := by rw [IntKind.wrap_i64]; omega
            clear hs ht hsgg hbd hlk hV HCC HTK hxx hxm hxk hj hokT hVb
            go_upto_region 14 with ((with_reducible show wpList _ _ _ (Oper.mk _ (.call { callee := .builtin .max, args := _, argTypes := _ }) _ _ _ _ :: _) _ _); refine wpList_gives rfl (gives_maxI rfl rfl rfl HMX.out) ?_)
            go_region
            go_upto_region 15 with fail
            have hwd : Below w.heap.size w wr.drew := HB.out.drew
            replace HM := hide (HM.out.below (show Below wr.heap.size wr wr.drew from (Below.refl _ _).drew))
            replace HO := hide HO.out.drew
            replace HB := hide hwd
            clear hwd hc0 hc1 hc
            generalize wr.drew = w6 at *
            go_wp2_with fail
            refine (HCM.out _).mono ?_
            rintro e w0 ⟨rfl, hww⟩
            subst hww
            go_upto_region 16 with fail
            have ho1 := HM.out.out s hps
            have hc1 := HM.out.cell hps hpt
            have hf1 := HM.out.frozen hps t
            have hvb := HVB.out s t
            obtain ⟨v, hv⟩ : ∃ y, V s t = y := ⟨_, rfl⟩
            rw [hv] at hc1 hvb
            have hadd1 : IntKind.i64.wrap (v + sg) = v + sg := by rw [IntKind.wrap_i64]; omega
            have hgs : gm ≤ gr s := HM.out.base_le.2 s hps
            have hgt : gm ≤ gr t := HM.out.base_le.2 t hpt
            have HM9 := hide (HM.out.set_ hps hpt (v + sg))
            have HO9 := hide (HO.out.off (b := gr s) (fun e => HNE.out s hps e.symm) t (.int .i64 (v + sg)))
            have HB9 := hide (HB.out.setCell (p := ⟨gr s, t, none⟩) (Nat.le_trans hs1 hgs) (.int .i64 (v + sg)))
            clear HM HO HB
            go_upto_region 17 with fail
            clear ho1 hc1 hf1
            have HV1 : Hid (∀ i j, (if i = s ∧ j = t then v + sg else V i j) = V i j + (if s = i ∧ t = j then sg else 0)) := hide fun i j => by
              by_cases e : s = i ∧ t = j
              · obtain ⟨rfl, rfl⟩ := e
                rw [if_pos ⟨rfl, rfl⟩, if_pos ⟨rfl, rfl⟩, hv]
              · rw [if_neg (fun h => e ⟨h.1.symm, h.2.symm⟩), if_neg e, Int.add_zero]
            obtain ⟨V1, hV1⟩ : ∃ V1 : Nat → Nat → Int, (fun i j => if i = s ∧ j = t then v + sg else V i j) = V1 := ⟨_, rfl⟩
            rw [hV1] at HM9
            have HW1 : Hid (∀ i j, V1 i j = V i j + (if s = i ∧ t = j then sg else 0)) := hide fun i j => by rw [← hV1]; exact HV1.out i j
            have hvb2 : -61 ≤ V1 t s ∧ V1 t s ≤ 61 := by
              rw [HW1.out]
              have := HVB.out t s
              split <;> omega
            obtain ⟨v2, hv2⟩ : ∃ y, V1 t s = y := ⟨_, rfl⟩
            rw [hv2] at hvb2
            have hadd2 : IntKind.i64.wrap (v2 + sg) = v2 + sg := by rw [IntKind.wrap_i64]; omega
            clear hv HV1 hV1 hvb hadd1
            generalize w6.setCell ⟨gr s, t, none⟩ (.int .i64 (v + sg)) = w9 at *
            have ho2 := HM9.out.out t hpt
            have hc2 := HM9.out.cell hpt hps
            have hf2 := HM9.out.frozen hpt s
            rw [hv2] at hc2
            have HMX2 := hide ((HM9.out.set_ hpt hps (v2 + sg)).congr (Y := fun i j => lkSum M a i j [] (xs.take (k + 1))) fun i hi j hj => by
              show (if i = t ∧ j = s then v2 + sg else V1 i j) = lkSum M a i j [] (xs.take (k + 1))
              rw [HV.out]
              have h1 := HW1.out i j
              by_cases e : t = i ∧ s = j
              · obtain ⟨rfl, rfl⟩ := e
                rw [if_pos (show t = t ∧ s = s from ⟨rfl, rfl⟩), ← hv2, h1, Int.add_assoc]
                congr 2
                exact (if_pos ⟨rfl, rfl⟩).symm
              · rw [if_neg (fun h => e ⟨h.1.symm, h.2.symm⟩), if_neg e, h1]
                omega)
            have HOX := hide (HO9.out.off (b := gr t) (fun e => HNE.out t hpt e.symm) s (.int .i64 (v2 + sg)))
            have HBX := hide (HB9.out.setCell (p := ⟨gr t, s, none⟩) (Nat.le_trans hs1 hgt) (.int .i64 (v2 + sg)))
            clear HM9 HO9 HB9 HV HW1 hv2 hvb2
            go_upto_region 18 with fail
            clear ho2 hc2 hf2 hadd2
            generalize w9.setCell ⟨gr t, s, none⟩ (.int .i64 (v2 + sg)) = wx at *
            have hcx0 := HOX.out.cell (j := j) (by omega)
            have hcx1 := HOX.out.cell (j := j + 1) hjM
            have hfx0 := HOX.out.frozen j
            have hfx1 := HOX.out.frozen (j + 1)
            have HON := hide ((HOX.out.set_ j (t : Int)).set_ (j + 1) (s : Int))
            rw [zs_set2, HNA.out] at HON
            have HMN := hide ((HMX2.out.off (b := gp) (by omega) HNE.out j (.int .i64 (t : Int))).off (b := gp) (by omega) HNE.out (j + 1) (.int .i64 (s : Int)))
            have HBN := hide ((HBX.out.setCell (p := ⟨gp, j, none⟩) hgp (.int .i64 (t : Int))).setCell (p := ⟨gp, j + 1, none⟩) hgp (.int .i64 (s : Int)))
            clear HOX HMX2 HBX HNA
            generalize (zs (atK M a (xs.take k))).getD j 0 = z0 at *
            generalize (zs (atK M a (xs.take k))).getD (j + 1) 0 = z1 at *
            go_wp2_with fail
            go_roundw
            case rel => exact ⟨k + 1, by go_num, by omega, HMN, HON, HBN⟩
            case measure => simp [intOf]; omega
          · have HME : Hid (MaI wr gm gm K gr K (fun i j => lkSum M a i j [] xs)) := hide (by
              have h := HM.out
              rwa [List.take_of_length_le (by rw [HXL.out]; omega)] at h)
            clear HM HO HNE
            rename World => w10
            go_wp2_with fail
            go_loopw [96] (fun iv wr => ∃ k : Nat, iv = .int .i64 k ∧ k ≤ K ∧ Hid (MaI wr gm gm K gr K (fun i j => if i < k then (lkSum M a i j [] xs).tdiv 2 else lkSum M a i j [] xs)) ∧ Hid (Below w.heap.size w wr)) (fun iv _ => K - (intOf iv).toNat)
            case atStart => exact ⟨0, by go_num, Nat.zero_le _, hide (HME.out.congr fun i _ j _ => (if_neg (Nat.not_lt_zero _)).symm), HB⟩
            case round =>
              clear HME HB
              obtain ⟨i, rfl, hi, HM, HB⟩ := hrel
              by_cases hlt3 : i < K
              · have hoi := HM.out.out i hlt3
                rename World => w11
                go_wp2_with fail
                go_loopw [102] (fun iv wr => ∃ j : Nat, iv = .int .i64 j ∧ j ≤ K ∧ Hid (MaI wr gm gm K gr K (fun i' j' => if i' < i ∨ i' = i ∧ j' < j then (lkSum M a i' j' [] xs).tdiv 2 else lkSum M a i' j' [] xs)) ∧ Hid (Below w.heap.size w wr)) (fun iv _ => K - (intOf iv).toNat)
                case atStart => exact ⟨0, by go_num, Nat.zero_le _, hide (HM.out.congr fun i' _ j' _ => by simp), HB⟩
                case round =>
                  clear HM HB hoi
                  obtain ⟨j, rfl, hj, HM, HB⟩ := hrel
                  by_cases hjt : j < K
                  · have hc := HM.out.cell hlt3 hjt
                    rw [if_neg (by omega)] at hc
                    have hbd := lkSum_bd (n := M) (a := a) i j xs []
                    have hxl := HXL.out
                    have hgi := HM.out.base_le.2 i hlt3
                    have hfz := HM.out.frozen hlt3 j
                    obtain ⟨v, hv⟩ : ∃ y, lkSum M a i j [] xs = y := ⟨_, rfl⟩
                    rw [hv] at hc hbd
                    obtain ⟨u, hu⟩ : ∃ u, v.tdiv 2 = u := ⟨_, rfl⟩
                    have hub : -60 ≤ u ∧ u ≤ 60 := by
                      have h1 := Int.natAbs_tdiv_le_natAbs v 2
                      rw [hu] at h1
                      omega
                    have hw : IntKind.i64.wrap u = u := by rw [IntKind.wrap_i64]; omega
                    have HM2 := hide ((HM.out.set_ hlt3 hjt u).congr (Y := fun i' j' => if i' < i ∨ i' = i ∧ j' < j + 1 then (lkSum M a i' j' [] xs).tdiv 2 else lkSum M a i' j' [] xs) fun i' _ j' _ => by
                      show (if i' = i ∧ j' = j then u else if i' < i ∨ i' = i ∧ j' < j then (lkSum M a i' j' [] xs).tdiv 2 else lkSum M a i' j' [] xs) = _
                      by_cases e : i' = i ∧ j' = j
                      · obtain ⟨rfl, rfl⟩ := e
                        rw [if_pos ⟨rfl, rfl⟩, if_pos (by omega), hv, hu]
                      · rw [if_neg e]
                        by_cases e2 : i' < i ∨ i' = i ∧ j' < j
                        · rw [if_pos e2, if_pos (by omega)]
                        · rw [if_neg e2, if_neg (by omega)])
                    have HB2 := hide (HB.out.setCell (p := ⟨gr i, j, none⟩) (Nat.le_trans hs1 hgi) (.int .i64 u))
                    clear hbd hv hub HM HB hgi hxl
                    go_wp2_with fail
                    go_roundw
                    case rel => exact ⟨j + 1, by go_num, by omega, HM2, HB2⟩
                    case measure => simp [intOf]; omega
                  · have HM3 : Hid (MaI wr gm gm K gr K (fun i' j' => if i' < i + 1 then (lkSum M a i' j' [] xs).tdiv 2 else lkSum M a i' j' [] xs)) := hide (HM.out.congr fun i' _ j' hj' => by
                      show (if i' < i ∨ i' = i ∧ j' < j then _ else _) = if i' < i + 1 then _ else _
                      by_cases e : i' < i + 1
                      · rw [if_pos e, if_pos (by omega)]
                      · rw [if_neg e, if_neg (by omega)])
                    clear HM
                    go_wp2_with fail
                    go_roundw
                    case rel => exact ⟨i + 1, by go_num, by omega, HM3, HB⟩
                    case measure => simp [intOf]; omega
              · have HML := hide (HM.out.congr (Y := fun i' j' => lkE M xs i' j') fun i' hi' j' _ => by
                  show (if i' < i then _ else _) = _
                  rw [if_pos (by omega), HLE.out])
                clear HM
                go_wp2_with fail
                go_ret2
                exact ⟨_, _, _, rfl, HML.out.sll (by omega), HB.out⟩
end Go.Proofs.Ytndgffiihbdppaa
/- Package link keeps its contracts. -/
namespace Go.Proofs.Ytndgffiihbdppaa
set_option linter.unusedVariables false
set_option linter.unusedSimpArgs false

theorem linkC : LinkC where
  parts := components_any -- 8
  link := linking_any -- 9
  knot := isKnot_any -- 10
end Go.Proofs.Ytndgffiihbdppaa
/- Sums of terms as windows of coefficients; wrapping to 64 bits. -/
namespace Go.Proofs.Ytndgffiihbdppaa
set_option linter.unusedVariables false
set_option linter.unusedSimpArgs false
open Go.RowKit

def wr64 (a : Int) : Int := IntKind.i64.wrap a
theorem wr64_eq (a : Int) : wr64 a = (a + 9223372036854775808) % 18446744073709551616 - 9223372036854775808 := by unfold wr64; rw [IntKind.wrap_i64]
theorem wr64_congr {a b : Int} (h : a % 18446744073709551616 = b % 18446744073709551616) : wr64 a = wr64 b := by rw [wr64_eq, wr64_eq]; omega
theorem wr64_mod (a : Int) : wr64 a % 18446744073709551616 = a % 18446744073709551616 := by rw [wr64_eq]; omega
theorem wr64_small {a : Int} (h : a.natAbs ≤ 9223372036854775807) : wr64 a = a := by rw [wr64_eq]; omega
theorem wr64_step (a s x y : Int) : IntKind.i64.wrap (wr64 a + IntKind.i64.wrap (s * x * wr64 y)) = wr64 (a + s * x * y) := by
  show wr64 (wr64 a + wr64 (s * x * wr64 y)) = _
  apply wr64_congr
  have h : (s * x * wr64 y) % 18446744073709551616 = (s * x * y) % 18446744073709551616 := by
    rw [Int.mul_emod, wr64_mod, ← Int.mul_emod]
  have h2 := wr64_mod (s * x * wr64 y)
  have h3 := wr64_mod a
  omega
theorem map_wr64 {ys : List Int} (h : ∀ y ∈ ys, y.natAbs ≤ 9223372036854775807) : ys.map wr64 = ys := by
  conv => rhs; rw [← List.map_id ys]
  exact List.map_congr_left fun y hy => wr64_small (h y hy)
theorem getD_wr64 (ys : List Int) (j : Nat) : (ys.map wr64).getD j 0 = wr64 (ys.getD j 0) := by
  simp only [List.getD, List.getElem?_map]
  cases ys[j]? <;> rfl
theorem set_wr64 (ys : List Int) (j : Nat) (v : Int) : (ys.map wr64).set j (wr64 v) = (ys.set j v).map wr64 := by rw [List.map_set]
theorem LP.of_set {b : Int} {ys : List Int} {j : Nat} (h : j < ys.length) (c : Int) : LP.of b (ys.set j (ys.getD j 0 + c)) = LP.of b ys + LP.term (b + j) c := LP.ext fun k => by
  rw [LP.co_add, LP.co_term, LP.co_of, LP.co_of, List.length_set]
  by_cases hk : b + j = k
  · subst hk
    rw [if_pos (by omega), if_pos (by omega), if_pos rfl, show (b + (j : Int) - b).toNat = j by omega]
    simp [List.getD, h]
  · rw [if_neg hk, Int.add_zero]
    by_cases h2 : b ≤ k ∧ k < b + ys.length
    · rw [if_pos h2, if_pos h2]
      have : j ≠ (k - b).toNat := by omega
      simp [List.getD, List.getElem?_set, this]
    · rw [if_neg h2, if_neg h2]
theorem LP.of_repl (b : Int) (n : Nat) : LP.of b (List.replicate n 0) = 0 := LP.ext fun k => by
  rw [LP.co_of, LP.co_zero]
  split
  · simp [List.getD, List.getElem?_replicate]
    split <;> rfl
  · rfl
/-- What stands in the sum after i letters of p and k of the minor. -/
def apS (S : LP) (sg lo : Int) (xs : List Int) (b : Int) (ys : List Int) (i k : Nat) : LP :=
  S + LP.term 0 sg * (LP.of lo (xs.take i) * LP.of b ys) + LP.term 0 sg * (LP.term (lo + i) (xs.getD i 0) * LP.of b (ys.take k))
theorem LP.of_nil (lo : Int) : LP.of lo [] = 0 := rfl
theorem apS_zero (S : LP) (sg lo : Int) (xs : List Int) (b : Int) (ys : List Int) : apS S sg lo xs b ys 0 0 = S := by
  unfold apS
  simp only [List.take_zero, LP.of_nil, CR.zero_mul, CR.mul_zero, CR.add_zero]
theorem apS_step (S : LP) (sg lo : Int) (xs : List Int) (b : Int) {ys : List Int} (i : Nat) {k : Nat} (hk : k < ys.length) : apS S sg lo xs b ys i (k + 1) = apS S sg lo xs b ys i k + LP.term (lo + i + (b + k)) (sg * xs.getD i 0 * ys.getD k 0) := by
  unfold apS
  have e : LP.term 0 sg * (LP.term (lo + i) (xs.getD i 0) * LP.term (b + k) (ys.getD k 0)) = LP.term (lo + i + (b + k)) (sg * xs.getD i 0 * ys.getD k 0) := by
    rw [LP.term_mul, LP.term_mul, Int.mul_assoc, Int.zero_add]
  rw [LP.of_take hk, CR.mul_add, CR.mul_add, e, ← CR.add_assoc (R := LP)]
theorem apS_row (S : LP) (sg lo : Int) {xs : List Int} (b : Int) (ys : List Int) {i : Nat} (hi : i < xs.length) : apS S sg lo xs b ys i ys.length = apS S sg lo xs b ys (i + 1) 0 := by
  unfold apS
  simp only [List.take_length, List.take_zero, LP.of_nil, CR.mul_zero, CR.add_zero]
  rw [LP.of_take hi, CR.add_mul, CR.mul_add, CR.add_assoc]
theorem apS_end (S : LP) (sg lo : Int) (xs : List Int) (b : Int) (ys : List Int) : apS S sg lo xs b ys xs.length 0 = S + LP.term 0 sg * (LP.of lo xs * LP.of b ys) := by
  unfold apS
  simp only [List.take_length, List.take_zero, LP.of_nil, CR.mul_zero, CR.add_zero]
/-- The matrix of the given rows and columns. -/
def pmM (pss : List (List Po)) (cs : List Int) : Mtx LP := fun i j => LP.of ((pss.getD i []).getD (cs.getD j 0).toNat (0, [])).1 ((pss.getD i []).getD (cs.getD j 0).toNat (0, [])).2
theorem without_getD {xs : List Int} {i b : Nat} (h : i < xs.length) : (without xs i).getD b 0 = xs.getD (CR.skip i b) 0 := by
  unfold without CR.skip
  simp only [List.getD, List.getElem?_append, List.length_take, List.getElem?_take, List.getElem?_drop]
  rw [Nat.min_eq_left (by omega)]
  by_cases h1 : b < i
  · rw [if_pos h1, if_pos h1, if_pos h1]
  · rw [if_neg h1, if_neg h1, show i + 1 + (b - i) = b + 1 by omega]
theorem without_mem {xs : List Int} {i : Nat} {x : Int} (h : x ∈ without xs i) : x ∈ xs := by
  unfold without at h
  rcases List.mem_append.1 h with h | h
  · exact List.mem_of_mem_take h
  · exact List.mem_of_mem_drop h
/-- The expansion along the first row, the first k columns. -/
def pmE (pss : List (List Po)) (cs : List Int) (k n : Nat) : LP := CR.sumN k fun j => CR.sgR LP j * (pmM pss cs 0 j * detR n fun a b => pmM pss cs (a + 1) (CR.skip j b))
theorem pmE_full (pss : List (List Po)) (cs : List Int) (n : Nat) : pmE pss cs (n + 1) n = detR (n + 1) (pmM pss cs) := rfl
theorem sgR_tm0 (j : Nat) : CR.sgR LP j = LP.term 0 (CR.sgR Int j) := by
  unfold CR.sgR
  split
  · rfl
  · show -LP.term 0 1 = LP.term 0 (-1)
    refine LP.ext fun k => ?_
    rw [LP.co_neg, LP.co_term, LP.co_term]
    split <;> rfl
theorem pmE_step (ps : List Po) (pss : List (List Po)) {cs : List Int} {k : Nat} (hk : k < cs.length) {lo : Int} {xs : List Int} (hp : ps.getD (cs.getD k 0).toNat (0, []) = (lo, xs)) (n : Nat) (D : LP) (hD : D = detR n (pmM pss (without cs k))) :
    pmE (ps :: pss) cs (k + 1) n = pmE (ps :: pss) cs k n + LP.term 0 (CR.sgR Int k) * (LP.of lo xs * D) := by
  unfold pmE
  rw [CR.sumN_succ, ← sgR_tm0, hD]
  congr 1
  congr 1
  congr 1
  · unfold pmM
    show LP.of (ps.getD (cs.getD k 0).toNat (0, [])).1 _ = _
    rw [hp]
    show LP.of lo (ps.getD (cs.getD k 0).toNat (0, [])).2 = _
    rw [hp]
  · congr 1
    funext a b
    unfold pmM
    rw [without_getD hk]
    rfl
theorem sgI_cases (j : Nat) : CR.sgR Int j = 1 ∨ CR.sgR Int j = -1 := by
  unfold CR.sgR
  split
  · exact .inl rfl
  · exact .inr rfl
/-- The columns 0 to k - 1. -/
def colL (k : Nat) : List Int := (List.range k).map fun i : Nat => (i : Int)
theorem colL_succ (k : Nat) : colL (k + 1) = colL k ++ [(k : Int)] := by simp [colL, List.range_succ]
theorem colL_getD {k j : Nat} (h : j < k) : (colL k).getD j 0 = (j : Int) := by simp [colL, List.getD, h]
theorem colL_mem {k : Nat} {x : Int} (h : x ∈ colL k) : 0 ≤ x ∧ x < k := by
  unfold colL at h
  obtain ⟨i, hi, rfl⟩ := List.mem_map.1 h
  have := List.mem_range.1 hi
  omega
theorem pmM_colL (pss : List (List Po)) (n : Nat) : detR n (pmM pss (colL n)) = detR n (mP pss) := detR_congr fun i _ j hj => by
  unfold pmM mP
  rw [colL_getD hj, Int.toNat_natCast]
end Go.Proofs.Ytndgffiihbdppaa
/- Package alexander: what fits (mathematics). -/
namespace Go.Proofs.Ytndgffiihbdppaa
set_option linter.unusedVariables false
set_option linter.unusedSimpArgs false
open CR

/-- The Burau matrices of two words, and all that is made of them, fit. -/
structure AlF (N : Nat) (u v : List Int) : Prop where
  ru : ∀ i, i < N → ∀ j, j < N → LP.Rt (bu N u i j)
  rv : ∀ i, i < N → ∀ j, j < N → LP.Rt (bu N v i j)
  rp : ∀ i, i < N → ∀ k, k < N → ∀ j, j < N → LP.Rt (bu N u i k * bu N v k j)
  rs : ∀ i, i < N → ∀ j, j < N → ∀ m, m ≤ N → LP.Rt (CR.sumN m fun k => bu N u i k * bu N v k j)
  sm : ∀ i, i < N → ∀ j, j < N → LP.N1 (bu N (u ++ v) i j) 20 99999999
theorem AlF.of_RN {N E1 E2 V1 V2 : Nat} {u v : List Int} (h1 : RN N (bu N u) E1 V1) (h2 : RN N (bu N v) E2 V2) (hE : E1 + E2 ≤ 20) (hV : V1 * V2 ≤ 99999999) (a1 : V1 ≤ 100000000) (a2 : V2 ≤ 100000000) : AlF N u v := by
  refine ⟨fun i hi j hj => (h1.entry hi hj).rt (by omega) a1, fun i hi j hj => (h2.entry hi hj).rt (by omega) a2, fun i hi k hk j hj => ((h1.entry hi hk).mul (h2.entry hk hj)).rt (by omega) (by omega), fun i hi j hj m hm => (h1.part h2 hi hj hm).rt (by omega) (by omega), fun i hi j hj => ?_⟩
  rw [bu_append N u v i hi j hj]
  exact (h1.part h2 hi hj (Nat.le_refl _)).mono hE hV
theorem AlF.short {N : Nat} {u v : List Int} (hl : u.length + v.length ≤ 16) : AlF N u v := by
  have p1 : 3 ^ u.length ≤ 43046721 := pow3 (by omega)
  have p2 : 3 ^ v.length ≤ 43046721 := pow3 (by omega)
  refine AlF.of_RN (bu_rn u) (bu_rn v) (by omega) ?_ (by omega) (by omega)
  rw [← Nat.pow_add]
  have := pow3 hl
  omega
theorem rn_ten {u : List Int} (hu : okB 2 u) (hl : u.length ≤ 10) : RN 2 (bu 2 u) 10 4968 := by
  have o1 : okB 2 (u.drop 1) := fun x hx => hu x (List.mem_of_mem_drop hx)
  have h1 : RN 2 (bu 2 (u.drop 1)) 9 1656 := ⟨fun _ _ => 828, fun i hi j hj => bu_small (Nat.le_refl 2) (by omega) o1 (by simp; omega) hi hj, fun i hi => by show 0 + 828 + 828 ≤ 1656; omega⟩
  have h2 : RN 2 (bu 2 (u.take 1)) 1 3 := (bu_rn (u.take 1)).mono (by simp; omega) (by
    have : 3 ^ (u.take 1).length ≤ 3 ^ 1 := Nat.pow_le_pow_right (by omega) (by simp; omega)
    simpa using this)
  have h3 := (h2.mul h1).congr (EqM.symm (bu_append 2 (u.take 1) (u.drop 1)))
  rw [List.take_append_drop] at h3
  exact h3
theorem AlF.two {u v : List Int} (hu : okB 2 u) (hv : okB 2 v) (lu : u.length ≤ 10) (lv : v.length ≤ 10) : AlF 2 u v :=
  AlF.of_RN (rn_ten hu lu) (rn_ten hv lv) (by omega) (by decide) (by decide) (by decide)
theorem okB_one {w : List Int} (h : okB 1 w) : w = [] := by
  cases w with
  | nil => rfl
  | cons x w => have := h x (by simp); omega
theorem AlF.all {N : Nat} {w : List Int} (hw : okB N w) (h1 : 1 ≤ N) (hl : w.length ≤ 20) (hf : w.length ≤ 16 ∨ N ≤ 2) : AlF N (w.take (w.length / 2)) (w.drop (w.length / 2)) := by
  by_cases h : w.length ≤ 16
  · exact AlF.short (by rw [List.length_take, List.length_drop]; omega)
  · have h2 : N = 2 := by
      by_cases e : N = 1
      · subst e
        rw [okB_one hw] at h
        simp at h
      · omega
    subst h2
    exact AlF.two (fun x hx => hw x (List.mem_of_mem_take hx)) (fun x hx => hw x (List.mem_of_mem_drop hx)) (by rw [List.length_take]; omega) (by rw [List.length_drop]; omega)
/-- The identity matrix less a Burau matrix. -/
noncomputable def imA (N : Nat) (w : List Int) : Mtx LP := fun i j => oneM i j + -(bu N w i j)
theorem adet_im (N : Nat) (w : List Int) : adet N w = detR (N - 1) (imA N w) := rfl
theorem imA_n1 {N : Nat} {w : List Int} {i j : Nat} (h : LP.N1 (bu N w i j) 20 99999999) : LP.N1 (imA N w i j) 20 100000000 := by
  have h1 : LP.N1 ((oneM : Mtx LP) i j) 20 1 := by
    unfold oneM
    split
    · exact LP.N1.one.mono (by omega) (by omega)
    · exact LP.N1.zero.mono (by omega) (by omega)
  exact (h1.add h.neg).mono (Nat.le_refl _) (by omega)
theorem detR_1 (M : Mtx LP) : detR 1 M = M 0 0 := by
  show CR.sumN 1 (fun j => CR.sgR LP j * (M 0 j * 1)) = _
  rw [CR.sumN_succ]
  show CR.sumN 0 _ + CR.sgR LP 0 * (M 0 0 * 1) = _
  rw [CR.mul_one]
  show 0 + 1 * M 0 0 = _
  rw [CR.zero_add, CR.one_mul]
theorem CE.of_n1 {x : LP} {E V : Nat} (h : LP.N1 x E V) : CE x E V := ⟨fun k hk => h.supp hk, h.co⟩
/-- The determinant fits. -/
theorem adet_ce {N : Nat} {w : List Int} (hw : okB N w) (h1 : 1 ≤ N) (h6 : N ≤ 6) (hl : w.length ≤ 20) (hf : w.length ≤ 16 ∨ N ≤ 2) : CE (adet N w) 20 100000000 := by
  by_cases h : w.length ≤ 16
  · obtain ⟨M, rfl⟩ : ∃ M, N = M + 1 := ⟨N - 1, by omega⟩
    exact (adet_16 (by omega) hw h).mono (by omega) (by omega)
  · have h2 : N = 2 := by
      by_cases e : N = 1
      · subst e
        rw [okB_one hw] at h
        simp at h
      · omega
    subst h2
    have h3 := (AlF.all hw h1 hl hf).sm 0 (by omega) 0 (by omega)
    rw [List.take_append_drop] at h3
    rw [adet_im, show 2 - 1 = 1 from rfl, detR_1]
    exact CE.of_n1 (imA_n1 h3)
/-- The matrix as lists of polynomials. -/
noncomputable def imL (N : Nat) (w : List Int) : List (List Po) := (List.range (N - 1)).map fun i => (List.range (N - 1)).map fun j => cP (imA N w i j)
theorem tabA_at {k : Nat} {X : Mtx LP} {i j : Nat} (hi : i < k) (hj : j < k) : (((List.range k).map fun i => (List.range k).map fun j => cP (X i j)).getD i []).getD j (0, []) = cP (X i j) := by simp [List.getD, hi, hj]
theorem imL_det (N : Nat) (w : List Int) : detR (N - 1) (pmM (imL N w) (colL (N - 1))) = adet N w := by
  rw [pmM_colL, adet_im]
  refine detR_congr fun i hi j hj => ?_
  unfold mP imL
  rw [tabA_at hi hj]
  exact of_cP _
/-- The first coefficients. -/
theorem CE.take_ {b : Int} {ys : List Int} {E V : Nat} (h : CE (LP.of b ys) E V) (i : Nat) : CE (LP.of b (ys.take i)) E V := by
  have e : ∀ k, LP.co (LP.of b (ys.take i)) k = 0 ∨ LP.co (LP.of b (ys.take i)) k = LP.co (LP.of b ys) k := fun k => by
    rw [LP.co_of, LP.co_of, List.length_take]
    by_cases h1 : b ≤ k ∧ k < b + (min i ys.length : Nat)
    · rw [if_pos h1, if_pos (by omega)]
      right
      simp only [List.getD, List.getElem?_take]
      rw [if_pos (by omega)]
    · rw [if_neg h1]
      exact .inl rfl
  refine ⟨fun k hk => h.ex k ?_, fun k => ?_⟩
  · rcases e k with e1 | e1
    · exact absurd e1 hk
    · rwa [← e1]
  · rcases e k with e1 | e1
    · rw [e1]; exact Nat.zero_le _
    · rw [e1]; exact h.cf k
theorem CE.at_ {b : Int} {ys : List Int} {E V : Nat} (h : CE (LP.of b ys) E V) {i : Nat} (hi : i < ys.length) : (ys.getD i 0).natAbs ≤ V ∧ (ys.getD i 0 ≠ 0 → (b + i).natAbs ≤ E) := by
  have e : LP.co (LP.of b ys) (b + i) = ys.getD i 0 := by
    rw [LP.co_of, if_pos (by omega), show (b + (i : Int) - b).toNat = i by omega]
  refine ⟨by rw [← e]; exact h.cf _, fun h0 => h.ex _ (by rw [e]; exact h0)⟩
theorem canon_tm {e c : Int} (h : c ≠ 0) : LP.canon (LP.term e c) = (e, [c]) := LP.canon_eq (.inr ⟨by simp, by simpa using h, by simpa using h⟩) (LP.of_one e c)
/-- One coefficient more. -/
theorem canon_more {b : Int} {ys : List Int} (h : CE (LP.of b ys) 20 100000000) {i : Nat} (hi : i < ys.length) (h0 : ys.getD i 0 ≠ 0) :
    LP.addR (LP.canon (LP.of b (ys.take i))).1 (LP.canon (LP.of b (ys.take i))).2 (b + i) [ys.getD i 0] = (0, (LP.canon (LP.of b (ys.take (i + 1)))).1, (LP.canon (LP.of b (ys.take (i + 1)))).2) := by
  have r1 : LP.Rt (LP.of b (ys.take i)) := (h.take_ i).rt (by omega) (Nat.le_refl _)
  have r3 : LP.Rt (LP.of b (ys.take (i + 1))) := (h.take_ (i + 1)).rt (by omega) (Nat.le_refl _)
  obtain ⟨c1, c2⟩ := h.at_ hi
  have c3 := c2 h0
  have r2 : LP.Rt (LP.term (b + i) (ys.getD i 0)) := ((LP.N1.term (b + i) (ys.getD i 0)).mono c3 c1).rt (by omega) (Nat.le_refl _)
  have e := LP.addR_canon r1 r2 (by rw [← LP.of_take hi]; exact r3)
  rw [← LP.of_take hi, canon_tm h0] at e
  exact e
theorem canon_same {b : Int} {ys : List Int} {i : Nat} (hi : i < ys.length) (h0 : ys.getD i 0 = 0) : LP.of b (ys.take (i + 1)) = LP.of b (ys.take i) := by
  rw [LP.of_take hi, h0]
  refine LP.ext fun k => ?_
  rw [LP.co_add, LP.co_term]
  split <;> omega
theorem alP_eq {N : Nat} {w : List Int} (h : alE (N : Int) w = 0) : alP (N : Int) w = LP.normC (LP.canon (adet N w)).2 := by unfold alP; rw [if_pos h, Int.toNat_natCast]
end Go.Proofs.Ytndgffiihbdppaa
