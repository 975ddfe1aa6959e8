/- Several texts in one. -/
import Derived.Test.YtndgffiihbdppaaPart6
import Derived.Test.YtndgffiihbdppaaPart7
import Derived.Test.YtndgffiihbdppaaPart5
import Derived.BigRegion
import Derived.Test.YtndgffiihbdppaaPart3
/- Package link: LinkingNumbers. -/
namespace Go.Proofs.Ytndgffiihbdppaa
set_option linter.unusedVariables false
set_option linter.unusedSimpArgs false
open Go.RowKit

theorem MaI.off {w : World} {base go n k : Nat} {gr : Nat → Nat} {X : Nat → Nat → Int} (h : MaI w base go n gr k X) {b : Nat} (hg : go ≠ b) (hr : ∀ i, i < k → gr i ≠ b) (j : Nat) (v : Value) : MaI (w.setCell ⟨b, j, none⟩ v) base go n gr k X := by
  refine ⟨?_, fun i hi => ?_, fun i hi => ?_, h.ne, h.inj, fun i hi => ?_, h.base_le⟩
  · obtain ⟨cs, hc⟩ := h.blk
    exact ⟨cs, hc.far hg _⟩
  · rw [← h.out i hi]
    exact World.cell?_of_block (w := w) (a := ⟨go, i, none⟩) (Below.heap_setCell w ⟨b, j, none⟩ _ go hg)
  · have ho := h.row i hi
    refine ⟨⟨ho.own.1, ?_⟩, ho.small⟩
    rcases ho.own.2 with h2 | ⟨b', cap, cur, hv, hb, hh, q⟩
    · exact .inl h2
    · have hbg : b' = gr i := by
        injection hv with hv
        injection hv with hv
        injection hv with hv
        exact hv.symm
      exact .inr ⟨b', cap, cur, hv, hb, (Below.heap_setCell w ⟨b, j, none⟩ _ b' (by rw [hbg]; exact hr i hi)).trans hh, q⟩
  · have := h.lt i hi
    simpa [World.setCell] using this
theorem OwnI.off {w : World} {base g n c : Nat} {xs : List Int} (h : OwnI w base (some ⟨g, 0, none⟩) n c xs) {b : Nat} (hg : g ≠ b) (j : Nat) (v : Value) : OwnI (w.setCell ⟨b, j, none⟩ v) base (some ⟨g, 0, none⟩) n c xs := by
  refine ⟨⟨h.own.1, ?_⟩, h.small⟩
  rcases h.own.2 with h2 | ⟨b', cap, cur, hv, hb, hh, q⟩
  · exact .inl h2
  · have hbg : b' = g := by
      injection hv with hv
      injection hv with hv
      injection hv with hv
      exact hv.symm
    exact .inr ⟨b', cap, cur, hv, hb, (Below.heap_setCell w ⟨b, j, none⟩ _ b' (by rw [hbg]; exact hg)).trans hh, q⟩
theorem cmp1_sign (x : Int) : cmp1 x 0 = x.sign := by
  unfold cmp1
  rcases Int.lt_trichotomy x 0 with h | h | h
  · rw [if_pos h, Int.sign_eq_neg_one_of_neg h]
  · subst h; rfl
  · rw [if_neg (by omega), if_pos h, Int.sign_eq_one_of_pos h]
theorem zs_set2 (l : List Nat) (i u v : Nat) : ((zs l).set i (u : Int)).set (i + 1) (v : Int) = zs ((l.set i u).set (i + 1) v) := by
  unfold zs
  rw [List.map_set, List.map_set]
  rfl
theorem lkM_bad {m : Int} {xs : List Int} (h : bfault m xs ≠ 0) : lkM m xs = [] := by unfold lkM; rw [if_neg h]
theorem MaI.sll {w : World} {base go n : Nat} {gr : Nat → Nat} {X : Nat → Nat → Int} (h : MaI w base go n gr n X) (hn : n ≤ 1000) : SLL w (some ⟨go, 0, none⟩) n n ((List.range n).map fun i => (List.range n).map (X i)) := by
  refine ⟨by simp, by omega, fun e => (by cases e), Nat.le_refl _, fun _ => ⟨_, rfl, h.go_lt, fun j hj => ⟨_, _, _, by rw [Addr.add_mid, Nat.zero_add]; exact h.out j hj, ?_⟩⟩⟩
  rw [show (List.map (fun i => List.map (X i) (List.range n)) (List.range n)).getD j [] = List.map (X j) (List.range n) by simp [List.getD, hj]]
  exact (h.row j hj).sl

set_option maxRecDepth 100000 in
set_option maxHeartbeats 8000000 in
theorem linking_any (m : Int) (A : Option Addr) (n c : Nat) (xs : List Int) (w : World) (ha : SL w A n c xs) (hm : (Lit.int .i64 m).wf = true) :
    Calls Try.prog 9 #[.int .i64 m, .slice A n c] w (GivesLK w (bfault m xs) (lkM m xs)) := by
  by_cases h0 : bfault m xs = 0
  case neg =>
    have HC := hide (number_no m A n c xs w ha hm h0)
    rw [lkM_bad h0]
    obtain ⟨f, hf⟩ : ∃ f, bfault m xs = f := ⟨_, rfl⟩
    rw [hf] at HC h0 ⊢
    have hne : (f != 0) = true := by simpa using h0
    clear ha hm hf h0
    go_enter Try.func9, Try.ntmps9
    go_wp2_with fail
    refine HC.out.mono ?_
    rintro e w1 ⟨P, pn, pc, rfl, ho, hb⟩
    have HB := hide hb
    clear hb ho HC
    go_wp2_with fail
    go_ret2
    exact ⟨none, 0, 0, rfl, SLL.nil_ _, HB.out⟩
  case pos =>
    obtain ⟨g1, g6, gl, gx⟩ := bfault_zero h0
    obtain ⟨M, rfl⟩ : ∃ M : Nat, m = M := ⟨m.toNat, by omega⟩
    have hM1 : 1 ≤ M := by omega
    have hM6 : M ≤ 6 := by omega
    have hok : okB M xs := fun x h => by have := gx x h; omega
    have HX := hide hok
    have HPA := hide (ends_isP hok)
    have HAL : Hid ((endsL M xs).length = M) := hide (endsL_length M xs)
    have HC := hide (number_yes M A n c xs w ha hm h0)
    have HLM := hide (lkM_eq h0)
    have HA := hide ha.il
    have HXL : Hid (xs.length = n) := hide ha.il.len
    have hn30 : n ≤ 30 := by have := HXL.out; omega
    rw [HLM.out, h0]
    have HAT : Hid ((List.range M).map (lkAt (endsL M xs)) = atK M (endsL M xs) []) := hide (by have h := atK_start HAL.out; rwa [HAL.out] at h)
    rw [HAT.out] at HC
    have HLE : Hid (∀ i k, lkE M xs i k = (lkSum M (endsL M xs) i k [] xs).tdiv 2) := hide fun i k => rfl
    obtain ⟨a, haa⟩ : ∃ a, endsL M xs = a := ⟨_, rfl⟩
    rw [haa] at HC HPA HAL HLE ⊢
    have hK6 : (prtL a).length ≤ 6 := by have := prtL_le a; rw [HAL.out] at this; omega
    obtain ⟨K, hK⟩ : ∃ K, (prtL a).length = K := ⟨_, rfl⟩
    have HK := hide hK
    rw [hK] at HC hK6 ⊢
    clear ha hm h0 g1 g6 gl gx hok haa hK HLM HAT
    obtain ⟨i0, hi0, hz0, hz1, hz2⟩ := info_parts int_info
    obtain ⟨i1, hj0, hk0, hk1, hk2⟩ := info_parts slice_info
    have HI0 := hide hi0
    have HY0 := hide hz0
    have HY1 := hide hz1
    have HY2 := hide hz2
    clear hi0 hz0 hz1 hz2
    go_enter Try.func9, Try.ntmps9
    go_wp2_with fail
    refine HC.out.mono ?_
    rintro e w1 ⟨P, pn, pc, rfl, ho, hb⟩
    have hpn : M = pn := by have := ho.len; rw [zs_length, atK_length] at this; exact this
    subst hpn
    obtain ⟨gp, rfl, hgp, hgp1⟩ := ho.form (by omega)
    have HO1 := hide ho
    have HW1 := hide hb
    have hs1 := hb.size
    clear hb ho HC
    go_wp2_with (at_make; refine wpList_make_full _ rfl _ _ 23 rfl w1.heap.size 22 i1 (.slice none 0 0) 1 Try.underlying23 hj0 hk0 hk1 .i64 .i64 _ _ K rfl rfl rfl rfl (by rw [hk2]; omega) (by unfold maxLen; omega) (Nat.le_refl _) ?_; intro w3 hown3 hg3)
    have hB3 : Below w1.heap.size w1 w3 := (Below.refl _ _).grown hg3 (Nat.le_refl _) (by intro k hk; cases hk)
    have ho3 := ownV_zero hown3 (by omega)
    obtain ⟨gm, hgm⟩ : ∃ g, w1.heap.size = g := ⟨_, rfl⟩
    rw [hgm] at ho3 hB3 hs1 hgp1 ⊢
    have HM := hide (MaI.start (n := K) ho3 (fun _ _ => 0))
    have HCs : Hid (∀ i, i < K → ∃ v, w3.cell? ⟨gm, i, none⟩ = some v) := hide (fun i hi => by
      obtain ⟨g', e, hc⟩ := ho3.cellAt hi
      injection e with e
      injection e with e
      subst e
      exact ⟨_, hc.trans (by rw [List.getElem?_replicate, if_pos hi])⟩)
    have HB := hide hB3
    have HGM := hide hgm
    clear hown3 hg3 hB3 ho3 hgm hj0 hk0 hk1 hk2
    go_loopw [34] (fun iv wr => ∃ (k : Nat) (gr : Nat → Nat), iv = .int .i64 k ∧ k ≤ K ∧ Hid (MaI wr gm gm K gr k (fun _ _ => 0)) ∧ Hid (∀ i, i < K → ∃ v, wr.cell? ⟨gm, i, none⟩ = some v) ∧ Hid (Below gm w1 wr)) (fun iv _ => K - (intOf iv).toNat)
    case atStart => exact ⟨0, _, by go_num, Nat.zero_le _, HM, HCs, HB⟩
    case round =>
      clear HM HCs HB
      obtain ⟨k, gr, rfl, hk, HM, HCs, HB⟩ := hrel
      by_cases hlt : k < K
      · obtain ⟨v, hv⟩ := HCs.out k hlt
        obtain ⟨cs9, hcs9⟩ := HM.out.blk
        have HK9 := hide hcs9
        have HV := hide hv
        have hbw : gm ≤ wr.heap.size := by have := HM.out.go_lt; omega
        clear hcs9 hv
        go_wp2_with (at_make; refine wpList_make_full _ rfl _ _ 22 rfl wr.heap.size 3 i0 (.int .i64 0) 1 Try.underlying22 HI0.out HY0.out HY1.out .i64 .i64 _ _ K rfl rfl rfl rfl (by rw [HY2.out]; omega) (by unfold maxLen; omega) (Nat.le_refl _) ?_; intro w4 hown4 hg4; have hb4 : Below wr.heap.size wr w4 := (Below.refl _ _).grown hg4 (Nat.le_refl _) (by intro k hk; cases hk); have hv4 := (hb4.cell (p := ⟨gm, k, none⟩) HK9.out.lt).trans HV.out; have hf4 := (HK9.out.below hb4 HK9.out.lt).frozen k)
        have ho4 := OwnI.zero (z := #[]) hown4 (by omega)
        have HM4 := hide (HM.out.push (g := wr.heap.size) hb4 (Nat.le_refl _) (by rw [map_zero]; exact ho4.mono hbw) (ho4.lt _ rfl).2 hbw HV.out)
        have HC4 : Hid (∀ i, i < K → ∃ v, (w4.setCell ⟨gm, k, none⟩ (.slice (some ⟨wr.heap.size, 0, none⟩) K K)).cell? ⟨gm, i, none⟩ = some v) := hide (fun i hi => by
          by_cases e : i = k
          · subst e
            exact ⟨_, World.cell?_setCell_same w4 _ _ hv4⟩
          · rw [World.cell?_setCell_other w4 _ _ _ (by intro h2; simp only [Addr.mk.injEq] at h2; omega)]
            obtain ⟨v', hv'⟩ := HCs.out i hi
            exact ⟨v', (hb4.cell (p := ⟨gm, i, none⟩) HK9.out.lt).trans hv'⟩)
        have HB4 := hide ((HB.out.trans (hb4.mono hbw)).setCell (p := ⟨gm, k, none⟩) (Nat.le_refl _) (.slice (some ⟨wr.heap.size, 0, none⟩) K K))
        clear hown4 hg4 hb4 hv4 hf4 ho4 HM HB HCs HV HK9
        go_roundw
        case rel => exact ⟨k + 1, _, by go_num, by omega, HM4, HC4, HB4⟩
        case measure => simp [intOf]; omega
      · have hkK : k = K := by omega
        rw [hkK] at HM
        have HO := hide (HO1.out.below (by rw [HGM.out]; exact HB.out))
        replace HB := hide (HW1.out.trans (HB.out.mono hs1))
        clear hkK HCs HO1 HW1 HGM
        rename World => w5
        have HM0 : Hid (MaI w5 gm gm K gr K (fun i j => lkSum M a i j [] (xs.take 0))) := HM
        have HO0 : Hid (OwnI w5 w.heap.size (some ⟨gp, 0, none⟩) M pc (zs (atK M a (xs.take 0)))) := HO
        have HNE : Hid (∀ i, i < K → gr i ≠ gp) := hide fun i hi e => by have := HM.out.base_le.2 i hi; omega
        clear HM HO
        go_wp2_with fail
        go_loopw [45] (fun iv wr => ∃ k : Nat, iv = .int .i64 k ∧ k ≤ n ∧ Hid (MaI wr gm gm K gr K (fun i j => lkSum M a i j [] (xs.take k))) ∧ Hid (OwnI wr w.heap.size (some ⟨gp, 0, none⟩) M pc (zs (atK M a (xs.take k)))) ∧ Hid (Below w.heap.size w wr)) (fun iv _ => n - (intOf iv).toNat)
        case atStart => exact ⟨0, by go_num, Nat.zero_le _, HM0, HO0, HB⟩
        case round =>
          clear HM0 HO0 HB
          obtain ⟨k, rfl, hk, HM, HO, HB⟩ := hrel
          by_cases hlt2 : k < n
          · obtain ⟨ad, rfl, hc⟩ := (HA.out.below HB.out).at_ hlt2
            have hxm : xs.getD k 0 ∈ xs := by
              have hkl : k < xs.length := by rw [HXL.out]; exact hlt2
              rw [List.getD, List.getElem?_eq_getElem hkl]
              exact List.getElem_mem hkl
            have hxk := HX.out _ hxm
            obtain ⟨x, hxx⟩ : ∃ x, xs.getD k 0 = x := ⟨_, rfl⟩
            rw [hxx] at hc hxk
            have HTK : Hid (xs.take (k + 1) = xs.take k ++ [x]) := hide (by
              have hkl : k < xs.length := by rw [HXL.out]; exact hlt2
              rw [List.take_succ_eq_append_getElem hkl, ← hxx]
              simp [List.getD, List.getElem?_eq_getElem hkl])
            have hokT : okB M (xs.take k) := fun y hy => HX.out y (List.mem_of_mem_take hy)
            obtain ⟨j, hj⟩ : ∃ j, x.natAbs = j + 1 := ⟨x.natAbs - 1, by omega⟩
            have hjM : j + 1 < M := by omega
            have hps : lkAt a (lkS M (xs.take k) j) < K := by rw [← HK.out]; exact lkAt_lt HPA.out (by rw [HAL.out]; exact lkS_lt hokT (by omega))
            have hpt : lkAt a (lkS M (xs.take k) (j + 1)) < K := by rw [← HK.out]; exact lkAt_lt HPA.out (by rw [HAL.out]; exact lkS_lt hokT hjM)
            have hc0 := HO.out.cell (j := j) (by omega)
            have hc1 := HO.out.cell (j := j + 1) hjM
            rw [zs_getD, atK_getD (by omega)] at hc0
            rw [zs_getD, atK_getD hjM] at hc1
            have HNA := hide (atK_step (a := a) (u := xs.take k) hxk.1 hj hjM)
            rw [← HTK.out, atK_getD hjM, atK_getD (show j < M by omega)] at HNA
            have HCC : Hid (∀ i i', lkSum M a i i' [] (xs.take (k + 1)) = lkSum M a i i' [] (xs.take k) + ((if lkAt a (lkS M (xs.take k) j) = i ∧ lkAt a (lkS M (xs.take k) (j + 1)) = i' then x.sign else 0) + (if lkAt a (lkS M (xs.take k) (j + 1)) = i ∧ lkAt a (lkS M (xs.take k) j) = i' then x.sign else 0))) := hide fun i i' => by
              rw [HTK.out, lkSum_snoc, List.nil_append]
              unfold lkC1
              rw [hj, show j + 1 - 1 = j by omega]
            obtain ⟨s, hs⟩ : ∃ s, lkAt a (lkS M (xs.take k) j) = s := ⟨_, rfl⟩
            obtain ⟨t, ht⟩ : ∃ t, lkAt a (lkS M (xs.take k) (j + 1)) = t := ⟨_, rfl⟩
            rw [hs] at hps hc0 HNA HCC
            rw [ht] at hpt hc1 HNA HCC
            have hsg := sign_odd hxk.1
            have hwx : IntKind.i64.wrap (-x) = -x := by rw [IntKind.wrap_i64]; omega
            have HMX : Hid (max x (-x) = ((j : Int) + 1)) := hide (by omega)
            have HCM := hide (fun w => cmp_any x 0 w)
            rw [cmp1_sign] at HCM
            obtain ⟨sg, hsgg⟩ : ∃ y, x.sign = y := ⟨_, rfl⟩
            rw [hsgg] at hsg HCM HCC
            have hbd := fun i j => lkSum_bd (n := M) (a := a) i j (xs.take k) []
            have hlk : (xs.take k).length ≤ 30 := by rw [List.length_take]; omega
            obtain ⟨V, hV⟩ : ∃ V : Nat → Nat → Int, (fun i j => lkSum M a i j [] (xs.take k)) = V := ⟨_, rfl⟩
            have HV : Hid (∀ i j, lkSum M a i j [] (xs.take (k + 1)) = V i j + ((if s = i ∧ t = j then sg else 0) + (if t = i ∧ s = j then sg else 0))) := hide fun i j => by
              rw [HCC.out, ← hV]
            have hVb : ∀ i j, -60 ≤ V i j ∧ V i j ≤ 60 := fun i j => by
              have := hbd i j
              rw [← hV]
              show -60 ≤ lkSum M a i j [] (xs.take k) ∧ lkSum M a i j [] (xs.take k) ≤ 60
              omega
            rw [hV] at HM
            have HVB := hide hVb
            have hwj : IntKind.i64.wrap (j : Int) = (j : Int) := by rw [IntKind.wrap_i64]; omega
            have hwj1 : IntKind.i64.wrap ((j : Int) + 1) = (j : Int) + 1 := by rw [IntKind.wrap_i64]; omega
            clear hs ht hsgg hbd hlk hV HCC HTK hxx hxm hxk hj hokT hVb
            go_upto_region 14 with ((with_reducible show wpList _ _ _ (Oper.mk _ (.call { callee := .builtin .max, args := _, argTypes := _ }) _ _ _ _ :: _) _ _); refine wpList_gives rfl (gives_maxI rfl rfl rfl HMX.out) ?_)
            go_region
            go_upto_region 15 with fail
            have hwd : Below w.heap.size w wr.drew := HB.out.drew
            replace HM := hide (HM.out.below (show Below wr.heap.size wr wr.drew from (Below.refl _ _).drew))
            replace HO := hide HO.out.drew
            replace HB := hide hwd
            clear hwd hc0 hc1 hc
            generalize wr.drew = w6 at *
            go_wp2_with fail
            refine (HCM.out _).mono ?_
            rintro e w0 ⟨rfl, hww⟩
            subst hww
            go_upto_region 16 with fail
            have ho1 := HM.out.out s hps
            have hc1 := HM.out.cell hps hpt
            have hf1 := HM.out.frozen hps t
            have hvb := HVB.out s t
            obtain ⟨v, hv⟩ : ∃ y, V s t = y := ⟨_, rfl⟩
            rw [hv] at hc1 hvb
            have hadd1 : IntKind.i64.wrap (v + sg) = v + sg := by rw [IntKind.wrap_i64]; omega
            have hgs : gm ≤ gr s := HM.out.base_le.2 s hps
            have hgt : gm ≤ gr t := HM.out.base_le.2 t hpt
            have HM9 := hide (HM.out.set_ hps hpt (v + sg))
            have HO9 := hide (HO.out.off (b := gr s) (fun e => HNE.out s hps e.symm) t (.int .i64 (v + sg)))
            have HB9 := hide (HB.out.setCell (p := ⟨gr s, t, none⟩) (Nat.le_trans hs1 hgs) (.int .i64 (v + sg)))
            clear HM HO HB
            go_upto_region 17 with fail
            clear ho1 hc1 hf1
            have HV1 : Hid (∀ i j, (if i = s ∧ j = t then v + sg else V i j) = V i j + (if s = i ∧ t = j then sg else 0)) := hide fun i j => by
              by_cases e : s = i ∧ t = j
              · obtain ⟨rfl, rfl⟩ := e
                rw [if_pos ⟨rfl, rfl⟩, if_pos ⟨rfl, rfl⟩, hv]
              · rw [if_neg (fun h => e ⟨h.1.symm, h.2.symm⟩), if_neg e, Int.add_zero]
            obtain ⟨V1, hV1⟩ : ∃ V1 : Nat → Nat → Int, (fun i j => if i = s ∧ j = t then v + sg else V i j) = V1 := ⟨_, rfl⟩
            rw [hV1] at HM9
            have HW1 : Hid (∀ i j, V1 i j = V i j + (if s = i ∧ t = j then sg else 0)) := hide fun i j => by rw [← hV1]; exact HV1.out i j
            have hvb2 : -61 ≤ V1 t s ∧ V1 t s ≤ 61 := by
              rw [HW1.out]
              have := HVB.out t s
              split <;> omega
            obtain ⟨v2, hv2⟩ : ∃ y, V1 t s = y := ⟨_, rfl⟩
            rw [hv2] at hvb2
            have hadd2 : IntKind.i64.wrap (v2 + sg) = v2 + sg := by rw [IntKind.wrap_i64]; omega
            clear hv HV1 hV1 hvb hadd1
            generalize w6.setCell ⟨gr s, t, none⟩ (.int .i64 (v + sg)) = w9 at *
            have ho2 := HM9.out.out t hpt
            have hc2 := HM9.out.cell hpt hps
            have hf2 := HM9.out.frozen hpt s
            rw [hv2] at hc2
            have HMX2 := hide ((HM9.out.set_ hpt hps (v2 + sg)).congr (Y := fun i j => lkSum M a i j [] (xs.take (k + 1))) fun i hi j hj => by
              show (if i = t ∧ j = s then v2 + sg else V1 i j) = lkSum M a i j [] (xs.take (k + 1))
              rw [HV.out]
              have h1 := HW1.out i j
              by_cases e : t = i ∧ s = j
              · obtain ⟨rfl, rfl⟩ := e
                rw [if_pos (show t = t ∧ s = s from ⟨rfl, rfl⟩), ← hv2, h1, Int.add_assoc]
                congr 2
                exact (if_pos ⟨rfl, rfl⟩).symm
              · rw [if_neg (fun h => e ⟨h.1.symm, h.2.symm⟩), if_neg e, h1]
                omega)
            have HOX := hide (HO9.out.off (b := gr t) (fun e => HNE.out t hpt e.symm) s (.int .i64 (v2 + sg)))
            have HBX := hide (HB9.out.setCell (p := ⟨gr t, s, none⟩) (Nat.le_trans hs1 hgt) (.int .i64 (v2 + sg)))
            clear HM9 HO9 HB9 HV HW1 hv2 hvb2
            go_upto_region 18 with fail
            clear ho2 hc2 hf2 hadd2
            generalize w9.setCell ⟨gr t, s, none⟩ (.int .i64 (v2 + sg)) = wx at *
            have hcx0 := HOX.out.cell (j := j) (by omega)
            have hcx1 := HOX.out.cell (j := j + 1) hjM
            have hfx0 := HOX.out.frozen j
            have hfx1 := HOX.out.frozen (j + 1)
            have HON := hide ((HOX.out.set_ j (t : Int)).set_ (j + 1) (s : Int))
            rw [zs_set2, HNA.out] at HON
            have HMN := hide ((HMX2.out.off (b := gp) (by omega) HNE.out j (.int .i64 (t : Int))).off (b := gp) (by omega) HNE.out (j + 1) (.int .i64 (s : Int)))
            have HBN := hide ((HBX.out.setCell (p := ⟨gp, j, none⟩) hgp (.int .i64 (t : Int))).setCell (p := ⟨gp, j + 1, none⟩) hgp (.int .i64 (s : Int)))
            clear HOX HMX2 HBX HNA
            generalize (zs (atK M a (xs.take k))).getD j 0 = z0 at *
            generalize (zs (atK M a (xs.take k))).getD (j + 1) 0 = z1 at *
            go_wp2_with fail
            go_roundw
            case rel => exact ⟨k + 1, by go_num, by omega, HMN, HON, HBN⟩
            case measure => simp [intOf]; omega
          · have HME : Hid (MaI wr gm gm K gr K (fun i j => lkSum M a i j [] xs)) := hide (by
              have h := HM.out
              rwa [List.take_of_length_le (by rw [HXL.out]; omega)] at h)
            clear HM HO HNE
            rename World => w10
            go_wp2_with fail
            go_loopw [96] (fun iv wr => ∃ k : Nat, iv = .int .i64 k ∧ k ≤ K ∧ Hid (MaI wr gm gm K gr K (fun i j => if i < k then (lkSum M a i j [] xs).tdiv 2 else lkSum M a i j [] xs)) ∧ Hid (Below w.heap.size w wr)) (fun iv _ => K - (intOf iv).toNat)
            case atStart => exact ⟨0, by go_num, Nat.zero_le _, hide (HME.out.congr fun i _ j _ => (if_neg (Nat.not_lt_zero _)).symm), HB⟩
            case round =>
              clear HME HB
              obtain ⟨i, rfl, hi, HM, HB⟩ := hrel
              by_cases hlt3 : i < K
              · have hoi := HM.out.out i hlt3
                rename World => w11
                go_wp2_with fail
                go_loopw [102] (fun iv wr => ∃ j : Nat, iv = .int .i64 j ∧ j ≤ K ∧ Hid (MaI wr gm gm K gr K (fun i' j' => if i' < i ∨ i' = i ∧ j' < j then (lkSum M a i' j' [] xs).tdiv 2 else lkSum M a i' j' [] xs)) ∧ Hid (Below w.heap.size w wr)) (fun iv _ => K - (intOf iv).toNat)
                case atStart => exact ⟨0, by go_num, Nat.zero_le _, hide (HM.out.congr fun i' _ j' _ => by simp), HB⟩
                case round =>
                  clear HM HB hoi
                  obtain ⟨j, rfl, hj, HM, HB⟩ := hrel
                  by_cases hjt : j < K
                  · have hc := HM.out.cell hlt3 hjt
                    rw [if_neg (by omega)] at hc
                    have hbd := lkSum_bd (n := M) (a := a) i j xs []
                    have hxl := HXL.out
                    have hgi := HM.out.base_le.2 i hlt3
                    have hfz := HM.out.frozen hlt3 j
                    obtain ⟨v, hv⟩ : ∃ y, lkSum M a i j [] xs = y := ⟨_, rfl⟩
                    rw [hv] at hc hbd
                    obtain ⟨u, hu⟩ : ∃ u, v.tdiv 2 = u := ⟨_, rfl⟩
                    have hub : -60 ≤ u ∧ u ≤ 60 := by
                      have h1 := Int.natAbs_tdiv_le_natAbs v 2
                      rw [hu] at h1
                      omega
                    have hw : IntKind.i64.wrap u = u := by rw [IntKind.wrap_i64]; omega
                    have HM2 := hide ((HM.out.set_ hlt3 hjt u).congr (Y := fun i' j' => if i' < i ∨ i' = i ∧ j' < j + 1 then (lkSum M a i' j' [] xs).tdiv 2 else lkSum M a i' j' [] xs) fun i' _ j' _ => by
                      show (if i' = i ∧ j' = j then u else if i' < i ∨ i' = i ∧ j' < j then (lkSum M a i' j' [] xs).tdiv 2 else lkSum M a i' j' [] xs) = _
                      by_cases e : i' = i ∧ j' = j
                      · obtain ⟨rfl, rfl⟩ := e
                        rw [if_pos ⟨rfl, rfl⟩, if_pos (by omega), hv, hu]
                      · rw [if_neg e]
                        by_cases e2 : i' < i ∨ i' = i ∧ j' < j
                        · rw [if_pos e2, if_pos (by omega)]
                        · rw [if_neg e2, if_neg (by omega)])
                    have HB2 := hide (HB.out.setCell (p := ⟨gr i, j, none⟩) (Nat.le_trans hs1 hgi) (.int .i64 u))
                    clear hbd hv hub HM HB hgi hxl
                    go_wp2_with fail
                    go_roundw
                    case rel => exact ⟨j + 1, by go_num, by omega, HM2, HB2⟩
                    case measure => simp [intOf]; omega
                  · have HM3 : Hid (MaI wr gm gm K gr K (fun i' j' => if i' < i + 1 then (lkSum M a i' j' [] xs).tdiv 2 else lkSum M a i' j' [] xs)) := hide (HM.out.congr fun i' _ j' hj' => by
                      show (if i' < i ∨ i' = i ∧ j' < j then _ else _) = if i' < i + 1 then _ else _
                      by_cases e : i' < i + 1
                      · rw [if_pos e, if_pos (by omega)]
                      · rw [if_neg e, if_neg (by omega)])
                    clear HM
                    go_wp2_with fail
                    go_roundw
                    case rel => exact ⟨i + 1, by go_num, by omega, HM3, HB⟩
                    case measure => simp [intOf]; omega
              · have HML := hide (HM.out.congr (Y := fun i' j' => lkE M xs i' j') fun i' hi' j' _ => by
                  show (if i' < i then _ else _) = _
                  rw [if_pos (by omega), HLE.out])
                clear HM
                go_wp2_with fail
                go_ret2
                exact ⟨_, _, _, rfl, HML.out.sll (by omega), HB.out⟩
end Go.Proofs.Ytndgffiihbdppaa
/- Package link keeps its contracts. -/
namespace Go.Proofs.Ytndgffiihbdppaa
set_option linter.unusedVariables false
set_option linter.unusedSimpArgs false

theorem linkC : LinkC where
  parts := components_any -- 8
  link := linking_any -- 9
  knot := isKnot_any -- 10
end Go.Proofs.Ytndgffiihbdppaa
/- A sum of planar matchings with factors, letter by letter: the bracket without following each choice (mathematics of package jones). -/
namespace Go.Proofs.Ytndgffiihbdppaa
set_option linter.unusedVariables false
set_option linter.unusedSimpArgs false

/-- A sum of matchings: entries with distinct keys. -/
abbrev Cmb := List (List Nat × LP)
/-- The sum of the factors, each times a function of its matching. -/
noncomputable def sumO (G : List Nat → LP) : Cmb → LP
  | [] => 0
  | p :: o => p.2 * G p.1 + sumO G o
noncomputable def getO : Cmb → List Nat → LP
  | [], _ => 0
  | p :: o, d => if p.1 = d then p.2 else getO o d
noncomputable def putO : Cmb → List Nat → LP → Cmb
  | [], d, q => [(d, q)]
  | p :: o, d, q => if p.1 = d then (d, q) :: o else p :: putO o d q
noncomputable def addOj (o : Cmb) (d : List Nat) (q : LP) : Cmb := putO o d (getO o d + q)
theorem sumO_add (G : List Nat → LP) (d : List Nat) (q : LP) : ∀ o : Cmb, sumO G (addOj o d q) = sumO G o + q * G d
  | [] => by
    show (0 + q) * G d + 0 = 0 + q * G d
    rw [CR.zero_add, CR.add_comm]
  | p :: o => by
    have ih := sumO_add G d q o
    unfold addOj at ih ⊢
    unfold putO getO
    by_cases h : p.1 = d
    · rw [if_pos h, if_pos h]
      show (p.2 + q) * G d + sumO G o = p.2 * G p.1 + sumO G o + q * G d
      rw [h, CR.add_mul, CR.add_assoc, CR.add_assoc, CR.add_comm (q * G d)]
    · rw [if_neg h, if_neg h]
      show p.2 * G p.1 + sumO G (putO o d (getO o d + q)) = _
      rw [ih, ← CR.add_assoc]
      rfl
theorem sumO_perm (G : List Nat → LP) {a b : Cmb} (h : a.Perm b) : sumO G a = sumO G b := by
  induction h with
  | nil => rfl
  | cons x _ ih => show _ + _ = _ + _; rw [ih]
  | swap x y l =>
    show y.2 * G y.1 + (x.2 * G x.1 + sumO G l) = x.2 * G x.1 + (y.2 * G y.1 + sumO G l)
    rw [← CR.add_assoc, ← CR.add_assoc, CR.add_comm (y.2 * G y.1)]
  | trans _ _ h1 h2 => exact h1.trans h2
/-- Bounds: all factors together. -/
inductive NmO (E : Nat) : Cmb → Nat → Prop
  | nil : NmO E [] 0
  | cons (d : List Nat) (q : LP) (o : Cmb) (v V : Nat) : LP.N1 q E v → NmO E o V → NmO E ((d, q) :: o) (v + V)
theorem NmO.mono {E E' : Nat} {o : Cmb} {V : Nat} (h : NmO E o V) (he : E ≤ E') : NmO E' o V := by
  induction h with
  | nil => exact .nil
  | cons d q o v V hq _ ih => exact .cons d q o v V (hq.mono he (Nat.le_refl _)) ih
theorem NmO.inv {E : Nat} {d : List Nat} {q : LP} {o : Cmb} {V : Nat} (h : NmO E ((d, q) :: o) V) : ∃ v v', LP.N1 q E v ∧ NmO E o v' ∧ v + v' = V := by
  cases h with
  | cons _ _ _ v V' hq ho => exact ⟨v, V', hq, ho, rfl⟩
theorem NmO.perm {E : Nat} {a b : Cmb} (h : a.Perm b) : ∀ {V : Nat}, NmO E a V → NmO E b V := by
  induction h with
  | nil => exact fun h => h
  | cons x _ ih =>
    intro V h
    obtain ⟨v, v', h1, h2, rfl⟩ := NmO.inv (d := x.1) (q := x.2) h
    exact .cons x.1 x.2 _ _ _ h1 (ih h2)
  | swap x y l =>
    intro V h
    obtain ⟨v, v', h1, h2, rfl⟩ := NmO.inv (d := y.1) (q := y.2) h
    obtain ⟨u, u', h3, h4, rfl⟩ := NmO.inv (d := x.1) (q := x.2) h2
    have := NmO.cons x.1 x.2 _ _ _ h3 (NmO.cons y.1 y.2 _ _ _ h1 h4)
    rwa [show u + (v + u') = v + (u + u') by omega] at this
  | trans _ _ h1 h2 => exact fun h => h2 (h1 h)
theorem NmO.get {E : Nat} {o : Cmb} {V : Nat} (h : NmO E o V) (d : List Nat) : ∃ v, v ≤ V ∧ LP.N1 (getO o d) E v := by
  induction h with
  | nil => exact ⟨0, Nat.le_refl _, LP.N1.zero.mono (Nat.zero_le _) (Nat.le_refl _)⟩
  | cons e q o v V hq _ ih =>
    unfold getO
    by_cases h : e = d
    · rw [if_pos h]; exact ⟨v, by omega, hq⟩
    · rw [if_neg h]
      obtain ⟨u, hu, h1⟩ := ih
      exact ⟨u, by omega, h1⟩
theorem NmO.add {E : Nat} {o : Cmb} {V : Nat} (h : NmO E o V) (d : List Nat) {q : LP} {u : Nat} (hq : LP.N1 q E u) : NmO E (addOj o d q) (V + u) := by
  unfold addOj
  induction h with
  | nil =>
    have := NmO.cons d (0 + q) [] u 0 (by rw [CR.zero_add]; exact hq) .nil
    show NmO E [(d, 0 + q)] (0 + u)
    rwa [Nat.add_comm 0 u]
  | cons e p o v V hp ho ih =>
    unfold getO putO
    by_cases h : e = d
    · rw [if_pos h, if_pos h]
      have := NmO.cons d (p + q) o (v + u) V (hp.add hq) ho
      rwa [show v + V + u = v + u + V by omega]
    · rw [if_neg h, if_neg h]
      have := NmO.cons e p _ v (V + u) hp ih
      rwa [Nat.add_assoc]
theorem putO_keys {d : List Nat} {q : LP} : ∀ {o : Cmb} {x : List Nat}, x ∈ (putO o d q).map (·.1) → x = d ∨ x ∈ o.map (·.1)
  | [], x, h => .inl (by simpa [putO] using h)
  | p :: o, x, h => by
    unfold putO at h
    by_cases e : p.1 = d
    · rw [if_pos e] at h
      rcases List.mem_cons.1 h with h | h
      · exact .inl h
      · exact .inr (List.mem_cons_of_mem _ h)
    · rw [if_neg e] at h
      rcases List.mem_cons.1 h with h | h
      · exact .inr (by rw [h]; exact List.mem_cons_self)
      · rcases putO_keys h with h | h
        · exact .inl h
        · exact .inr (List.mem_cons_of_mem _ h)

/-! ### sums over choices -/
theorem jq_pull {n : Nat} (c : LP) : ∀ (w : List Int) (F : List (List Nat) → LP), tS n (fun l => c * F l) w = c * tS n F w
  | [], F => rfl
  | x :: w, F => by
    show LP.term _ _ * tS n (fun l => c * F (_ :: l)) w + LP.term _ _ * tS n (fun l => c * F (_ :: l)) w = c * (LP.term _ _ * tS n _ w + LP.term _ _ * tS n _ w)
    rw [jq_pull c w, jq_pull c w, CR.mul_add, ← CR.mul_assoc, ← CR.mul_assoc, ← CR.mul_assoc, ← CR.mul_assoc, CR.mul_comm c, CR.mul_comm c]
theorem jq_add4 {R : Type} [CR R] (a b p q r s : R) : a * (p + q) + b * (r + s) = (a * p + b * r) + (a * q + b * s) := by
  rw [CR.mul_add, CR.mul_add]
  generalize a * p = x
  generalize a * q = y
  generalize b * r = z
  generalize b * s = t
  rw [CR.add_assoc, CR.add_assoc, ← CR.add_assoc y, CR.add_comm y, CR.add_assoc]
theorem jq_plus {n : Nat} : ∀ (w : List Int) (F G : List (List Nat) → LP), tS n (fun l => F l + G l) w = tS n F w + tS n G w
  | [], F, G => rfl
  | x :: w, F, G => by
    show LP.term _ _ * tS n (fun l => F (_ :: l) + G (_ :: l)) w + LP.term _ _ * tS n (fun l => F (_ :: l) + G (_ :: l)) w = (LP.term _ _ * tS n _ w + LP.term _ _ * tS n _ w) + (LP.term _ _ * tS n _ w + LP.term _ _ * tS n _ w)
    rw [jq_plus w, jq_plus w, jq_add4]
theorem jq_dlt : ∀ a b : Nat, dlt (a + b) = dlt a * dlt b
  | a, 0 => (CR.mul_one _).symm
  | a, b + 1 => by
    show dlt (a + b) * _ = dlt a * (dlt b * _)
    rw [jq_dlt a b, CR.mul_assoc]

/-- The sum of matchings behind a word: each choice leads to its matching. -/
def Beh (n : Nat) (w : List Int) (o : Cmb) : Prop := ∀ G : List Nat → LP, sumO G o = tS n (fun l => dlt (actS n l).2 * G (actS n l).1) w
theorem Beh.nil (n : Nat) : Beh n [] (addOj [] (Tl.straight n) (LP.term 0 1)) := fun G => by
  rw [sumO_add]
  show 0 + LP.term 0 1 * G (Tl.straight n) = 1 * G (Tl.straight n)
  rw [CR.zero_add]
  rfl
/-- What a letter makes of one entry. -/
noncomputable def stepO (n : Nat) (x : Int) (o : Cmb) (d : List Nat) (q : LP) : Cmb :=
  addOj (addOj o d (q * LP.term (sgx x) 1)) (Tl.mul n d (Tl.hook n x.natAbs)).1 (q * LP.term (-sgx x) 1 * dlt (Tl.mul n d (Tl.hook n x.natAbs)).2)
/-- The function that a letter leads back to. -/
noncomputable def backO (n : Nat) (x : Int) (G : List Nat → LP) (d : List Nat) : LP :=
  LP.term (sgx x) 1 * G d + LP.term (-sgx x) 1 * (dlt (Tl.mul n d (Tl.hook n x.natAbs)).2 * G (Tl.mul n d (Tl.hook n x.natAbs)).1)
theorem stepO_sum (n : Nat) (x : Int) (o : Cmb) (d : List Nat) (q : LP) (G : List Nat → LP) : sumO G (stepO n x o d q) = sumO G o + q * backO n x G d := by
  unfold stepO backO
  rw [sumO_add, sumO_add, CR.mul_add, CR.add_assoc]
  simp only [CR.mul_assoc]
theorem Beh.snoc {n : Nat} (h1 : 1 ≤ n) (h6 : n ≤ 6) {w : List Int} {o o' : Cmb} {x : Int} (h : Beh n w o) (hw : ∀ y ∈ w, y ≠ 0 ∧ y.natAbs < n) (hx : x ≠ 0 ∧ x.natAbs < n)
    (hs : ∀ G, sumO G o' = sumO (backO n x G) o) : Beh n (w ++ [x]) o' := fun G => by
  rw [hs, h, tS_snoc, ← jq_pull, ← jq_pull, ← jq_plus]
  refine tS_congr fun l hl => ?_
  have hwd := hl.wd hw
  have hp := actS_plan h1 h6 hwd
  rw [actS_snoc, actS_snoc, (Tl.unit_r h6 hp).1]
  unfold backO
  simp only [Nat.add_zero]
  rw [jq_dlt, CR.mul_add]
  generalize dlt (actS n l).2 = a
  generalize dlt (Tl.mul n (actS n l).1 (Tl.hook n x.natAbs)).2 = b
  generalize G (actS n l).1 = c
  generalize G (Tl.mul n (actS n l).1 (Tl.hook n x.natAbs)).1 = e
  generalize LP.term (sgx x) 1 = p
  generalize LP.term (-sgx x) 1 = q
  rw [← CR.mul_assoc a p, CR.mul_comm a p, CR.mul_assoc p, ← CR.mul_assoc a q, CR.mul_comm a q, CR.mul_assoc q, CR.mul_assoc a b]
theorem Beh.closed {n : Nat} (h1 : 1 ≤ n) (h6 : n ≤ 6) {w : List Int} {o : Cmb} (h : Beh n w o) (hw : ∀ y ∈ w, y ≠ 0 ∧ y.natAbs < n) (hc : ∀ d ∈ Tl.plan n, 1 ≤ Tl.cir n d) :
    sumO (fun d => dlt (Tl.cir n d - 1)) o = brk n w := by
  rw [h]
  unfold brk
  refine tS_congr fun l hl => ?_
  have hp := actS_plan h1 h6 (hl.wd hw)
  have := hc _ hp
  unfold lps
  rw [← jq_dlt, show (actS n l).2 + (Tl.cir n (actS n l).1 - 1) = (actS n l).2 + Tl.cir n (actS n l).1 - 1 by omega]

/-! ### bounds of a step -/
theorem NmO.step {E n : Nat} {x : Int} {o : Cmb} {V : Nat} {d : List Nat} {q : LP} {v : Nat} (h : NmO (E + 3) o V) (hq : LP.N1 q E v) (hm : (Tl.mul n d (Tl.hook n x.natAbs)).2 ≤ 1) : NmO (E + 3) (stepO n x o d q) (V + 3 * v) := by
  unfold stepO
  have a1 := hq.mul (LP.N1.term (sgx x) 1)
  have a2 := (hq.mul (LP.N1.term (-sgx x) 1)).mul (dlt_n1 (Tl.mul n d (Tl.hook n x.natAbs)).2)
  have e1 : (1 : Int).natAbs = 1 := rfl
  rw [sgx_abs, e1, Nat.mul_one] at a1
  rw [Int.natAbs_neg, sgx_abs, e1, Nat.mul_one] at a2
  have e2 : 2 ^ (Tl.mul n d (Tl.hook n x.natAbs)).2 ≤ 2 := Nat.pow_le_pow_right (n := 2) (by omega) hm
  have h2 := (h.add d (a1.mono (by omega) (Nat.le_refl _))).add (Tl.mul n d (Tl.hook n x.natAbs)).1 (a2.mono (E' := E + 3) (by omega) (Nat.mul_le_mul_left v e2))
  rwa [show V + v + v * 2 = V + 3 * v by omega] at h2
end Go.Proofs.Ytndgffiihbdppaa
