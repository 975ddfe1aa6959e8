/- Several texts in one. -/
import Derived.Test.YtndgffiihbdppaaPart8
import Derived.Test.YtndgffiihbdppaaBase2
import Derived.Test.YtndgffiihbdppaaPart6
import Derived.Test.YtndgffiihbdppaaPart7
import Derived.BigRegion
import Derived.Test.YtndgffiihbdppaaPart2
import Derived.Test.YtndgffiihbdppaaPart1
/- Package link: Components, IsKnot. -/
namespace Go.Proofs.Ytndgffiihbdppaa
set_option linter.unusedVariables false
set_option linter.unusedSimpArgs false
open Go.RowKit

theorem WR.empty {w : World} {base g K c : Nat} (h : OwnV w base (some ⟨g, 0, none⟩) K c (List.replicate K (.slice none 0 0))) : WR w base (some ⟨g, 0, none⟩) K c (List.replicate K (.slice none 0 0)) (List.replicate K []) := by
  refine ⟨h, ⟨by simp [zssW], fun p hp => ?_⟩, fun p p' v v' _ hv _ b hb => ?_⟩
  · rw [List.length_replicate] at hp
    exact ⟨none, 0, 0, by simp [hp], by rw [zssW_getD (by simpa using hp)]; simp [List.getD, hp]; exact OwnI.nil_ _ _⟩
  · rw [List.getElem?_replicate] at hv
    split at hv
    · injection hv with hv
      rw [← hv] at hb
      cases hb
    · cases hv
theorem lkL_bad {m : Int} {xs : List Int} (h : bfault m xs ≠ 0) : lkL m xs = [] := by unfold lkL; rw [if_neg h]
theorem lkL_good {M : Nat} {xs : List Int} (h : bfault (M : Int) xs = 0) : lkL (M : Int) xs = zssW (prtL (endsL M xs)) := by unfold lkL zssW; rw [if_pos h, Int.toNat_natCast]
set_option maxRecDepth 100000 in
set_option maxHeartbeats 8000000 in
theorem components_any (m : Int) (A : Option Addr) (n c : Nat) (xs : List Int) (w : World) (ha : SL w A n c xs) (hm : (Lit.int .i64 m).wf = true) :
    Calls Try.prog 8 #[.int .i64 m, .slice A n c] w (GivesLK w (bfault m xs) (lkL m xs)) := by
  by_cases h0 : bfault m xs = 0
  case neg =>
    have HC := hide (number_no m A n c xs w ha hm h0)
    rw [lkL_bad h0]
    obtain ⟨f, hf⟩ : ∃ f, bfault m xs = f := ⟨_, rfl⟩
    rw [hf] at HC h0 ⊢
    have hne : (f != 0) = true := by simpa using h0
    clear ha hm hf h0
    go_enter Try.func8, Try.ntmps8
    go_wp2_with fail
    refine HC.out.mono ?_
    rintro e w1 ⟨P, pn, pc, rfl, ho, hb⟩
    have HB := hide hb
    clear hb ho HC
    go_wp2_with fail
    go_ret2
    exact ⟨none, 0, 0, rfl, SLL.nil_ _, HB.out⟩
  case pos =>
    obtain ⟨g1, g6, gl, gx⟩ := bfault_zero h0
    obtain ⟨M, rfl⟩ : ∃ M : Nat, m = M := ⟨m.toNat, by omega⟩
    have hM6 : M ≤ 6 := by omega
    have hok : okB M xs := fun x h => by have := gx x h; omega
    have HPA := hide (ends_isP hok)
    have HAL : Hid ((endsL M xs).length = M) := hide (endsL_length M xs)
    have HC := hide (number_yes M A n c xs w ha hm h0)
    rw [lkL_good h0, h0]
    obtain ⟨a, haa⟩ : ∃ a, endsL M xs = a := ⟨_, rfl⟩
    rw [haa] at HC HPA HAL ⊢
    have hK6 : (prtL a).length ≤ 6 := by have := prtL_le a; rw [HAL.out] at this; omega
    obtain ⟨K, hK⟩ : ∃ K, (prtL a).length = K := ⟨_, rfl⟩
    have HK := hide hK
    rw [hK] at HC hK6
    clear ha hm h0 g1 g6 gl gx hok haa hK
    obtain ⟨i0, hi0, hz0, hz1, hz2⟩ := info_parts int_info
    obtain ⟨i1, hj0, hk0, hk1, hk2⟩ := info_parts slice_info
    have HI0 := hide hi0
    have HY0 := hide hz0
    have HY1 := hide hz1
    have HY2 := hide hz2
    clear hi0 hz0 hz1 hz2
    go_enter Try.func8, Try.ntmps8
    go_wp2_with fail
    refine HC.out.mono ?_
    rintro e w1 ⟨P, pn, pc, rfl, ho, hb⟩
    have hpn : M = pn := by have := ho.len; rw [zs_length, List.length_map, List.length_range] at this; exact this
    subst hpn
    have HO1 := hide ho.il
    have HW1 := hide hb
    have hs1 := hb.size
    clear hb ho HC
    go_wp2_with (at_make; refine wpList_make_full _ rfl _ _ 23 rfl w1.heap.size 22 i1 (.slice none 0 0) 1 Try.underlying23 hj0 hk0 hk1 .i64 .i64 _ _ K rfl rfl rfl rfl (by rw [hk2]; omega) (by unfold maxLen; omega) (Nat.le_refl _) ?_; intro w2 hown2 hg2)
    have hB2 : Below w1.heap.size w1 w2 := (Below.refl _ _).grown hg2 (Nat.le_refl _) (by intro k hk; cases hk)
    have ho2 := ownV_zero hown2 (by omega)
    have HR2 := hide (WR.empty ho2)
    obtain ⟨g, hg⟩ : ∃ g, w1.heap.size = g := ⟨_, rfl⟩
    have HG := hide hg
    rw [hg] at HR2 hB2 hs1 ⊢
    have HB2 := hide hB2
    have HR0 : Hid (∃ vs, WR w2 g (some ⟨g, 0, none⟩) K K vs (rwK a 0)) := hide ⟨_, by rw [rwK_start, HK.out]; exact HR2.out⟩
    clear hown2 hg2 ho2 hB2 hg hj0 hk0 hk1 hk2 HR2
    go_loopw [26] (fun i wr => ∃ k : Nat, k ≤ M ∧ i = .int .i64 k ∧ Hid (∃ vs, WR wr g (some ⟨g, 0, none⟩) K K vs (rwK a k)) ∧ Hid (Below g w1 wr)) (fun i _ => M - (intOf i).toNat)
    case atStart => exact ⟨0, Nat.zero_le _, rfl, HR0, HB2⟩
    case round =>
      clear HR0 HB2
      obtain ⟨i, hi, rfl, HR, HB⟩ := hrel
      by_cases hlt : i < M
      · obtain ⟨vs, hwr⟩ := HR.out
        have hil : i < a.length := by rw [HAL.out]; exact hlt
        obtain ⟨ad, rfl, hc⟩ := (HO1.out.below (by rw [HG.out]; exact HB.out)).at_ hlt
        rw [zs_getD, show ((List.range M).map (lkAt a)).getD i 0 = lkAt a i by simp [List.getD, hlt]] at hc
        have hbK : lkAt a i < K := by rw [← HK.out]; exact lkAt_lt HPA.out hil
        have HNW := hide (rwK_put HPA.out hil)
        have hrl : (rwK a i).getD (lkAt a i) [] = (List.range i).filter fun s => decide (lkAt a s = lkAt a i) := rwK_getD (by rw [HK.out]; exact hbK)
        obtain ⟨b, hb⟩ : ∃ b, lkAt a i = b := ⟨_, rfl⟩
        rw [hb] at hc hbK HNW hrl
        obtain ⟨R, m', cc, hvb, hob⟩ := hwr.row hbK
        have hm6 : m' ≤ 1000 := by
          have h1 := hob.len
          rw [zs_length, hrl] at h1
          have h2 : ((List.range i).filter fun s => decide (lkAt a s = b)).length ≤ i := by
            refine Nat.le_trans (List.length_filter_le _ _) ?_
            rw [List.length_range]
            exact Nat.le_refl _
          omega
        obtain ⟨gQ, e, hcQ⟩ := hwr.own.cellAt hbK
        injection e with e
        injection e with e
        subst e
        rw [hvb] at hcQ
        have HVB := hide hvb
        have HOB := hide hob
        have HWR := hide hwr
        have hgs := HB.out.size
        have hgr : g ≤ wr.heap.size := by have := HG.out; omega
        obtain ⟨curQ, BQ⟩ : ∃ cur, Blk wr g 22 cur := by
          rcases hwr.own.own.2 with ⟨e, _⟩ | ⟨g', cap, cur, e, _, hh, _⟩
          · cases e
          · simp only [Value.slice.injEq, Option.some.injEq, Addr.mk.injEq, and_true, true_and] at e
            obtain ⟨rfl, _⟩ := e
            exact ⟨cur, hh⟩
        have HBQ := hide BQ
        have hcQ2 : curQ[b]? = some (.slice R m' cc) := by rw [← BQ.cell b]; exact hcQ
        clear hb hrl hvb hob hwr hil HR BQ
        go_wp2_with (at_builtin; refine wpList_append_int _ rfl (.tmp 36) (.tmp 38) 22 rfl g i0 Try.underlying22 HI0.out HY0.out HY1.out HY2.out R m' cc (zs ((rwK a i).getD b [])) rfl (HOB.out.alloc _) (some ⟨wr.heap.size, 0, none⟩) 1 1 [(i : Int)] rfl (IL.lit wr [(i : Int)] (by simp) rfl rfl) (by omega) (Nat.le_trans hgr (by simp)) ?_; intro R' c' w12 hap; have hrow : (Value.slice R (m' + 1) cc).ownBlock = (Value.slice R m' cc).ownBlock := ownBlock_len R (m' + 1) m' cc cc; have BQ3 := (HBQ.out.alloc (.cells #[.int .i64 i] 3)).grown hap.grown (by rw [hrow]; exact fun e => ownI_ne_ HOB.out HBQ.out (by decide) e); have hcQ3 : w12.cell? ⟨g, b, none⟩ = some (.slice R m' cc) := (BQ3.cell b).trans hcQ2; have hfQ3 := BQ3.frozen b)
        have HW3 := hide (HWR.out.put (i := i) hgr hbK HVB.out HOB.out hap)
        rw [← HNW.out] at HW3
        have HB13 : Hid (Below g w1 (w12.setCell ⟨g, b, none⟩ (.slice R' (m' + 1) c'))) := hide (((HB.out.alloc hgr _).grown hap.grown (Nat.le_trans hgr (by simp)) (fun b' hb' => (HOB.out.lt b' (by rw [← hrow]; exact hb')).1)).setCell (p := ⟨g, b, none⟩) (Nat.le_refl _) _)
        clear hap BQ3 hcQ3 hfQ3 hrow hc hcQ hcQ2
        go_roundw
        case rel => exact ⟨i + 1, by omega, by go_num, hide ⟨_, HW3.out⟩, HB13⟩
        case measure => simp [intOf]; omega
      · have hin : i = M := by omega
        obtain ⟨vs, hwr⟩ := HR.out
        have h2 := rwK_end HPA.out
        rw [HAL.out] at h2
        rw [hin, h2] at hwr
        have HWR := hide hwr
        clear hwr h2 hin HR
        go_wp2_with fail
        go_ret2
        exact ⟨_, _, _, rfl, SLL.of_rows HWR.out.own HWR.out.rows, HW1.out.trans (HB.out.mono hs1)⟩

set_option maxRecDepth 100000 in
set_option maxHeartbeats 4000000 in
theorem isKnot_any (m : Int) (A : Option Addr) (n c : Nat) (xs : List Int) (w : World) (ha : SL w A n c xs) (hm : (Lit.int .i64 m).wf = true) :
    Calls Try.prog 10 #[.int .i64 m, .slice A n c] w fun e w' => e = .returned (.tuple #[.bool (lkK m xs), .int .i64 (bfault m xs)]) ∧ Below w.heap.size w w' := by
  by_cases h0 : bfault m xs = 0
  case neg =>
    have HC := hide (number_no m A n c xs w ha hm h0)
    have HE : Hid (lkK m xs = false) := hide (by unfold lkK; rw [decide_eq_false h0]; rfl)
    rw [HE.out]
    obtain ⟨f, hf⟩ : ∃ f, bfault m xs = f := ⟨_, rfl⟩
    rw [hf] at HC ⊢
    clear ha hm hf h0 HE
    go_enter Try.func10, Try.ntmps10
    go_wp2_with fail
    refine HC.out.mono ?_
    rintro e w1 ⟨P, pn, pc, rfl, ho, hb⟩
    have HB := hide hb
    clear hb ho HC
    go_wp2_with fail
    go_ret2
    exact ⟨rfl, HB.out⟩
  case pos =>
    obtain ⟨g1, g6, gl, gx⟩ := bfault_zero h0
    obtain ⟨M, rfl⟩ : ∃ M : Nat, m = M := ⟨m.toNat, by omega⟩
    have HC := hide (number_yes M A n c xs w ha hm h0)
    rw [lkK_ok h0, h0]
    obtain ⟨K, hK⟩ : ∃ K, (prtL (endsL M xs)).length = K := ⟨_, rfl⟩
    rw [hK] at HC ⊢
    have hKe : ((K : Int) == 1) = decide (K = 1) := by rw [Bool.eq_iff_iff, beq_iff_eq, decide_eq_true_iff]; omega
    clear ha hm h0 g1 g6 gl gx hK
    go_enter Try.func10, Try.ntmps10
    go_wp2_with fail
    refine HC.out.mono ?_
    rintro e w1 ⟨P, pn, pc, rfl, ho, hb⟩
    have HB := hide hb
    clear hb ho HC
    go_wp2_with fail
    go_ret2
    exact ⟨rfl, HB.out⟩
end Go.Proofs.Ytndgffiihbdppaa
/- What a letter adds to the linking numbers (mathematics). -/
namespace Go.Proofs.Ytndgffiihbdppaa
set_option linter.unusedVariables false
set_option linter.unusedSimpArgs false

/-- What a letter adds. -/
def lkC1 (n : Nat) (a : List Nat) (i k : Nat) (u : List Int) (x : Int) : Int := (if lkAt a (lkS n u (x.natAbs - 1)) = i ∧ lkAt a (lkS n u x.natAbs) = k then x.sign else 0) + (if lkAt a (lkS n u x.natAbs) = i ∧ lkAt a (lkS n u (x.natAbs - 1)) = k then x.sign else 0)
theorem lkSum_snoc {n : Nat} {a : List Nat} (i k : Nat) (x : Int) : ∀ (w u : List Int), lkSum n a i k u (w ++ [x]) = lkSum n a i k u w + lkC1 n a i k (u ++ w) x
  | [], u => by
    rw [List.append_nil]
    show lkC1 n a i k u x + 0 = 0 + lkC1 n a i k u x
    omega
  | y :: w, u => by
    have ih := lkSum_snoc (n := n) (a := a) i k x w (u ++ [y])
    show lkC1 n a i k u y + lkSum n a i k (u ++ [y]) (w ++ [x]) = lkC1 n a i k u y + lkSum n a i k (u ++ [y]) w + lkC1 n a i k (u ++ y :: w) x
    rw [ih, show u ++ [y] ++ w = u ++ y :: w by simp]
    omega
end Go.Proofs.Ytndgffiihbdppaa
/- Package link: LinkingNumbers. -/
namespace Go.Proofs.Ytndgffiihbdppaa
set_option linter.unusedVariables false
set_option linter.unusedSimpArgs false
open Go.RowKit

theorem MaI.off {w : World} {base go n k : Nat} {gr : Nat → Nat} {X : Nat → Nat → Int} (h : MaI w base go n gr k X) {b : Nat} (hg : go ≠ b) (hr : ∀ i, i < k → gr i ≠ b) (j : Nat) (v : Value) : MaI (w.setCell ⟨b, j, none⟩ v) base go n gr k X := by
  refine ⟨?_, fun i hi => ?_, fun i hi => ?_, h.ne, h.inj, fun i hi => ?_, h.base_le⟩
  · obtain ⟨cs, hc⟩ := h.blk
    exact ⟨cs, hc.far hg _⟩
  · rw [← h.out i hi]
    exact World.cell?_of_block (w := w) (a := ⟨go, i, none⟩) (Below.heap_setCell w ⟨b, j, none⟩ _ go hg)
  · have ho := h.row i hi
    refine ⟨⟨ho.own.1, ?_⟩, ho.small⟩
    rcases ho.own.2 with h2 | ⟨b', cap, cur, hv, hb, hh, q⟩
    · exact .inl h2
    · have hbg : b' = gr i := by
        injection hv with hv
        injection hv with hv
        injection hv with hv
        exact hv.symm
      exact .inr ⟨b', cap, cur, hv, hb, (Below.heap_setCell w ⟨b, j, none⟩ _ b' (by rw [hbg]; exact hr i hi)).trans hh, q⟩
  · have := h.lt i hi
    simpa [World.setCell] using this
theorem OwnI.off {w : World} {base g n c : Nat} {xs : List Int} (h : OwnI w base (some ⟨g, 0, none⟩) n c xs) {b : Nat} (hg : g ≠ b) (j : Nat) (v : Value) : OwnI (w.setCell ⟨b, j, none⟩ v) base (some ⟨g, 0, none⟩) n c xs := by
  refine ⟨⟨h.own.1, ?_⟩, h.small⟩
  rcases h.own.2 with h2 | ⟨b', cap, cur, hv, hb, hh, q⟩
  · exact .inl h2
  · have hbg : b' = g := by
      injection hv with hv
      injection hv with hv
      injection hv with hv
      exact hv.symm
    exact .inr ⟨b', cap, cur, hv, hb, (Below.heap_setCell w ⟨b, j, none⟩ _ b' (by rw [hbg]; exact hg)).trans hh, q⟩
theorem cmp1_sign (x : Int) : cmp1 x 0 = x.sign := by
  unfold cmp1
  rcases Int.lt_trichotomy x 0 with h | h | h
  · rw [if_pos h, Int.sign_eq_neg_one_of_neg h]
  · subst h; rfl
  · rw [if_neg (by omega), if_pos h, Int.sign_eq_one_of_pos h]
theorem zs_set2 (l : List Nat) (i u v : Nat) : ((zs l).set i (u : Int)).set (i + 1) (v : Int) = zs ((l.set i u).set (i + 1) v) := by
  unfold zs
  rw [List.map_set, List.map_set]
  rfl
theorem lkM_bad {m : Int} {xs : List Int} (h : bfault m xs ≠ 0) : lkM m xs = [] := by unfold lkM; rw [if_neg h]
theorem MaI.sll {w : World} {base go n : Nat} {gr : Nat → Nat} {X : Nat → Nat → Int} (h : MaI w base go n gr n X) (hn : n ≤ 1000) : SLL w (some ⟨go, 0, none⟩) n n ((List.range n).map fun i => (List.range n).map (X i)) := by
  refine ⟨by simp, by omega, fun e => (by cases e), Nat.le_refl _, fun _ => ⟨_, rfl, h.go_lt, fun j hj => ⟨_, _, _, by rw [Addr.add_mid, Nat.zero_add]; exact h.out j hj, ?_⟩⟩⟩
  rw [show (List.map (fun i => List.map (X i) (List.range n)) (List.range n)).getD j [] = List.map (X j) (List.range n) by simp [List.getD, hj]]
  exact (h.row j hj).sl

set_option maxRecDepth 100000 in
set_option maxHeartbeats 8000000 in
theorem linking_any (m : Int) (A : Option Addr) (n c : Nat) (xs : List Int) (w : World) (ha : SL w A n c xs) (hm : (Lit.int .i64 m).wf = true) :
    Calls Try.prog 9 #[.int .i64 m, .slice A n c] w (GivesLK w (bfault m xs) (lkM m xs)) := by
  by_cases h0 : bfault m xs = 0
  case neg =>
    have HC := hide (number_no m A n c xs w ha hm h0)
    rw [lkM_bad h0]
    obtain ⟨f, hf⟩ : ∃ f, bfault m xs = f := ⟨_, rfl⟩
    rw [hf] at HC h0 ⊢
    have hne : (f != 0) = true := by simpa using h0
    clear ha hm hf h0
    go_enter Try.func9, Try.ntmps9
    go_wp2_with fail
    refine HC.out.mono ?_
    rintro e w1 ⟨P, pn, pc, rfl, ho, hb⟩
    have HB := hide hb
    clear hb ho HC
    go_wp2_with fail
    go_ret2
    exact ⟨none, 0, 0, rfl, SLL.nil_ _, HB.out⟩
  case pos =>
    obtain ⟨g1, g6, gl, gx⟩ := bfault_zero h0
    obtain ⟨M, rfl⟩ : ∃ M : Nat, m = M := ⟨m.toNat, by omega⟩
    have hM1 : 1 ≤ M := by omega
    have hM6 : M ≤ 6 := by omega
    have hok : okB M xs := fun x h => by have := gx x h; omega
    have HX := hide hok
    have HPA := hide (ends_isP hok)
    have HAL : Hid ((endsL M xs).length = M) := hide (endsL_length M xs)
    have HC := hide (number_yes M A n c xs w ha hm h0)
    have HLM := hide (lkM_eq h0)
    have HA := hide ha.il
    have HXL : Hid (xs.length = n) := hide ha.il.len
    have hn30 : n ≤ 30 := by have := HXL.out; omega
    rw [HLM.out, h0]
    have HAT : Hid ((List.range M).map (lkAt (endsL M xs)) = atK M (endsL M xs) []) := hide (by have h := atK_start HAL.out; rwa [HAL.out] at h)
    rw [HAT.out] at HC
    have HLE : Hid (∀ i k, lkE M xs i k = (lkSum M (endsL M xs) i k [] xs).tdiv 2) := hide fun i k => rfl
    obtain ⟨a, haa⟩ : ∃ a, endsL M xs = a := ⟨_, rfl⟩
    rw [haa] at HC HPA HAL HLE ⊢
    have hK6 : (prtL a).length ≤ 6 := by have := prtL_le a; rw [HAL.out] at this; omega
    obtain ⟨K, hK⟩ : ∃ K, (prtL a).length = K := ⟨_, rfl⟩
    have HK := hide hK
    rw [hK] at HC hK6 ⊢
    clear ha hm h0 g1 g6 gl gx hok haa hK HLM HAT
    obtain ⟨i0, hi0, hz0, hz1, hz2⟩ := info_parts int_info
    obtain ⟨i1, hj0, hk0, hk1, hk2⟩ := info_parts slice_info
    have HI0 := hide hi0
    have HY0 := hide hz0
    have HY1 := hide hz1
    have HY2 := hide hz2
    clear hi0 hz0 hz1 hz2
    go_enter Try.func9, Try.ntmps9
    go_wp2_with fail
    refine HC.out.mono ?_
    rintro e w1 ⟨P, pn, pc, rfl, ho, hb⟩
    have hpn : M = pn := by have := ho.len; rw [zs_length, atK_length] at this; exact this
    subst hpn
    obtain ⟨gp, rfl, hgp, hgp1⟩ := ho.form (by omega)
    have HO1 := hide ho
    have HW1 := hide hb
    have hs1 := hb.size
    clear hb ho HC
    go_wp2_with (at_make; refine wpList_make_full _ rfl _ _ 23 rfl w1.heap.size 22 i1 (.slice none 0 0) 1 Try.underlying23 hj0 hk0 hk1 .i64 .i64 _ _ K rfl rfl rfl rfl (by rw [hk2]; omega) (by unfold maxLen; omega) (Nat.le_refl _) ?_; intro w3 hown3 hg3)
    have hB3 : Below w1.heap.size w1 w3 := (Below.refl _ _).grown hg3 (Nat.le_refl _) (by intro k hk; cases hk)
    have ho3 := ownV_zero hown3 (by omega)
    obtain ⟨gm, hgm⟩ : ∃ g, w1.heap.size = g := ⟨_, rfl⟩
    rw [hgm] at ho3 hB3 hs1 hgp1 ⊢
    have HM := hide (MaI.start (n := K) ho3 (fun _ _ => 0))
    have HCs : Hid (∀ i, i < K → ∃ v, w3.cell? ⟨gm, i, none⟩ = some v) := hide (fun i hi => by
      obtain ⟨g', e, hc⟩ := ho3.cellAt hi
      injection e with e
      injection e with e
      subst e
      exact ⟨_, hc.trans (by rw [List.getElem?_replicate, if_pos hi])⟩)
    have HB := hide hB3
    have HGM := hide hgm
    clear hown3 hg3 hB3 ho3 hgm hj0 hk0 hk1 hk2
    go_loopw [34] (fun iv wr => ∃ (k : Nat) (gr : Nat → Nat), iv = .int .i64 k ∧ k ≤ K ∧ Hid (MaI wr gm gm K gr k (fun _ _ => 0)) ∧ Hid (∀ i, i < K → ∃ v, wr.cell? ⟨gm, i, none⟩ = some v) ∧ Hid (Below gm w1 wr)) (fun iv _ => K - (intOf iv).toNat)
    case atStart => exact ⟨0, _, by go_num, Nat.zero_le _, HM, HCs, HB⟩
    case round =>
      clear HM HCs HB
      obtain ⟨k, gr, rfl, hk, HM, HCs, HB⟩ := hrel
      by_cases hlt : k < K
      · obtain ⟨v, hv⟩ := HCs.out k hlt
        obtain ⟨cs9, hcs9⟩ := HM.out.blk
        have HK9 := hide hcs9
        have HV := hide hv
        have hbw : gm ≤ wr.heap.size := by have := HM.out.go_lt; omega
        clear hcs9 hv
        go_wp2_with (at_make; refine wpList_make_full _ rfl _ _ 22 rfl wr.heap.size 3 i0 (.int .i64 0) 1 Try.underlying22 HI0.out HY0.out HY1.out .i64 .i64 _ _ K rfl rfl rfl rfl (by rw [HY2.out]; omega) (by unfold maxLen; omega) (Nat.le_refl _) ?_; intro w4 hown4 hg4; have hb4 : Below wr.heap.size wr w4 := (Below.refl _ _).grown hg4 (Nat.le_refl _) (by intro k hk; cases hk); have hv4 := (hb4.cell (p := ⟨gm, k, none⟩) HK9.out.lt).trans HV.out; have hf4 := (HK9.out.below hb4 HK9.out.lt).frozen k)
        have ho4 := OwnI.zero (z := #[]) hown4 (by omega)
        have HM4 := hide (HM.out.push (g := wr.heap.size) hb4 (Nat.le_refl _) (by rw [map_zero]; exact ho4.mono hbw) (ho4.lt _ rfl).2 hbw HV.out)
        have HC4 : Hid (∀ i, i < K → ∃ v, (w4.setCell ⟨gm, k, none⟩ (.slice (some ⟨wr.heap.size, 0, none⟩) K K)).cell? ⟨gm, i, none⟩ = some v) := hide (fun i hi => by
          by_cases e : i = k
          · subst e
            exact ⟨_, World.cell?_setCell_same w4 _ _ hv4⟩
          · rw [World.cell?_setCell_other w4 _ _ _ (by intro h2; simp only [Addr.mk.injEq] at h2; omega)]
            obtain ⟨v', hv'⟩ := HCs.out i hi
            exact ⟨v', (hb4.cell (p := ⟨gm, i, none⟩) HK9.out.lt).trans hv'⟩)
        have HB4 := hide ((HB.out.trans (hb4.mono hbw)).setCell (p := ⟨gm, k, none⟩) (Nat.le_refl _) (.slice (some ⟨wr.heap.size, 0, none⟩) K K))
        clear hown4 hg4 hb4 hv4 hf4 ho4 HM HB HCs HV HK9
        go_roundw
        case rel => exact ⟨k + 1, _, by go_num, by omega, HM4, HC4, HB4⟩
        case measure => simp [intOf]; omega
      · have hkK : k = K := by omega
        rw [hkK] at HM
        have HO := hide (HO1.out.below (by rw [HGM.out]; exact HB.out))
        replace HB := hide (HW1.out.trans (HB.out.mono hs1))
        clear hkK HCs HO1 HW1 HGM
        rename World => w5
        have HM0 : Hid (MaI w5 gm gm K gr K (fun i j => lkSum M a i j [] (xs.take 0))) := HM
        have HO0 : Hid (OwnI w5 w.heap.size (some ⟨gp, 0, none⟩) M pc (zs (atK M a (xs.take 0)))) := HO
        have HNE : Hid (∀ i, i < K → gr i ≠ gp) := hide fun i hi e => by have := HM.out.base_le.2 i hi; omega
        clear HM HO
        go_wp2_with fail
        go_loopw [45] (fun iv wr => ∃ k : Nat, iv = .int .i64 k ∧ k ≤ n ∧ Hid (MaI wr gm gm K gr K (fun i j => lkSum M a i j [] (xs.take k))) ∧ Hid (OwnI wr w.heap.size (some ⟨gp, 0, none⟩) M pc (zs (atK M a (xs.take k)))) ∧ Hid (Below w.heap.size w wr)) (fun iv _ => n - (intOf iv).toNat)
        case atStart => exact ⟨0, by go_num, Nat.zero_le _, HM0, HO0, HB⟩
        case round =>
          clear HM0 HO0 HB
          obtain ⟨k, rfl, hk, HM, HO, HB⟩ := hrel
          by_cases hlt2 : k < n
          · obtain ⟨ad, rfl, hc⟩ := (HA.out.below HB.out).at_ hlt2
            have hxm : xs.getD k 0 ∈ xs := by
              have hkl : k < xs.length := by rw [HXL.out]; exact hlt2
              rw [List.getD, List.getElem?_eq_getElem hkl]
              exact List.getElem_mem hkl
            have hxk := HX.out _ hxm
            obtain ⟨x, hxx⟩ : ∃ x, xs.getD k 0 = x := ⟨_, rfl⟩
            rw [hxx] at hc hxk
            have HTK : Hid (xs.take (k + 1) = xs.take k ++ [x]) := hide (by
              have hkl : k < xs.length := by rw [HXL.out]; exact hlt2
              rw [List.take_succ_eq_append_getElem hkl, ← hxx]
              simp [List.getD, List.getElem?_eq_getElem hkl])
            have hokT : okB M (xs.take k) := fun y hy => HX.out y (List.mem_of_mem_take hy)
            obtain ⟨j, hj⟩ : ∃ j, x.natAbs = j + 1 := ⟨x.natAbs - 1, by omega⟩
            have hjM : j + 1 < M := by omega
            have hps : lkAt a (lkS M (xs.take k) j) < K := by rw [← HK.out]; exact lkAt_lt HPA.out (by rw [HAL.out]; exact lkS_lt hokT (by omega))
            have hpt : lkAt a (lkS M (xs.take k) (j + 1)) < K := by rw [← HK.out]; exact lkAt_lt HPA.out (by rw [HAL.out]; exact lkS_lt hokT hjM)
            have hc0 := HO.out.cell (j := j) (by omega)
            have hc1 := HO.out.cell (j := j + 1) hjM
            rw [zs_getD, atK_getD (by omega)] at hc0
            rw [zs_getD, atK_getD hjM] at hc1
            have HNA := hide (atK_step (a := a) (u := xs.take k) hxk.1 hj hjM)
            rw [← HTK.out, atK_getD hjM, atK_getD (show j < M by omega)] at HNA
            have HCC : Hid (∀ i i', lkSum M a i i' [] (xs.take (k + 1)) = lkSum M a i i' [] (xs.take k) + ((if lkAt a (lkS M (xs.take k) j) = i ∧ lkAt a (lkS M (xs.take k) (j + 1)) = i' then x.sign else 0) + (if lkAt a (lkS M (xs.take k) (j + 1)) = i ∧ lkAt a (lkS M (xs.take k) j) = i' then x.sign else 0))) := hide fun i i' => by
              rw [HTK.out, lkSum_snoc, List.nil_append]
              unfold lkC1
              rw [hj, show j + 1 - 1 = j by omega]
            obtain ⟨s, hs⟩ : ∃ s, lkAt a (lkS M (xs.take k) j) = s := ⟨_, rfl⟩
            obtain ⟨t, ht⟩ : ∃ t, lkAt a (lkS M (xs.take k) (j + 1)) = t := ⟨_, rfl⟩
            rw [hs] at hps hc0 HNA HCC
            rw [ht] at hpt hc1 HNA HCC
            have hsg := sign_odd hxk.1
            have hwx : IntKind.i64.wrap (-x) = -x := by rw [IntKind.wrap_i64]; omega
            have HMX : Hid (max x (-x) = ((j : Int) + 1)) := hide (by omega)
            have HCM := hide (fun w => cmp_any x 0 w)
            rw [cmp1_sign] at HCM
            obtain ⟨sg, hsgg⟩ : ∃ y, x.sign = y := ⟨_, rfl⟩
            rw [hsgg] at hsg HCM HCC
            have hbd := fun i j => lkSum_bd (n := M) (a := a) i j (xs.take k) []
            have hlk : (xs.take k).length ≤ 30 := by rw [List.length_take]; omega
            obtain ⟨V, hV⟩ : ∃ V : Nat → Nat → Int, (fun i j => lkSum M a i j [] (xs.take k)) = V := ⟨_, rfl⟩
            have HV : Hid (∀ i j, lkSum M a i j [] (xs.take (k + 1)) = V i j + ((if s = i ∧ t = j then sg else 0) + (if t = i ∧ s = j then sg else 0))) := hide fun i j => by
              rw [HCC.out, ← hV]
            have hVb : ∀ i j, -60 ≤ V i j ∧ V i j ≤ 60 := fun i j => by
              have := hbd i j
              rw [← hV]
              show -60 ≤ lkSum M a i j [] (xs.take k) ∧ lkSum M a i j [] (xs.take k) ≤ 60
              omega
            rw [hV] at HM
            have HVB := hide hVb
            have hwj : IntKind.i64.wrap (j : Int) = (j : Int) := by rw [IntKind.wrap_i64]; omega
            have hwj1 : IntKind.i64.wrap ((j : Int) + 1) = (j : Int) + 1 := by rw [IntKind.wrap_i64]; omega
            clear hs ht hsgg hbd hlk hV HCC HTK hxx hxm hxk hj hokT hVb
            go_upto_region 14 with ((with_reducible show wpList _ _ _ (Oper.mk _ (.call { callee := .builtin .max, args := _, argTypes := _ }) _ _ _ _ :: _) _ _); refine wpList_gives rfl (gives_maxI rfl rfl rfl HMX.out) ?_)
            go_region
            go_upto_region 15 with fail
            have hwd : Below w.heap.size w wr.drew := HB.out.drew
            replace HM := hide (HM.out.below (show Below wr.heap.size wr wr.drew from (Below.refl _ _).drew))
            replace HO := hide HO.out.drew
            replace HB := hide hwd
            clear hwd hc0 hc1 hc
            generalize wr.drew = w6 at *
            go_wp2_with fail
            refine (HCM.out _).mono ?_
            rintro e w0 ⟨rfl, hww⟩
            subst hww
            go_upto_region 16 with fail
            have ho1 := HM.out.out s hps
            have hc1 := HM.out.cell hps hpt
            have hf1 := HM.out.frozen hps t
            have hvb := HVB.out s t
            obtain ⟨v, hv⟩ : ∃ y, V s t = y := ⟨_, rfl⟩
            rw [hv] at hc1 hvb
            have hadd1 : IntKind.i64.wrap (v + sg) = v + sg := by rw [IntKind.wrap_i64]; omega
            have hgs : gm ≤ gr s := HM.out.base_le.2 s hps
            have hgt : gm ≤ gr t := HM.out.base_le.2 t hpt
            have HM9 := hide (HM.out.set_ hps hpt (v + sg))
            have HO9 := hide (HO.out.off (b := gr s) (fun e => HNE.out s hps e.symm) t (.int .i64 (v + sg)))
            have HB9 := hide (HB.out.setCell (p := ⟨gr s, t, none⟩) (Nat.le_trans hs1 hgs) (.int .i64 (v + sg)))
            clear HM HO HB
            go_upto_region 17 with fail
            clear ho1 hc1 hf1
            have HV1 : Hid (∀ i j, (if i = s ∧ j = t then v + sg else V i j) = V i j + (if s = i ∧ t = j then sg else 0)) := hide fun i j => by
              by_cases e : s = i ∧ t = j
              · obtain ⟨rfl, rfl⟩ := e
                rw [if_pos ⟨rfl, rfl⟩, if_pos ⟨rfl, rfl⟩, hv]
              · rw [if_neg (fun h => e ⟨h.1.symm, h.2.symm⟩), if_neg e, Int.add_zero]
            obtain ⟨V1, hV1⟩ : ∃ V1 : Nat → Nat → Int, (fun i j => if i = s ∧ j = t then v + sg else V i j) = V1 := ⟨_, rfl⟩
            rw [hV1] at HM9
            have HW1 : Hid (∀ i j, V1 i j = V i j + (if s = i ∧ t = j then sg else 0)) := hide fun i j => by rw [← hV1]; exact HV1.out i j
            have hvb2 : -61 ≤ V1 t s ∧ V1 t s ≤ 61 := by
              rw [HW1.out]
              have := HVB.out t s
              split <;> omega
            obtain ⟨v2, hv2⟩ : ∃ y, V1 t s = y := ⟨_, rfl⟩
            rw [hv2] at hvb2
            have hadd2 : IntKind.i64.wrap (v2 + sg) = v2 + sg := by rw [IntKind.wrap_i64]; omega
            clear hv HV1 hV1 hvb hadd1
            generalize w6.setCell ⟨gr s, t, none⟩ (.int .i64 (v + sg)) = w9 at *
            have ho2 := HM9.out.out t hpt
            have hc2 := HM9.out.cell hpt hps
            have hf2 := HM9.out.frozen hpt s
            rw [hv2] at hc2
            have HMX2 := hide ((HM9.out.set_ hpt hps (v2 + sg)).congr (Y := fun i j => lkSum M a i j [] (xs.take (k + 1))) fun i hi j hj => by
              show (if i = t ∧ j = s then v2 + sg else V1 i j) = lkSum M a i j [] (xs.take (k + 1))
              rw [HV.out]
              have h1 := HW1.out i j
              by_cases e : t = i ∧ s = j
              · obtain ⟨rfl, rfl⟩ := e
                rw [if_pos (show t = t ∧ s = s from ⟨rfl, rfl⟩), ← hv2, h1, Int.add_assoc]
                congr 2
                exact (if_pos ⟨rfl, rfl⟩).symm
              · rw [if_neg (fun h => e ⟨h.1.symm, h.2.symm⟩), if_neg e, h1]
                omega)
            have HOX := hide (HO9.out.off (b := gr t) (fun e => HNE.out t hpt e.symm) s (.int .i64 (v2 + sg)))
            have HBX := hide (HB9.out.setCell (p := ⟨gr t, s, none⟩) (Nat.le_trans hs1 hgt) (.int .i64 (v2 + sg)))
            clear HM9 HO9 HB9 HV HW1 hv2 hvb2
            go_upto_region 18 with fail
            clear ho2 hc2 hf2 hadd2
            generalize w9.setCell ⟨gr t, s, none⟩ (.int .i64 (v2 + sg)) = wx at *
            have hcx0 := HOX.out.cell (j := j) (by omega)
            have hcx1 := HOX.out.cell (j := j + 1) hjM
            have hfx0 := HOX.out.frozen j
            have hfx1 := HOX.out.frozen (j + 1)
            have HON := hide ((HOX.out.set_ j (t : Int)).set_ (j + 1) (s : Int))
            rw [zs_set2, HNA.out] at HON
            have HMN := hide ((HMX2.out.off (b := gp) (by omega) HNE.out j (.int .i64 (t : Int))).off (b := gp) (by omega) HNE.out (j + 1) (.int .i64 (s : Int)))
            have HBN := hide ((HBX.out.setCell (p := ⟨gp, j, none⟩) hgp (.int .i64 (t : Int))).setCell (p := ⟨gp, j + 1, none⟩) hgp (.int .i64 (s : Int)))
            clear HOX HMX2 HBX HNA
            generalize (zs (atK M a (xs.take k))).getD j 0 = z0 at *
            generalize (zs (atK M a (xs.take k))).getD (j + 1) 0 = z1 at *
            go_wp2_with fail
            go_roundw
            case rel => exact ⟨k + 1, by go_num, by omega, HMN, HON, HBN⟩
            case measure => simp [intOf]; omega
          · have HME : Hid (MaI wr gm gm K gr K (fun i j => lkSum M a i j [] xs)) := hide (by
              have h := HM.out
              rwa [List.take_of_length_le (by rw [HXL.out]; omega)] at h)
            clear HM HO HNE
            rename World => w10
            go_wp2_with fail
            go_loopw [96] (fun iv wr => ∃ k : Nat, iv = .int .i64 k ∧ k ≤ K ∧ Hid (MaI wr gm gm K gr K (fun i j => if i < k then (lkSum M a i j [] xs).tdiv 2 else lkSum M a i j [] xs)) ∧ Hid (Below w.heap.size w wr)) (fun iv _ => K - (intOf iv).toNat)
            case atStart => exact ⟨0, by go_num, Nat.zero_le _, hide (HME.out.congr fun i _ j _ => (if_neg (Nat.not_lt_zero _)).symm), HB⟩
            case round =>
              clear HME HB
              obtain ⟨i, rfl, hi, HM, HB⟩ := hrel
              by_cases hlt3 : i < K
              · have hoi := HM.out.out i hlt3
                rename World => w11
                go_wp2_with fail
                go_loopw [102] (fun iv wr => ∃ j : Nat, iv = .int .i64 j ∧ j ≤ K ∧ Hid (MaI wr gm gm K gr K (fun i' j' => if i' < i ∨ i' = i ∧ j' < j then (lkSum M a i' j' [] xs).tdiv 2 else lkSum M a i' j' [] xs)) ∧ Hid (Below w.heap.size w wr)) (fun iv _ => K - (intOf iv).toNat)
                case atStart => exact ⟨0, by go_num, Nat.zero_le _, hide (HM.out.congr fun i' _ j' _ => by simp), HB⟩
                case round =>
                  clear HM HB hoi
                  obtain ⟨j, rfl, hj, HM, HB⟩ := hrel
                  by_cases hjt : j < K
                  · have hc := HM.out.cell hlt3 hjt
                    rw [if_neg (by omega)] at hc
                    have hbd := lkSum_bd (n := M) (a := a) i j xs []
                    have hxl := HXL.out
                    have hgi := HM.out.base_le.2 i hlt3
                    have hfz := HM.out.frozen hlt3 j
                    obtain ⟨v, hv⟩ : ∃ y, lkSum M a i j [] xs = y := ⟨_, rfl⟩
                    rw [hv] at hc hbd
                    obtain ⟨u, hu⟩ : ∃ u, v.tdiv 2 = u := ⟨_, rfl⟩
                    have hub : -60 ≤ u ∧ u ≤ 60 := by
                      have h1 := Int.natAbs_tdiv_le_natAbs v 2
                      rw [hu] at h1
                      omega
                    have hw : IntKind.i64.wrap u = u := by rw [IntKind.wrap_i64]; omega
                    have HM2 := hide ((HM.out.set_ hlt3 hjt u).congr (Y := fun i' j' => if i' < i ∨ i' = i ∧ j' < j + 1 then (lkSum M a i' j' [] xs).tdiv 2 else lkSum M a i' j' [] xs) fun i' _ j' _ => by
                      show (if i' = i ∧ j' = j then u else if i' < i ∨ i' = i ∧ j' < j then (lkSum M a i' j' [] xs).tdiv 2 else lkSum M a i' j' [] xs) = _
                      by_cases e : i' = i ∧ j' = j
                      · obtain ⟨rfl, rfl⟩ := e
                        rw [if_pos ⟨rfl, rfl⟩, if_pos (by omega), hv, hu]
                      · rw [if_neg e]
                        by_cases e2 : i' < i ∨ i' = i ∧ j' < j
                        · rw [if_pos e2, if_pos (by omega)]
                        · rw [if_neg e2, if_neg (by omega)])
                    have HB2 := hide (HB.out.setCell (p := ⟨gr i, j, none⟩) (Nat.le_trans hs1 hgi) (.int .i64 u))
                    clear hbd hv hub HM HB hgi hxl
                    go_wp2_with fail
                    go_roundw
                    case rel => exact ⟨j + 1, by go_num, by omega, HM2, HB2⟩
                    case measure => simp [intOf]; omega
                  · have HM3 : Hid (MaI wr gm gm K gr K (fun i' j' => if i' < i + 1 then (lkSum M a i' j' [] xs).tdiv 2 else lkSum M a i' j' [] xs)) := hide (HM.out.congr fun i' _ j' hj' => by
                      show (if i' < i ∨ i' = i ∧ j' < j then _ else _) = if i' < i + 1 then _ else _
                      by_cases e : i' < i + 1
                      · rw [if_pos e, if_pos (by omega)]
                      · rw [if_neg e, if_neg (by omega)])
                    clear HM
                    go_wp2_with fail
                    go_roundw
                    case rel => exact ⟨i + 1, by go_num, by omega, HM3, HB⟩
                    case measure => simp [intOf]; omega
              · have HML := hide (HM.out.congr (Y := fun i' j' => lkE M xs i' j') fun i' hi' j' _ => by
                  show (if i' < i then _ else _) = _
                  rw [if_pos (by omega), HLE.out])
                clear HM
                go_wp2_with fail
                go_ret2
                exact ⟨_, _, _, rfl, HML.out.sll (by omega), HB.out⟩
end Go.Proofs.Ytndgffiihbdppaa
/- Package link keeps its contracts. -/
namespace Go.Proofs.Ytndgffiihbdppaa
set_option linter.unusedVariables false
set_option linter.unusedSimpArgs false

theorem linkC : LinkC where
  parts := components_any -- 8
  link := linking_any -- 9
  knot := isKnot_any -- 10
end Go.Proofs.Ytndgffiihbdppaa
/- Sums of terms as windows of coefficients; wrapping to 64 bits. -/
namespace Go.Proofs.Ytndgffiihbdppaa
set_option linter.unusedVariables false
set_option linter.unusedSimpArgs false
open Go.RowKit

def wr64 (a : Int) : Int := IntKind.i64.wrap a
theorem wr64_eq (a : Int) : wr64 a = (a + 9223372036854775808) % 18446744073709551616 - 9223372036854775808 := by unfold wr64; rw [IntKind.wrap_i64]
theorem wr64_congr {a b : Int} (h : a % 18446744073709551616 = b % 18446744073709551616) : wr64 a = wr64 b := by rw [wr64_eq, wr64_eq]; omega
theorem wr64_mod (a : Int) : wr64 a % 18446744073709551616 = a % 18446744073709551616 := by rw [wr64_eq]; omega
theorem wr64_small {a : Int} (h : a.natAbs ≤ 9223372036854775807) : wr64 a = a := by rw [wr64_eq]; omega
theorem wr64_step (a s x y : Int) : IntKind.i64.wrap (wr64 a + IntKind.i64.wrap (s * x * wr64 y)) = wr64 (a + s * x * y) := by
  show wr64 (wr64 a + wr64 (s * x * wr64 y)) = _
  apply wr64_congr
  have h : (s * x * wr64 y) % 18446744073709551616 = (s * x * y) % 18446744073709551616 := by
    rw [Int.mul_emod, wr64_mod, ← Int.mul_emod]
  have h2 := wr64_mod (s * x * wr64 y)
  have h3 := wr64_mod a
  omega
theorem map_wr64 {ys : List Int} (h : ∀ y ∈ ys, y.natAbs ≤ 9223372036854775807) : ys.map wr64 = ys := by
  conv => rhs; rw [← List.map_id ys]
  exact List.map_congr_left fun y hy => wr64_small (h y hy)
theorem getD_wr64 (ys : List Int) (j : Nat) : (ys.map wr64).getD j 0 = wr64 (ys.getD j 0) := by
  simp only [List.getD, List.getElem?_map]
  cases ys[j]? <;> rfl
theorem set_wr64 (ys : List Int) (j : Nat) (v : Int) : (ys.map wr64).set j (wr64 v) = (ys.set j v).map wr64 := by rw [List.map_set]
theorem LP.of_set {b : Int} {ys : List Int} {j : Nat} (h : j < ys.length) (c : Int) : LP.of b (ys.set j (ys.getD j 0 + c)) = LP.of b ys + LP.term (b + j) c := LP.ext fun k => by
  rw [LP.co_add, LP.co_term, LP.co_of, LP.co_of, List.length_set]
  by_cases hk : b + j = k
  · subst hk
    rw [if_pos (by omega), if_pos (by omega), if_pos rfl, show (b + (j : Int) - b).toNat = j by omega]
    simp [List.getD, h]
  · rw [if_neg hk, Int.add_zero]
    by_cases h2 : b ≤ k ∧ k < b + ys.length
    · rw [if_pos h2, if_pos h2]
      have : j ≠ (k - b).toNat := by omega
      simp [List.getD, List.getElem?_set, this]
    · rw [if_neg h2, if_neg h2]
theorem LP.of_repl (b : Int) (n : Nat) : LP.of b (List.replicate n 0) = 0 := LP.ext fun k => by
  rw [LP.co_of, LP.co_zero]
  split
  · simp [List.getD, List.getElem?_replicate]
    split <;> rfl
  · rfl
/-- What stands in the sum after i letters of p and k of the minor. -/
def apS (S : LP) (sg lo : Int) (xs : List Int) (b : Int) (ys : List Int) (i k : Nat) : LP :=
  S + LP.term 0 sg * (LP.of lo (xs.take i) * LP.of b ys) + LP.term 0 sg * (LP.term (lo + i) (xs.getD i 0) * LP.of b (ys.take k))
theorem LP.of_nil (lo : Int) : LP.of lo [] = 0 := rfl
theorem apS_zero (S : LP) (sg lo : Int) (xs : List Int) (b : Int) (ys : List Int) : apS S sg lo xs b ys 0 0 = S := by
  unfold apS
  simp only [List.take_zero, LP.of_nil, CR.zero_mul, CR.mul_zero, CR.add_zero]
theorem apS_step (S : LP) (sg lo : Int) (xs : List Int) (b : Int) {ys : List Int} (i : Nat) {k : Nat} (hk : k < ys.length) : apS S sg lo xs b ys i (k + 1) = apS S sg lo xs b ys i k + LP.term (lo + i + (b + k)) (sg * xs.getD i 0 * ys.getD k 0) := by
  unfold apS
  have e : LP.term 0 sg * (LP.term (lo + i) (xs.getD i 0) * LP.term (b + k) (ys.getD k 0)) = LP.term (lo + i + (b + k)) (sg * xs.getD i 0 * ys.getD k 0) := by
    rw [LP.term_mul, LP.term_mul, Int.mul_assoc, Int.zero_add]
  rw [LP.of_take hk, CR.mul_add, CR.mul_add, e, ← CR.add_assoc (R := LP)]
theorem apS_row (S : LP) (sg lo : Int) {xs : List Int} (b : Int) (ys : List Int) {i : Nat} (hi : i < xs.length) : apS S sg lo xs b ys i ys.length = apS S sg lo xs b ys (i + 1) 0 := by
  unfold apS
  simp only [List.take_length, List.take_zero, LP.of_nil, CR.mul_zero, CR.add_zero]
  rw [LP.of_take hi, CR.add_mul, CR.mul_add, CR.add_assoc]
theorem apS_end (S : LP) (sg lo : Int) (xs : List Int) (b : Int) (ys : List Int) : apS S sg lo xs b ys xs.length 0 = S + LP.term 0 sg * (LP.of lo xs * LP.of b ys) := by
  unfold apS
  simp only [List.take_length, List.take_zero, LP.of_nil, CR.mul_zero, CR.add_zero]
/-- The matrix of the given rows and columns. -/
def pmM (pss : List (List Po)) (cs : List Int) : Mtx LP := fun i j => LP.of ((pss.getD i []).getD (cs.getD j 0).toNat (0, [])).1 ((pss.getD i []).getD (cs.getD j 0).toNat (0, [])).2
theorem without_getD {xs : List Int} {i b : Nat} (h : i < xs.length) : (without xs i).getD b 0 = xs.getD (CR.skip i b) 0 := by
  unfold without CR.skip
  simp only [List.getD, List.getElem?_append, List.length_take, List.getElem?_take, List.getElem?_drop]
  rw [Nat.min_eq_left (by omega)]
  by_cases h1 : b < i
  · rw [if_pos h1, if_pos h1, if_pos h1]
  · rw [if_neg h1, if_neg h1, show i + 1 + (b - i) = b + 1 by omega]
theorem without_mem {xs : List Int} {i : Nat} {x : Int} (h : x ∈ without xs i) : x ∈ xs := by
  unfold without at h
  rcases List.mem_append.1 h with h | h
  · exact List.mem_of_mem_take h
  · exact List.mem_of_mem_drop h
/-- The expansion along the first row, the first k columns. -/
def pmE (pss : List (List Po)) (cs : List Int) (k n : Nat) : LP := CR.sumN k fun j => CR.sgR LP j * (pmM pss cs 0 j * detR n fun a b => pmM pss cs (a + 1) (CR.skip j b))
theorem pmE_full (pss : List (List Po)) (cs : List Int) (n : Nat) : pmE pss cs (n + 1) n = detR (n + 1) (pmM pss cs) := rfl
theorem sgR_tm0 (j : Nat) : CR.sgR LP j = LP.term 0 (CR.sgR Int j) := by
  unfold CR.sgR
  split
  · rfl
  · show -LP.term 0 1 = LP.term 0 (-1)
    refine LP.ext fun k => ?_
    rw [LP.co_neg, LP.co_term, LP.co_term]
    split <;> rfl
theorem pmE_step (ps : List Po) (pss : List (List Po)) {cs : List Int} {k : Nat} (hk : k < cs.length) {lo : Int} {xs : List Int} (hp : ps.getD (cs.getD k 0).toNat (0, []) = (lo, xs)) (n : Nat) (D : LP) (hD : D = detR n (pmM pss (without cs k))) :
    pmE (ps :: pss) cs (k + 1) n = pmE (ps :: pss) cs k n + LP.term 0 (CR.sgR Int k) * (LP.of lo xs * D) := by
  unfold pmE
  rw [CR.sumN_succ, ← sgR_tm0, hD]
  congr 1
  congr 1
  congr 1
  · unfold pmM
    show LP.of (ps.getD (cs.getD k 0).toNat (0, [])).1 _ = _
    rw [hp]
    show LP.of lo (ps.getD (cs.getD k 0).toNat (0, [])).2 = _
    rw [hp]
  · congr 1
    funext a b
    unfold pmM
    rw [without_getD hk]
    rfl
theorem sgI_cases (j : Nat) : CR.sgR Int j = 1 ∨ CR.sgR Int j = -1 := by
  unfold CR.sgR
  split
  · exact .inl rfl
  · exact .inr rfl
/-- The columns 0 to k - 1. -/
def colL (k : Nat) : List Int := (List.range k).map fun i : Nat => (i : Int)
theorem colL_succ (k : Nat) : colL (k + 1) = colL k ++ [(k : Int)] := by simp [colL, List.range_succ]
theorem colL_getD {k j : Nat} (h : j < k) : (colL k).getD j 0 = (j : Int) := by simp [colL, List.getD, h]
theorem colL_mem {k : Nat} {x : Int} (h : x ∈ colL k) : 0 ≤ x ∧ x < k := by
  unfold colL at h
  obtain ⟨i, hi, rfl⟩ := List.mem_map.1 h
  have := List.mem_range.1 hi
  omega
theorem pmM_colL (pss : List (List Po)) (n : Nat) : detR n (pmM pss (colL n)) = detR n (mP pss) := detR_congr fun i _ j hj => by
  unfold pmM mP
  rw [colL_getD hj, Int.toNat_natCast]
end Go.Proofs.Ytndgffiihbdppaa
