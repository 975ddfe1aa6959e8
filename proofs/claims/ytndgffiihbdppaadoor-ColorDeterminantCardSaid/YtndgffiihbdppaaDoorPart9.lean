/- Several texts in one. -/
import Derived.Test.YtndgffiihbdppaaDoorBase1
import Derived.Test.YtndgffiihbdppaaDoorPart1
import Derived.Handy
import Derived.Test.YtndgffiihbdppaaDoorPart8
import Derived.Test.YtndgffiihbdppaaDoorPart7
import Derived.Deep.QuietTactic
import Derived.BigQuiet
import Derived.Test.YtndgffiihbdppaaDoorBase2
import Derived.Deep.DeepCutAuto
import Derived.Test.YtndgffiihbdppaaDoorPart2
import Derived.Test.YtndgffiihbdppaaDoorPart4
import Derived.BigRegion
import Derived.Test.YtndgffiihbdppaaDoorPart3
/- timbref1: Straight, Hook; joined points: Points, At, Join. -/
namespace Go.Proofs.YtndgffiihbdppaaDoor
set_option linter.unusedVariables false
set_option linter.unusedSimpArgs false
open Go.RowKit

/-! ### joined points -/
/-- The pointers, the labels. -/
structure UF (par lab : List Nat) : Prop where
  len : par.length = lab.length
  ok : Tl.Ok lab
  dp : ∃ dp : Nat → Nat, ∀ a, a < lab.length → par.getD a 0 < lab.length ∧ ((par.getD a 0 = a ∧ Tl.at_ lab a = a) ∨ (par.getD a 0 ≠ a ∧ Tl.at_ lab a ≠ a ∧ Tl.at_ lab (par.getD a 0) = Tl.at_ lab a ∧ dp (par.getD a 0) < dp a))
theorem UF.range (N : Nat) : UF (List.range N) (List.range N) := ⟨rfl, Tl.Ok.range N, fun _ => 0, fun a ha => by
  rw [List.length_range] at ha ⊢
  have e : (List.range N).getD a 0 = a := Tl.range_at ha
  exact ⟨by rw [e]; exact ha, .inl ⟨e, e⟩⟩⟩
theorem UF.root {par lab : List Nat} (h : UF par lab) {a : Nat} (ha : a < lab.length) : par.getD (Tl.at_ lab a) 0 = Tl.at_ lab a := by
  obtain ⟨dp, hd⟩ := h.dp
  rcases (hd _ (h.ok.lt a ha)).2 with ⟨h1, _⟩ | ⟨_, h2, _⟩
  · exact h1
  · exact absurd (h.ok.idem a ha) h2
theorem getD_setN {l : List Nat} {i x j : Nat} (hj : j < l.length) : (l.set i x).getD j 0 = if i = j then x else l.getD j 0 := by
  by_cases e : i = j
  · subst e; simp [List.getD, hj]
  · rw [if_neg e]; simp [List.getD, List.getElem?_set_ne e]
theorem UF.join {par lab : List Nat} (h : UF par lab) {x y : Nat} (hx : x < lab.length) (hy : y < lab.length) : UF (par.set (Tl.at_ lab x) (Tl.at_ lab y)) (Tl.join lab x y) := by
  by_cases e : Tl.at_ lab x = Tl.at_ lab y
  · have e1 : par.set (Tl.at_ lab x) (Tl.at_ lab y) = par := by
      rw [← e]
      conv => lhs; rw [show par.set (Tl.at_ lab x) (Tl.at_ lab x) = par.set (Tl.at_ lab x) (par.getD (Tl.at_ lab x) 0) by rw [h.root hx]]
      have hlt := h.ok.lt x hx
      refine List.ext_getElem (by simp) fun j h1 h2 => ?_
      rw [List.getElem_set]
      split
      · rename_i e2; subst e2; rw [List.getD_eq_getElem?_getD, List.getElem?_eq_getElem h2]; rfl
      · rfl
    rw [e1, Tl.join_id e]
    exact h
  · obtain ⟨dp, hd⟩ := h.dp
    have hl := Tl.join_length lab x y
    refine ⟨by rw [List.length_set, hl]; exact h.len, h.ok.join hx hy, fun a => if Tl.at_ lab a = Tl.at_ lab x then dp a + dp (Tl.at_ lab y) + 1 else dp a, fun a ha => ?_⟩
    rw [hl] at ha ⊢
    rw [getD_setN (by rw [h.len]; exact ha), Tl.join_at ha]
    obtain ⟨d1, d2⟩ := hd a ha
    have hyl := h.ok.lt y hy
    have hyi := h.ok.idem y hy
    by_cases e2 : Tl.at_ lab x = a
    · subst e2
      have hxi := h.ok.idem x hx
      rw [if_pos rfl, hxi, if_pos rfl]
      refine ⟨hyl, .inr ⟨fun e3 => e e3.symm, fun e3 => e e3.symm, ?_, ?_⟩⟩
      · rw [Tl.join_at hyl, hyi, if_neg (fun e3 => e e3.symm)]
      · show (if Tl.at_ lab (Tl.at_ lab y) = Tl.at_ lab x then _ else dp (Tl.at_ lab y)) < if Tl.at_ lab (Tl.at_ lab x) = Tl.at_ lab x then _ else _
        rw [if_neg (show ¬ Tl.at_ lab (Tl.at_ lab y) = Tl.at_ lab x by rw [hyi]; exact fun e3 => e e3.symm), if_pos hxi]
        omega
    · rw [if_neg e2]
      refine ⟨d1, ?_⟩
      rw [Tl.join_at d1]
      rcases d2 with ⟨h1, h2⟩ | ⟨h1, h2, h3, h4⟩
      · refine .inl ⟨h1, ?_⟩
        rw [h2, if_neg (fun e3 => e2 e3.symm)]
      · refine .inr ⟨h1, ?_, by rw [h3], ?_⟩
        · by_cases e3 : Tl.at_ lab a = Tl.at_ lab x
          · rw [if_pos e3]
            intro e4
            rw [← e4, hyi] at h2
            exact h2 rfl
          · rw [if_neg e3]; exact h2
        · show (if Tl.at_ lab (par.getD a 0) = Tl.at_ lab x then dp (par.getD a 0) + _ + 1 else dp (par.getD a 0)) < if Tl.at_ lab a = Tl.at_ lab x then _ else _
          rw [h3]
          by_cases e3 : Tl.at_ lab a = Tl.at_ lab x
          · rw [if_pos e3, if_pos e3]; omega
          · rw [if_neg e3, if_neg e3]; exact h4

end Go.Proofs.YtndgffiihbdppaaDoor
/- Cycles. -/
namespace Go.Proofs.YtndgffiihbdppaaDoor
set_option linter.unusedVariables false
set_option linter.unusedSimpArgs false
open Go.RowKit

theorem slice_info : (Tryd.prog.info? 22).map (fun i => (i.zero, i.size, i.bytes)) = some (some (.slice none 0 0), 1, 24) := by kernel_rfl

end Go.Proofs.YtndgffiihbdppaaDoor
/- timbref1.Parts. -/
namespace Go.Proofs.YtndgffiihbdppaaDoor
set_option linter.unusedVariables false
set_option linter.unusedSimpArgs false
open Go.RowKit

theorem ownI_ne_ {w : World} {base n c g : Nat} {A : Option Addr} {xs : List Int} {t : TypeId} {cs : Array Value} (h : OwnI w base A n c xs) (hb : Blk w g t cs) (ht : t ≠ 3) : some g ≠ (Value.slice A n c).ownBlock := by
  intro e
  rcases h.own.2 with ⟨hv, _⟩ | ⟨k, cap, cur, hv, _, hh, _⟩
  · rw [hv] at e; cases e
  · rw [hv] at e
    injection e with e
    subst e
    unfold Blk at hb
    rw [hb] at hh
    simp only [Option.some.injEq, Obj.cells.injEq] at hh
    exact ht hh.2.1
end Go.Proofs.YtndgffiihbdppaaDoor
/- Package link: Components, IsKnot. -/
namespace Go.Proofs.YtndgffiihbdppaaDoor
set_option linter.unusedVariables false
set_option linter.unusedSimpArgs false
open Go.RowKit

theorem WR.empty {w : World} {base g K c : Nat} (h : OwnV w base (some ⟨g, 0, none⟩) K c (List.replicate K (.slice none 0 0))) : WR w base (some ⟨g, 0, none⟩) K c (List.replicate K (.slice none 0 0)) (List.replicate K []) := by
  refine ⟨h, ⟨by simp [zssW], fun p hp => ?_⟩, fun p p' v v' _ hv _ b hb => ?_⟩
  · rw [List.length_replicate] at hp
    exact ⟨none, 0, 0, by simp [hp], by rw [zssW_getD (by simpa using hp)]; simp [List.getD, hp]; exact OwnI.nil_ _ _⟩
  · rw [List.getElem?_replicate] at hv
    split at hv
    · injection hv with hv
      rw [← hv] at hb
      cases hb
    · cases hv
theorem lkL_bad {m : Int} {xs : List Int} (h : bfault m xs ≠ 0) : lkL m xs = [] := by unfold lkL; rw [if_neg h]
theorem lkL_good {M : Nat} {xs : List Int} (h : bfault (M : Int) xs = 0) : lkL (M : Int) xs = zssW (prtL (endsL M xs)) := by unfold lkL zssW; rw [if_pos h, Int.toNat_natCast]
set_option maxRecDepth 100000 in
set_option maxHeartbeats 8000000 in
theorem components_any (m : Int) (A : Option Addr) (n c : Nat) (xs : List Int) (w : World) (ha : SL w A n c xs) (hm : (Lit.int .i64 m).wf = true) :
    Calls Tryd.prog 8 #[.int .i64 m, .slice A n c] w (GivesLK w (bfault m xs) (lkL m xs)) := by
  by_cases h0 : bfault m xs = 0
  case neg =>
    have HC := hide (number_no m A n c xs w ha hm h0)
    rw [lkL_bad h0]
    obtain ⟨f, hf⟩ : ∃ f, bfault m xs = f := ⟨_, rfl⟩
    rw [hf] at HC h0 ⊢
    have hne : (f != 0) = true := by simpa using h0
    clear ha hm hf h0
    go_enter Tryd.func8, Tryd.ntmps8
    go_wp2_with fail
    refine HC.out.mono ?_
    rintro e w1 ⟨P, pn, pc, rfl, ho, hb⟩
    have HB := hide hb
    clear hb ho HC
    go_wp2_with fail
    go_ret2
    exact ⟨none, 0, 0, rfl, SLL.nil_ _, HB.out⟩
  case pos =>
    obtain ⟨g1, g6, gl, gx⟩ := bfault_zero h0
    obtain ⟨M, rfl⟩ : ∃ M : Nat, m = M := ⟨m.toNat, by omega⟩
    have hM6 : M ≤ 6 := by omega
    have hok : okB M xs := fun x h => by have := gx x h; omega
    have HPA := hide (ends_isP hok)
    have HAL : Hid ((endsL M xs).length = M) := hide (endsL_length M xs)
    have HC := hide (number_yes M A n c xs w ha hm h0)
    rw [lkL_good h0, h0]
    obtain ⟨a, haa⟩ : ∃ a, endsL M xs = a := ⟨_, rfl⟩
    rw [haa] at HC HPA HAL ⊢
    have hK6 : (prtL a).length ≤ 6 := by have := prtL_le a; rw [HAL.out] at this; omega
    obtain ⟨K, hK⟩ : ∃ K, (prtL a).length = K := ⟨_, rfl⟩
    have HK := hide hK
    rw [hK] at HC hK6
    clear ha hm h0 g1 g6 gl gx hok haa hK
    obtain ⟨i0, hi0, hz0, hz1, hz2⟩ := info_parts int_info
    obtain ⟨i1, hj0, hk0, hk1, hk2⟩ := info_parts slice_info
    have HI0 := hide hi0
    have HY0 := hide hz0
    have HY1 := hide hz1
    have HY2 := hide hz2
    clear hi0 hz0 hz1 hz2
    go_enter Tryd.func8, Tryd.ntmps8
    go_wp2_with fail
    refine HC.out.mono ?_
    rintro e w1 ⟨P, pn, pc, rfl, ho, hb⟩
    have hpn : M = pn := by have := ho.len; rw [zs_length, List.length_map, List.length_range] at this; exact this
    subst hpn
    have HO1 := hide ho.il
    have HW1 := hide hb
    have hs1 := hb.size
    clear hb ho HC
    go_wp2_with (at_make; refine wpList_make_full _ rfl _ _ 25 rfl w1.heap.size 22 i1 (.slice none 0 0) 1 Tryd.underlying25 hj0 hk0 hk1 .i64 .i64 _ _ K rfl rfl rfl rfl (by rw [hk2]; omega) (by unfold maxLen; omega) (Nat.le_refl _) ?_; intro w2 hown2 hg2)
    have hB2 : Below w1.heap.size w1 w2 := (Below.refl _ _).grown hg2 (Nat.le_refl _) (by intro k hk; cases hk)
    have ho2 := ownV_zero hown2 (by omega)
    have HR2 := hide (WR.empty ho2)
    obtain ⟨g, hg⟩ : ∃ g, w1.heap.size = g := ⟨_, rfl⟩
    have HG := hide hg
    rw [hg] at HR2 hB2 hs1 ⊢
    have HB2 := hide hB2
    have HR0 : Hid (∃ vs, WR w2 g (some ⟨g, 0, none⟩) K K vs (rwK a 0)) := hide ⟨_, by rw [rwK_start, HK.out]; exact HR2.out⟩
    clear hown2 hg2 ho2 hB2 hg hj0 hk0 hk1 hk2 HR2
    go_loopw [26] (fun i wr => ∃ k : Nat, k ≤ M ∧ i = .int .i64 k ∧ Hid (∃ vs, WR wr g (some ⟨g, 0, none⟩) K K vs (rwK a k)) ∧ Hid (Below g w1 wr)) (fun i _ => M - (intOf i).toNat)
    case atStart => exact ⟨0, Nat.zero_le _, rfl, HR0, HB2⟩
    case round =>
      clear HR0 HB2
      obtain ⟨i, hi, rfl, HR, HB⟩ := hrel
      by_cases hlt : i < M
      · obtain ⟨vs, hwr⟩ := HR.out
        have hil : i < a.length := by rw [HAL.out]; exact hlt
        obtain ⟨ad, rfl, hc⟩ := (HO1.out.below (by rw [HG.out]; exact HB.out)).at_ hlt
        rw [zs_getD, show ((List.range M).map (lkAt a)).getD i 0 = lkAt a i by simp [List.getD, hlt]] at hc
        have hbK : lkAt a i < K := by rw [← HK.out]; exact lkAt_lt HPA.out hil
        have HNW := hide (rwK_put HPA.out hil)
        have hrl : (rwK a i).getD (lkAt a i) [] = (List.range i).filter fun s => decide (lkAt a s = lkAt a i) := rwK_getD (by rw [HK.out]; exact hbK)
        obtain ⟨b, hb⟩ : ∃ b, lkAt a i = b := ⟨_, rfl⟩
        rw [hb] at hc hbK HNW hrl
        obtain ⟨R, m', cc, hvb, hob⟩ := hwr.row hbK
        have hm6 : m' ≤ 1000 := by
          have h1 := hob.len
          rw [zs_length, hrl] at h1
          have h2 : ((List.range i).filter fun s => decide (lkAt a s = b)).length ≤ i := by
            refine Nat.le_trans (List.length_filter_le _ _) ?_
            rw [List.length_range]
            exact Nat.le_refl _
          omega
        obtain ⟨gQ, e, hcQ⟩ := hwr.own.cellAt hbK
        injection e with e
        injection e with e
        subst e
        rw [hvb] at hcQ
        have HVB := hide hvb
        have HOB := hide hob
        have HWR := hide hwr
        have hgs := HB.out.size
        have hgr : g ≤ wr.heap.size := by have := HG.out; omega
        obtain ⟨curQ, BQ⟩ : ∃ cur, Blk wr g 22 cur := by
          rcases hwr.own.own.2 with ⟨e, _⟩ | ⟨g', cap, cur, e, _, hh, _⟩
          · cases e
          · simp only [Value.slice.injEq, Option.some.injEq, Addr.mk.injEq, and_true, true_and] at e
            obtain ⟨rfl, _⟩ := e
            exact ⟨cur, hh⟩
        have HBQ := hide BQ
        have hcQ2 : curQ[b]? = some (.slice R m' cc) := by rw [← BQ.cell b]; exact hcQ
        clear hb hrl hvb hob hwr hil HR BQ
        go_wp2_with (at_builtin; refine wpList_append_int _ rfl (.tmp 36) (.tmp 38) 22 rfl g i0 Tryd.underlying22 HI0.out HY0.out HY1.out HY2.out R m' cc (zs ((rwK a i).getD b [])) rfl (HOB.out.alloc _) (some ⟨wr.heap.size, 0, none⟩) 1 1 [(i : Int)] rfl (IL.lit wr [(i : Int)] (by simp) rfl rfl) (by omega) (Nat.le_trans hgr (by simp)) ?_; intro R' c' w12 hap; have hrow : (Value.slice R (m' + 1) cc).ownBlock = (Value.slice R m' cc).ownBlock := ownBlock_len R (m' + 1) m' cc cc; have BQ3 := (HBQ.out.alloc (.cells #[.int .i64 i] 3)).grown hap.grown (by rw [hrow]; exact fun e => ownI_ne_ HOB.out HBQ.out (by decide) e); have hcQ3 : w12.cell? ⟨g, b, none⟩ = some (.slice R m' cc) := (BQ3.cell b).trans hcQ2; have hfQ3 := BQ3.frozen b)
        have HW3 := hide (HWR.out.put (i := i) hgr hbK HVB.out HOB.out hap)
        rw [← HNW.out] at HW3
        have HB13 : Hid (Below g w1 (w12.setCell ⟨g, b, none⟩ (.slice R' (m' + 1) c'))) := hide (((HB.out.alloc hgr _).grown hap.grown (Nat.le_trans hgr (by simp)) (fun b' hb' => (HOB.out.lt b' (by rw [← hrow]; exact hb')).1)).setCell (p := ⟨g, b, none⟩) (Nat.le_refl _) _)
        clear hap BQ3 hcQ3 hfQ3 hrow hc hcQ hcQ2
        go_roundw
        case rel => exact ⟨i + 1, by omega, by go_num, hide ⟨_, HW3.out⟩, HB13⟩
        case measure => simp [intOf]; omega
      · have hin : i = M := by omega
        obtain ⟨vs, hwr⟩ := HR.out
        have h2 := rwK_end HPA.out
        rw [HAL.out] at h2
        rw [hin, h2] at hwr
        have HWR := hide hwr
        clear hwr h2 hin HR
        go_wp2_with fail
        go_ret2
        exact ⟨_, _, _, rfl, SLL.of_rows HWR.out.own HWR.out.rows, HW1.out.trans (HB.out.mono hs1)⟩

set_option maxRecDepth 100000 in
set_option maxHeartbeats 4000000 in
theorem isKnot_any (m : Int) (A : Option Addr) (n c : Nat) (xs : List Int) (w : World) (ha : SL w A n c xs) (hm : (Lit.int .i64 m).wf = true) :
    Calls Tryd.prog 14 #[.int .i64 m, .slice A n c] w fun e w' => e = .returned (.tuple #[.bool (lkK m xs), .int .i64 (bfault m xs)]) ∧ Below w.heap.size w w' := by
  by_cases h0 : bfault m xs = 0
  case neg =>
    have HC := hide (number_no m A n c xs w ha hm h0)
    have HE : Hid (lkK m xs = false) := hide (by unfold lkK; rw [decide_eq_false h0]; rfl)
    rw [HE.out]
    obtain ⟨f, hf⟩ : ∃ f, bfault m xs = f := ⟨_, rfl⟩
    rw [hf] at HC ⊢
    clear ha hm hf h0 HE
    go_enter Tryd.func14, Tryd.ntmps14
    go_wp2_with fail
    refine HC.out.mono ?_
    rintro e w1 ⟨P, pn, pc, rfl, ho, hb⟩
    have HB := hide hb
    clear hb ho HC
    go_wp2_with fail
    go_ret2
    exact ⟨rfl, HB.out⟩
  case pos =>
    obtain ⟨g1, g6, gl, gx⟩ := bfault_zero h0
    obtain ⟨M, rfl⟩ : ∃ M : Nat, m = M := ⟨m.toNat, by omega⟩
    have HC := hide (number_yes M A n c xs w ha hm h0)
    rw [lkK_ok h0, h0]
    obtain ⟨K, hK⟩ : ∃ K, (prtL (endsL M xs)).length = K := ⟨_, rfl⟩
    rw [hK] at HC ⊢
    have hKe : ((K : Int) == 1) = decide (K = 1) := by rw [Bool.eq_iff_iff, beq_iff_eq, decide_eq_true_iff]; omega
    clear ha hm h0 g1 g6 gl gx hK
    go_enter Tryd.func14, Tryd.ntmps14
    go_wp2_with fail
    refine HC.out.mono ?_
    rintro e w1 ⟨P, pn, pc, rfl, ho, hb⟩
    have HB := hide hb
    clear hb ho HC
    go_wp2_with fail
    go_ret2
    exact ⟨rfl, HB.out⟩
end Go.Proofs.YtndgffiihbdppaaDoor
/- Package link keeps its contracts. -/
namespace Go.Proofs.YtndgffiihbdppaaDoor
set_option linter.unusedVariables false
set_option linter.unusedSimpArgs false

theorem linkC : LinkC where
  parts := components_any -- 8
  knot := isKnot_any -- 14
end Go.Proofs.YtndgffiihbdppaaDoor
/- timbref1.Colored. -/
namespace Go.Proofs.YtndgffiihbdppaaDoor
set_option linter.unusedVariables false
set_option linter.unusedSimpArgs false
open Go.RowKit

theorem cCol_snoc (m : Int) (w : List Int) (x : Int) (c : List Int) : cCol m (w ++ [x]) c = cSt m x (cCol m w c) := by
  rw [cCol_append]; rfl

end Go.Proofs.YtndgffiihbdppaaDoor
/- Package coloring: check, mirror, propagate. -/
namespace Go.Proofs.YtndgffiihbdppaaDoor
set_option linter.unusedVariables false
set_option linter.unusedSimpArgs false
open Go.RowKit

set_option maxRecDepth 100000 in
set_option maxHeartbeats 2000000 in
theorem clcheck_any (F : BraidC) (m : Int) (A : Option Addr) (n c : Nat) (xs : List Int) (k : Int) (w : World) (ha : SL w A n c xs) (hm : (Lit.int .i64 m).wf = true) :
    Calls Tryd.prog 19 #[.int .i64 m, .slice A n c, .int .i64 k] w fun e w' => e = .returned (.int .i64 (colE m xs k)) ∧ Below w.heap.size w w' := by
  have HC := hide (F.check m A n c xs w ha hm)
  clear F ha hm
  unfold colE
  obtain ⟨f, hf⟩ : ∃ f, bfault m xs = f := ⟨_, rfl⟩
  rw [hf] at HC ⊢
  clear hf
  by_cases h0 : f = 0
  · subst h0
    rw [if_neg (by simp)]
    by_cases h1 : k < 1
    · rw [if_pos (.inl h1)]
      have d1 : decide (k < 1) = true := decide_eq_true h1
      clear h1
      go_enter Tryd.func19, Tryd.ntmps19
      go_wp2_with fail
      refine HC.out.mono ?_
      rintro e w1 ⟨rfl, hb⟩
      have HB := hide hb
      clear hb
      go_wp2_with fail
      go_ret
      exact ⟨rfl, HB.out⟩
    · have d1 : decide (k < 1) = false := decide_eq_false h1
      by_cases h2 : 13 < k
      · rw [if_pos (.inr h2)]
        have d2 : decide (13 < k) = true := decide_eq_true h2
        clear h1 h2
        go_enter Tryd.func19, Tryd.ntmps19
        go_wp2_with fail
        refine HC.out.mono ?_
        rintro e w1 ⟨rfl, hb⟩
        have HB := hide hb
        clear hb
        go_wp2_with fail
        go_ret
        exact ⟨rfl, HB.out⟩
      · rw [if_neg (by omega)]
        have d2 : decide (13 < k) = false := decide_eq_false h2
        clear h1 h2
        go_enter Tryd.func19, Tryd.ntmps19
        go_wp2_with fail
        refine HC.out.mono ?_
        rintro e w1 ⟨rfl, hb⟩
        have HB := hide hb
        clear hb
        go_wp2_with fail
        go_ret
        exact ⟨rfl, HB.out⟩
  · rw [if_pos h0]
    have hb0 : (f != 0) = true := by simpa using h0
    clear h0
    go_enter Tryd.func19, Tryd.ntmps19
    go_wp2_with fail
    refine HC.out.mono ?_
    rintro e w1 ⟨rfl, hb⟩
    have HB := hide hb
    clear hb
    go_wp2_with fail
    go_ret
    exact ⟨rfl, HB.out⟩

set_option maxRecDepth 100000 in
set_option maxHeartbeats 2000000 in
theorem clmirror_any (x a : Int) (k : Nat) (w : World) (h1 : 0 ≤ x) (h2 : x < k) (h3 : 0 ≤ a) (h4 : a < k) (hk : k ≤ 13) :
    Calls Tryd.prog 36 #[.int .i64 x, .int .i64 a, .int .i64 (k : Int)] w fun e w' => e = .returned (.int .i64 ((2 * a - x) % (k : Int))) ∧ w = w' := by
  have w1 : IntKind.i64.wrap (2 * a) = 2 * a := by rw [IntKind.wrap_i64]; omega
  have w2 : IntKind.i64.wrap (2 * a - x) = 2 * a - x := by rw [IntKind.wrap_i64]; omega
  have w3 : IntKind.i64.wrap (2 * a - x + (k : Int)) = 2 * a - x + (k : Int) := by rw [IntKind.wrap_i64]; omega
  have hkz : ((k : Int) == 0) = false := by simp; omega
  go_enter Tryd.func36, Tryd.ntmps36
  go_wp2_with fail
  go_ret
  exact ⟨by rw [← Int.add_emod_right (2 * a - x) (k : Int)]; rfl, rfl⟩
end Go.Proofs.YtndgffiihbdppaaDoor
/- Package coloring: propagate. (Made out of XColR by a program.) -/
namespace Go.Proofs.YtndgffiihbdppaaDoor
set_option linter.unusedVariables false
set_option linter.unusedSimpArgs false
open Go.RowKit

set_option maxRecDepth 100000 in
set_option maxHeartbeats 4000000 in
theorem clprop_any (A : Option Addr) (n c : Nat) (xs : List Int) (B : Option Addr) (m d : Nat) (ys : List Int) (k N : Nat) (w : World) (ha : SL w A n c xs) (hb : SL w B m d ys) (hc : IsC (k : Int) N ys) (hx : ∀ x ∈ xs, x ≠ 0 ∧ x.natAbs < N) (hk : k ≤ 13) (hN1 : 1 ≤ N) (hN : N ≤ 6) :
    Calls Tryd.prog 23 #[.slice A n c, .slice B m d, .int .i64 (k : Int)] w (GivesOwn w (cCol k xs ys)) := by
  have hk1 : 1 ≤ k := by have := hc.col 0 (by omega); omega
  have HC := hide hc
  have HA := hide ha
  have HX := hide hx
  have hmN : m = N := by have := hb.il.len; have := hc.len; omega
  subst hmN
  have HCL := hide (clone_any B m d ys w hb.il hb.nil)
  have hsm := ha.il.small
  clear hc ha hx hb
  go_enter Tryd.func23, Tryd.ntmps23
  go_wp2_with fail
  refine HCL.out.mono ?_
  rintro e w1 ⟨D, dn, dc, rfl, ho, hb1⟩
  have hdn : dn = m := by have := ho.len; have := HC.out.len; omega
  subst hdn
  obtain ⟨g, rfl, hg1, hg2⟩ := ho.form (by omega)
  have HO1 : Hid (OwnI w1 w.heap.size (some ⟨g, 0, none⟩) dn dc (cCol k (xs.take 0) ys)) := hide (by rw [List.take_zero]; exact ho)
  have HB1 := hide hb1
  clear ho hb1 hg2 HCL
  go_wp2_with fail
  go_loopw [17] (fun iv wr => ∃ j : Nat, j ≤ n ∧ iv = .int .i64 j ∧ Hid (OwnI wr w.heap.size (some ⟨g, 0, none⟩) dn dc (cCol k (xs.take j) ys)) ∧ Hid (Below w.heap.size w wr)) (fun iv _ => n - (intOf iv).toNat)
  case atStart => exact ⟨0, Nat.zero_le _, rfl, HO1, HB1⟩
  case round =>
    clear HO1 HB1
    obtain ⟨j, hj, rfl, HO, HB⟩ := hrel
    by_cases hlt : j < n
    · obtain ⟨ad, rfl, hcl⟩ := (HA.out.below HB.out).il.at_ hlt
      have hjl : j < xs.length := by rw [HA.out.il.len]; exact hlt
      have hmem := HX.out (xs.getD j 0) (by rw [show xs.getD j 0 = xs[j] by simp [List.getD, List.getElem?_eq_getElem hjl]]; exact List.getElem_mem _)
      have HTK : Hid (cCol k (xs.take (j + 1)) ys = cSt k (xs.getD j 0) (cCol k (xs.take j) ys)) := hide (by
        rw [List.take_succ_eq_append_getElem hjl, cCol_snoc]; simp [List.getD, List.getElem?_eq_getElem hjl])
      have HCC : Hid (IsC (k : Int) dn (cCol k (xs.take j) ys)) := hide (HC.out.word fun y hy => HX.out y (List.mem_of_mem_take hy))
      obtain ⟨hx0, hx1⟩ := hmem
      clear hjl
      generalize xs.getD j 0 = x at *
      generalize cCol k (xs.take j) ys = cur at *
      obtain ⟨i, hi⟩ : ∃ i, x.natAbs = i + 1 := ⟨x.natAbs - 1, by omega⟩
      have hi1 : i + 1 < dn := by omega
      have hca := HCC.out.col i (by omega)
      have hcb := HCC.out.col (i + 1) hi1
      have hc0 := HO.out.cell (j := i) (by omega)
      have hc1 := HO.out.cell (j := i + 1) (by omega)
      have hf0 := HO.out.frozen i
      have hf1 := HO.out.frozen (i + 1)
      have hS : cSt (k : Int) x cur = if 0 < x then (cur.set i ((2 * cur.getD i 0 - cur.getD (i + 1) 0) % k)).set (i + 1) (cur.getD i 0) else (cur.set i (cur.getD (i + 1) 0)).set (i + 1) ((2 * cur.getD (i + 1) 0 - cur.getD i 0) % k) := by
        unfold cSt
        rw [hi, Nat.add_sub_cancel]
      obtain ⟨a, hae⟩ : ∃ a, cur.getD i 0 = a := ⟨_, rfl⟩
      obtain ⟨b, hbe⟩ : ∃ b, cur.getD (i + 1) 0 = b := ⟨_, rfl⟩
      rw [hae] at hca hc0 hS
      rw [hbe] at hcb hc1 hS
      clear hae hbe
      have hBB := HB.out
      have HM : Hid (max x (-x) = (i : Int) + 1) := hide (by omega)
      have hwx : IntKind.i64.wrap (-x) = -x := by rw [IntKind.wrap_i64]; omega
      have hwi : IntKind.i64.wrap ((i : Int) + 1 - 1) = (i : Int) := by rw [IntKind.wrap_i64]; omega
      have hwi2 : (i : Int) + 1 - 1 = (i : Int) := by omega
      have hwi0 : IntKind.i64.wrap (i : Int) = (i : Int) := by rw [IntKind.wrap_i64]; omega
      by_cases hxp : 0 < x
      · rw [if_pos hxp] at hS
        have HN := hide ((HO.out.set_ i ((2 * a - b) % (k : Int))).set_ (i + 1) (a))
        rw [← hS, ← HTK.out] at HN
        have HBN := hide ((hBB.setCell (p := ⟨g, i, none⟩) hg1 (.int .i64 ((2 * a - b) % (k : Int)))).setCell (p := ⟨g, i + 1, none⟩) hg1 (.int .i64 (a)))
        have HMI := hide (fun w => clmirror_any (b) (a) k w (by omega) (by omega) (by omega) (by omega) hk)
        obtain ⟨r, hr⟩ : ∃ r, (2 * a - b) % (k : Int) = r := ⟨_, rfl⟩
        rw [hr] at HN HBN
        simp only [hr] at HMI
        have hxd : decide (0 < x) = true := decide_eq_true hxp
        clear hS hBB HO HB hr hi hca hcb hxp hx0 hx1
        go_upto_region 6 with ((with_reducible show wpList _ _ _ (Oper.mk _ (.call { callee := .builtin .max, args := _, argTypes := _ }) _ _ _ _ :: _) _ _); refine wpList_gives rfl (gives_maxI rfl rfl rfl HM.out) ?_)
        go_region
        have ed0 : wr.drew.cell? ⟨g, i, none⟩ = some (.int .i64 a) := hc0
        have ed1 : wr.drew.cell? ⟨g, i + 1, none⟩ = some (.int .i64 b) := hc1
        have ef0 : wr.drew.frozen? ⟨g, i, none⟩ = false := hf0
        have ef1 : wr.drew.frozen? ⟨g, i + 1, none⟩ = false := hf1
        go_wp2_with fail
        refine (HMI.out _).mono ?_
        rintro e w3 ⟨rfl, hww⟩
        subst hww
        go_wp2_with fail
        go_roundw
        case rel => exact ⟨j + 1, by omega, by go_num, hide HN.out.drew, hide HBN.out.drew⟩
        case measure => simp [intOf]; omega
      · rw [if_neg hxp] at hS
        have HN := hide ((HO.out.set_ i (b)).set_ (i + 1) ((2 * b - a) % (k : Int)))
        rw [← hS, ← HTK.out] at HN
        have HBN := hide ((hBB.setCell (p := ⟨g, i, none⟩) hg1 (.int .i64 (b))).setCell (p := ⟨g, i + 1, none⟩) hg1 (.int .i64 ((2 * b - a) % (k : Int))))
        have HMI := hide (fun w => clmirror_any (a) (b) k w (by omega) (by omega) (by omega) (by omega) hk)
        obtain ⟨r, hr⟩ : ∃ r, (2 * b - a) % (k : Int) = r := ⟨_, rfl⟩
        rw [hr] at HN HBN
        simp only [hr] at HMI
        have hxd : decide (0 < x) = false := decide_eq_false hxp
        clear hS hBB HO HB hr hi hca hcb hxp hx0 hx1
        go_upto_region 6 with ((with_reducible show wpList _ _ _ (Oper.mk _ (.call { callee := .builtin .max, args := _, argTypes := _ }) _ _ _ _ :: _) _ _); refine wpList_gives rfl (gives_maxI rfl rfl rfl HM.out) ?_)
        go_region
        have ed0 : wr.drew.cell? ⟨g, i, none⟩ = some (.int .i64 a) := hc0
        have ed1 : wr.drew.cell? ⟨g, i + 1, none⟩ = some (.int .i64 b) := hc1
        have ef0 : wr.drew.frozen? ⟨g, i, none⟩ = false := hf0
        have ef1 : wr.drew.frozen? ⟨g, i + 1, none⟩ = false := hf1
        go_wp2_with fail
        refine (HMI.out _).mono ?_
        rintro e w3 ⟨rfl, hww⟩
        subst hww
        go_wp2_with fail
        go_roundw
        case rel => exact ⟨j + 1, by omega, by go_num, hide HN.out.drew, hide HBN.out.drew⟩
        case measure => simp [intOf]; omega
    · have hjn : j = n := by omega
      subst hjn
      rw [List.take_of_length_le (by rw [HA.out.il.len]; exact Nat.le_refl _)] at HO
      clear hlt hj
      go_wp2_with fail
      go_ret
      exact ⟨_, _, _, rfl, HO.out, HB.out⟩
end Go.Proofs.YtndgffiihbdppaaDoor
/- The matrix of the differences that package coloring builds has the solutions that the colorings are. -/
namespace Go.Proofs.YtndgffiihbdppaaDoor
set_option linter.unusedVariables false
set_option linter.unusedSimpArgs false
open CR

/-- The list with the color 1 at one position. -/
def uCol (m : Int) (n t : Nat) : List Int := (List.replicate n 0).set t (1 % m)
theorem uCol_length (m : Int) (n t : Nat) : (uCol m n t).length = n := by simp [uCol]
theorem uCol_getD {m : Int} {n t j : Nat} (hj : j < n) : (uCol m n t).getD j 0 = if j = t then 1 % m else 0 := by
  unfold uCol
  simp only [List.getD, List.getElem?_set, List.length_replicate]
  by_cases e : t = j
  · subst e; simp [hj]
  · rw [if_neg e, if_neg (fun h => e h.symm)]
    simp [hj]
theorem uCol_isC {m : Int} {n t : Nat} (hm : 1 ≤ m) : IsC m n (uCol m n t) := by
  refine ⟨uCol_length _ _ _, fun j hj => ?_⟩
  rw [uCol_getD hj]
  split
  · exact ⟨Int.emod_nonneg _ (by omega), Int.emod_lt_of_pos _ (by omega)⟩
  · omega
/-- One element of the matrix. -/
def dEl (m : Int) (n : Nat) (w : List Int) (i t : Nat) : Int := (cCol m w (uCol m n t)).getD i 0 - (uCol m n t).getD i 0
/-- The matrix of the differences. -/
def dMx (m : Int) (n : Nat) (w : List Int) : List (List Int) := (List.range n).map fun i => (List.range n).map fun t => dEl m n w i t
theorem dMx_length (m : Int) (n : Nat) (w : List Int) : (dMx m n w).length = n := by simp [dMx]
theorem dMx_row {m : Int} {n i : Nat} (w : List Int) (h : i < n) : (dMx m n w).getD i [] = (List.range n).map fun t => dEl m n w i t := by simp [dMx, List.getD, h]
theorem dEl_cong {m : Int} {n : Nat} {w : List Int} (hw : ∀ x ∈ w, x ≠ 0 ∧ x.natAbs < n) {i t : Nat} (hi : i < n) (ht : t < n) : m ∣ dEl m n w i t - (kM n w i t - oneM i t) := by
  have h1 := cCol_lin (m := m) hw (uCol_length m n t) i hi
  have e : (sumN n fun k => kM n w i k * (uCol m n t).getD k 0) = kM n w i t * (1 % m) := by
    rw [sumN_single (k := t) ht (fun j hj h2 => by rw [uCol_getD hj, if_neg h2]; exact Int.mul_zero _), uCol_getD ht, if_pos rfl]
  rw [e] at h1
  have h2 : m ∣ 1 % m - 1 := ⟨-(1 / m), by
    have h1 := Int.emod_def 1 m
    have h2 := Int.mul_neg m (1 / m)
    omega⟩
  have h3 : m ∣ kM n w i t * (1 % m) - kM n w i t := by
    have := Int.dvd_mul_of_dvd_right (b := kM n w i t) h2
    rw [Int.mul_sub, Int.mul_one] at this
    exact this
  have h4 : m ∣ (uCol m n t).getD i 0 - oneM i t := by
    rw [uCol_getD hi]
    show m ∣ _ - (if i = t then (1 : Int) else 0)
    split
    · exact h2
    · exact Int.dvd_zero m
  have h5 := Int.dvd_sub (Int.dvd_add h1 h3) h4
  unfold dEl
  generalize (cCol m w (uCol m n t)).getD i 0 = a at *
  generalize (uCol m n t).getD i 0 = b at *
  generalize kM n w i t * (1 % m) = c at *
  generalize kM n w i t = d at *
  generalize (oneM i t : Int) = f at *
  rw [show a - b - (d - f) = a - c + (c - d) - (b - f) by omega]
  exact h5
theorem solB_dMx {m n : Nat} {w : List Int} (hw : ∀ x ∈ w, x ≠ 0 ∧ x.natAbs < n) (t : Nat) : solB (dMx m n w) m t = solB (cEq n w) m t := by
  have hr : ∀ (r : Nat → Int), dotI ((List.range n).map r) (digI m t) = sumN n fun k => r k * digI m t k := fun r => by
    unfold dotI
    rw [List.length_map, List.length_range]
    exact sumN_congr fun i hi => by simp [List.getD, hi]
  have key : ∀ j, j < n → ((dotI ((List.range n).map fun t => dEl m n w j t) (digI m t) % (m : Int) == 0) = (dotI ((List.range n).map fun k => kM n w j k - oneM j k) (digI m t) % (m : Int) == 0)) := fun j hj => by
    rw [hr, hr]
    have hd : (m : Int) ∣ (sumN n fun k => dEl m n w j k * digI m t k) - sumN n fun k => (kM n w j k - oneM j k) * digI m t k := by
      rw [← sumN_subI]
      refine dvd_sumN fun i hi => ?_
      rw [← Int.sub_mul]
      exact Int.dvd_mul_of_dvd_left (dEl_cong hw hj hi)
    generalize (sumN n fun k => dEl m n w j k * digI m t k) = a at *
    generalize (sumN n fun k => (kM n w j k - oneM j k) * digI m t k) = b at *
    have he : a % (m : Int) = b % (m : Int) := Int.emod_eq_emod_iff_emod_sub_eq_zero.2 (Int.emod_eq_zero_of_dvd hd)
    rw [he]
  unfold solB dMx cEq
  rw [List.all_map, List.all_map]
  refine Bool.eq_iff_iff.2 ?_
  rw [List.all_eq_true, List.all_eq_true]
  refine ⟨fun h j hj => ?_, fun h j hj => ?_⟩
  · have := h j hj
    show (dotI _ _ % _ == 0) = true
    rw [← key j (List.mem_range.1 hj)]
    exact this
  · have := h j hj
    show (dotI _ _ % _ == 0) = true
    rw [key j (List.mem_range.1 hj)]
    exact this
theorem solN_dMx {m n : Nat} {w : List Int} (hm : 1 ≤ m) (hw : ∀ x ∈ w, x ≠ 0 ∧ x.natAbs < n) : solN (dMx m n w) n m = cntC n m w := by
  rw [cntC_solN hm hw]
  unfold solN
  refine List.countP_congr fun t _ => ?_
  rw [solB_dMx hw]
theorem dEl_le {m n : Nat} {w : List Int} (hm : 1 ≤ m) (h13 : m ≤ 13) (hw : ∀ x ∈ w, x ≠ 0 ∧ x.natAbs < n) {i t : Nat} (hi : i < n) : dEl m n w i t ≤ 100 ∧ -100 ≤ dEl m n w i t := by
  have h1 := ((uCol_isC (m := (m : Int)) (n := n) (t := t) (by omega)).word hw).col i hi
  have h2 := (uCol_isC (m := (m : Int)) (n := n) (t := t) (by omega)).col i hi
  unfold dEl
  omega
theorem dMx_fault {m n : Nat} {w : List Int} (hm : 1 ≤ m) (h13 : m ≤ 13) (h6 : n ≤ 6) (hw : ∀ x ∈ w, x ≠ 0 ∧ x.natAbs < n) : mfault (dMx m n w) = 0 := by
  refine mfault_ok (k := n) (by rw [dMx_length]; exact h6) h6 fun r hr => ?_
  obtain ⟨i, hi, rfl⟩ := List.mem_map.1 hr
  refine ⟨by simp, fun x hx => ?_⟩
  obtain ⟨t, ht, rfl⟩ := List.mem_map.1 hx
  exact dEl_le hm h13 hw (List.mem_range.1 hi)
theorem dMx_sol {m n : Nat} {w : List Int} (hm : 1 ≤ m) (h13 : m ≤ 13) (h1 : 1 ≤ n) (h6 : n ≤ 6) (hw : ∀ x ∈ w, x ≠ 0 ∧ x.natAbs < n) : solE (dMx m n w) m = 0 ∧ solV (dMx m n w) m = (cntC n m w : Int) := by
  have he : solE (dMx m n w) m = 0 := by
    unfold solE
    rw [if_pos (dMx_fault hm h13 h6 hw), if_neg (by omega)]
  refine ⟨he, ?_⟩
  have hc : colsM (dMx m n w) = n := by
    unfold colsM
    rw [dMx_row w (by omega)]
    simp
  unfold solV
  rw [if_pos he, Int.toNat_natCast, hc, solN_dMx hm hw]
end Go.Proofs.YtndgffiihbdppaaDoor
/- A slice of rows that the call itself builds, row by row. -/
namespace Go.Proofs.YtndgffiihbdppaaDoor
set_option linter.unusedVariables false
set_option linter.unusedSimpArgs false
open Go.RowKit

structure MSt (w0 w : World) (A : Option Addr) (n c : Nat) (vs : List Value) (xss : List (List Int)) : Prop where
  own : OwnV w w0.heap.size A n c vs
  rows : RowsI w w0.heap.size vs xss
  below : Below w0.heap.size w0 w
section
variable {w0 w w' : World} {A : Option Addr} {n c : Nat} {vs : List Value} {xss : List (List Int)}
theorem MSt.start (w0 : World) : MSt w0 w0 none 0 0 [] [] := ⟨OwnV.nil_ _ _, RowsI.nil_ _ _, Below.refl _ _⟩
theorem MSt.to (h : MSt w0 w A n c vs xss) (hb : Below w.heap.size w w') : MSt w0 w' A n c vs xss :=
  ⟨h.own.keep (KeepT.below hb), h.rows.keep (KeepT.below hb), h.below.trans (hb.mono h.below.size)⟩
theorem MSt.add {w9 : World} {B A9 : Option Addr} {m d c9 : Nat} {xs : List Int} (h : MSt w0 w A n c vs xss) (hc : OwnI w w0.heap.size B m d xs)
    (happ : AppendedV (w.alloc (.cells #[.slice B m d] 22)) w0.heap.size A (n + 1) c (vs ++ [.slice B m d]) A9 c9 w9) : MSt w0 w9 A9 (n + 1) c9 (vs ++ [.slice B m d]) (xss ++ [xs]) := by
  have hblk : ∀ g, (Value.slice A (n + 1) c).ownBlock = some g → w0.heap.size ≤ g ∧ g < w.heap.size ∧ ∃ (cs : Array Value), w.heap[g]? = some (.cells cs 22 (0, 0)) := by
    intro g hg
    rw [ownBlock_len A (n + 1) n c c] at hg
    obtain ⟨h1, h2⟩ := h.own.lt g hg
    refine ⟨h1, h2, ?_⟩
    rcases h.own.own.2 with ⟨hv, _⟩ | ⟨g', cap, cur, hv, _, hh, _⟩
    · rw [hv] at hg; cases hg
    · rw [hv] at hg
      injection hg with hg
      subst hg
      exact ⟨cur, hh⟩
  have k3 : KeepT 3 w w9 := (KeepT.alloc w _).trans (KeepT.grown happ.grown (fun g hg => by
    obtain ⟨_, h2, cs, h3⟩ := hblk g hg
    exact ⟨22, cs, (Below.heap_alloc w _ g h2).trans h3, by decide⟩))
  exact ⟨happ.own, (h.rows.keep k3).snoc (k3.ownI hc), (h.below.alloc h.below.size _).grown happ.grown (Nat.le_trans h.below.size (by simp)) (fun g hg => (hblk g hg).1)⟩
theorem MSt.len (h : MSt w0 w A n c vs xss) : xss.length = n := by rw [← h.rows.len]; exact h.own.len
end
theorem rows_info : (Tryd.prog.info? 22).map (fun i => (i.zero, i.size, i.bytes)) = some (some (.slice none 0 0), 1, 24) := by kernel_rfl
end Go.Proofs.YtndgffiihbdppaaDoor
