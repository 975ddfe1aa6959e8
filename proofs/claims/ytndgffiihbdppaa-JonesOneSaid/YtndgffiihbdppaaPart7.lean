/- Several texts in one. -/
import Derived.Test.YtndgffiihbdppaaBase1
import Derived.Test.YtndgffiihbdppaaPart1
import Derived.Handy
import Derived.BigQuiet
import Derived.Deep.DeepCutAuto
import Derived.Test.YtndgffiihbdppaaPart6
import Derived.Test.YtndgffiihbdppaaPart5
import Derived.Deep.QuietTactic
import Derived.Test.YtndgffiihbdppaaBase2
import Derived.Test.YtndgffiihbdppaaPart2
import Derived.Test.YtndgffiihbdppaaPart3
/- A matrix of integers that a call builds, row by row. -/
namespace Go.Proofs.Ytndgffiihbdppaa
set_option linter.unusedVariables false
set_option linter.unusedSimpArgs false
open Go.RowKit

/-- The first k rows of a matrix of rows of n integers: the table in block go, row i in block gr i. -/
structure MaI (w : World) (base go n : Nat) (gr : Nat → Nat) (k : Nat) (X : Nat → Nat → Int) : Prop where
  blk : ∃ cs, Blk w go 22 cs
  out : ∀ i, i < k → w.cell? ⟨go, i, none⟩ = some (.slice (some ⟨gr i, 0, none⟩) n n)
  row : ∀ i, i < k → OwnI w base (some ⟨gr i, 0, none⟩) n n ((List.range n).map (X i))
  ne : ∀ i, i < k → gr i ≠ go
  inj : ∀ i j, i < k → j < k → gr i = gr j → i = j
  lt : ∀ i, i < k → gr i < w.heap.size
  base_le : base ≤ go ∧ ∀ i, i < k → base ≤ gr i
section
variable {w w' : World} {base go n k : Nat} {gr : Nat → Nat} {X Y : Nat → Nat → Int}
theorem MaI.go_lt (h : MaI w base go n gr k X) : go < w.heap.size := by
  obtain ⟨cs, hc⟩ := h.blk
  exact hc.lt
theorem MaI.below (h : MaI w base go n gr k X) (hb : Below w.heap.size w w') : MaI w' base go n gr k X := by
  refine ⟨?_, fun i hi => ?_, fun i hi => (KeepT.below hb).ownI (h.row i hi), h.ne, h.inj, fun i hi => Nat.lt_of_lt_of_le (h.lt i hi) hb.size, h.base_le⟩
  · obtain ⟨cs, hc⟩ := h.blk
    exact ⟨cs, hc.below hb hc.lt⟩
  · rw [← h.out i hi]
    exact hb.cell (p := ⟨go, i, none⟩) h.go_lt
theorem MaI.cell (h : MaI w base go n gr k X) {i j : Nat} (hi : i < k) (hj : j < n) : w.cell? ⟨gr i, j, none⟩ = some (.int .i64 (X i j)) := by
  rw [(h.row i hi).cell hj]
  simp [List.getD, hj]
theorem MaI.frozen (h : MaI w base go n gr k X) {i : Nat} (hi : i < k) (j : Nat) : w.frozen? ⟨gr i, j, none⟩ = false := (h.row i hi).frozen j
/-- One entry. -/
theorem MaI.set_ (h : MaI w base go n gr k X) {r c : Nat} (hr : r < k) (hc : c < n) (v : Int) : MaI (w.setCell ⟨gr r, c, none⟩ (.int .i64 v)) base go n gr k (fun i j => if i = r ∧ j = c then v else X i j) := by
  have hne : go ≠ gr r := fun e => h.ne r hr e.symm
  refine ⟨?_, fun i hi => ?_, fun i hi => ?_, h.ne, h.inj, fun i hi => ?_, h.base_le⟩
  · obtain ⟨cs, hc2⟩ := h.blk
    exact ⟨cs, hc2.far hne _⟩
  · rw [← h.out i hi]
    exact World.cell?_of_block (w := w) (a := ⟨go, i, none⟩) (Below.heap_setCell w ⟨gr r, c, none⟩ _ go hne)
  · by_cases e : i = r
    · subst e
      have h2 := (h.row i hi).set_ c v
      have e2 : ((List.range n).map (X i)).set c v = (List.range n).map fun j => if i = i ∧ j = c then v else X i j := by
        refine List.ext_getElem (by simp) fun j h3 h4 => ?_
        rw [List.getElem_set]
        simp only [List.getElem_map, List.getElem_range, true_and]
        by_cases e3 : c = j
        · rw [if_pos e3, if_pos e3.symm]
        · rw [if_neg e3, if_neg (Ne.symm e3)]
      rwa [e2] at h2
    · have hg : gr i ≠ gr r := fun e2 => e (h.inj i r hi hr e2)
      have e2 : (List.range n).map (fun j => if i = r ∧ j = c then v else X i j) = (List.range n).map (X i) := List.map_congr_left fun j _ => by rw [if_neg (fun h => e h.1)]
      rw [e2]
      have ho := h.row i hi
      refine ⟨⟨ho.own.1, ?_⟩, ho.small⟩
      rcases ho.own.2 with h2 | ⟨b, cap, cur, hv, hb, hh, q⟩
      · exact .inl h2
      · have hbg : b = gr i := by
          injection hv with hv
          injection hv with hv
          injection hv with hv
          exact hv.symm
        exact .inr ⟨b, cap, cur, hv, hb, (Below.heap_setCell w ⟨gr r, c, none⟩ _ b (by rw [hbg]; exact hg)).trans hh, q⟩
  · have := h.lt i hi
    simpa [World.setCell] using this
theorem MaI.congr (h : MaI w base go n gr k X) (e : ∀ i, i < k → ∀ j, j < n → X i j = Y i j) : MaI w base go n gr k Y :=
  ⟨h.blk, h.out, fun i hi => by rw [show (List.range n).map (Y i) = (List.range n).map (X i) from List.map_congr_left fun j hj => (e i hi j (List.mem_range.1 hj)).symm]; exact h.row i hi, h.ne, h.inj, h.lt, h.base_le⟩
/-- One row more. -/
theorem MaI.push (h : MaI w base go n gr k X) {g : Nat} (hb : Below w.heap.size w w') (hg : w.heap.size ≤ g) (ho : OwnI w' base (some ⟨g, 0, none⟩) n n ((List.range n).map (X k))) (hgl : g < w'.heap.size) (hgb : base ≤ g) {u : Value} (hu : w.cell? ⟨go, k, none⟩ = some u) :
    MaI (w'.setCell ⟨go, k, none⟩ (.slice (some ⟨g, 0, none⟩) n n)) base go n (fun i => if i = k then g else gr i) (k + 1) X := by
  have hgo := h.go_lt
  have h1 := h.below hb
  have far : ∀ {g' : Nat} {i : Nat}, g' ≠ go → OwnI w' base (some ⟨g', 0, none⟩) n n ((List.range n).map (X i)) → OwnI (w'.setCell ⟨go, k, none⟩ (.slice (some ⟨g, 0, none⟩) n n)) base (some ⟨g', 0, none⟩) n n ((List.range n).map (X i)) := by
    intro g' i hne ho
    refine ⟨⟨ho.own.1, ?_⟩, ho.small⟩
    rcases ho.own.2 with h2 | ⟨b, cap, cur, hv, hb, hh, q⟩
    · exact .inl h2
    · have hbg : b = g' := by
        injection hv with hv
        injection hv with hv
        injection hv with hv
        exact hv.symm
      exact .inr ⟨b, cap, cur, hv, hb, (Below.heap_setCell w' ⟨go, k, none⟩ _ b (by rw [hbg]; exact hne)).trans hh, q⟩
  have hsz : (w'.setCell ⟨go, k, none⟩ (.slice (some ⟨g, 0, none⟩) n n)).heap.size = w'.heap.size := by simp [World.setCell]
  refine ⟨?_, fun i hi => ?_, fun i hi => ?_, fun i hi => ?_, fun i j hi hj e => ?_, fun i hi => ?_, h.base_le.1, fun i hi => ?_⟩
  · obtain ⟨cs, hc⟩ := h1.blk
    exact ⟨_, hc.set_ k _⟩
  · by_cases e : i = k
    · subst e
      show _ = some (Value.slice (some ⟨if i = i then g else gr i, 0, none⟩) n n)
      rw [if_pos rfl]
      exact World.cell?_setCell_same w' _ _ ((hb.cell (p := ⟨go, i, none⟩) hgo).trans hu)
    · show _ = some (Value.slice (some ⟨if i = k then g else gr i, 0, none⟩) n n)
      rw [if_neg e, World.cell?_setCell_other w' _ _ _ (by intro h2; simp only [Addr.mk.injEq] at h2; omega)]
      exact h1.out i (by omega)
  · by_cases e : i = k
    · subst e; rw [if_pos rfl]; exact far (by omega) ho
    · rw [if_neg e]; exact far (h.ne i (by omega)) (h1.row i (by omega))
  · by_cases e : i = k
    · rw [if_pos e]; omega
    · rw [if_neg e]; exact h.ne i (by omega)
  · by_cases e1 : i = k
    · by_cases e2 : j = k
      · omega
      · rw [if_pos e1, if_neg e2] at e
        have := h.lt j (by omega)
        omega
    · by_cases e2 : j = k
      · rw [if_neg e1, if_pos e2] at e
        have := h.lt i (by omega)
        omega
      · rw [if_neg e1, if_neg e2] at e
        exact h.inj i j (by omega) (by omega) e
  · rw [hsz]
    by_cases e : i = k
    · rw [if_pos e]; exact hgl
    · rw [if_neg e]; exact h1.lt i (by omega)
  · by_cases e : i = k
    · rw [if_pos e]; exact hgb
    · rw [if_neg e]; exact h.base_le.2 i (by omega)
end
theorem ownV_zero {w : World} {base n c : Nat} {A : Option Addr} (h : w.ownsRow base 22 1 (.slice A n c) n (madeCells #[Value.slice none 0 0] (n * 1)).toList) (hs : n ≤ 1000) : OwnV w base A n c (List.replicate n (.slice none 0 0)) := by
  refine ⟨?_, by omega⟩
  rw [toList_madeCells_one, Nat.mul_one] at h
  simpa using h
theorem MaI.start {w : World} {base go n m : Nat} {vs : List Value} (h : OwnV w base (some ⟨go, 0, none⟩) m m vs) (X : Nat → Nat → Int) : MaI w base go n (fun _ => 0) 0 X := by
  have hb := (h.lt go rfl).1
  refine ⟨?_, fun i hi => absurd hi (Nat.not_lt_zero _), fun i hi => absurd hi (Nat.not_lt_zero _), fun i hi => absurd hi (Nat.not_lt_zero _), fun i j hi => absurd hi (Nat.not_lt_zero _), fun i hi => absurd hi (Nat.not_lt_zero _), hb, fun i hi => absurd hi (Nat.not_lt_zero _)⟩
  rcases h.own.2 with ⟨e, _⟩ | ⟨g, cap, cur, e, _, hh, _⟩
  · cases e
  · simp only [Value.slice.injEq, Option.some.injEq, Addr.mk.injEq, and_true, true_and] at e
    obtain ⟨rfl, _⟩ := e
    exact ⟨cur, hh⟩
theorem map_zero (n : Nat) : (List.range n).map (fun _ => (0 : Int)) = List.replicate n 0 := by
  rw [List.map_const', List.length_range]

end Go.Proofs.Ytndgffiihbdppaa
/- timbref1: Straight, Hook; joined points: Points, At, Join. -/
namespace Go.Proofs.Ytndgffiihbdppaa
set_option linter.unusedVariables false
set_option linter.unusedSimpArgs false
open Go.RowKit

theorem zs_set (l : List Nat) (i x : Nat) : (zs l).set i (x : Int) = zs (l.set i x) := by
  unfold zs
  rw [List.map_set]
  rfl
/-! ### joined points -/
/-- The pointers, the labels. -/
structure UF (par lab : List Nat) : Prop where
  len : par.length = lab.length
  ok : Tl.Ok lab
  dp : ∃ dp : Nat → Nat, ∀ a, a < lab.length → par.getD a 0 < lab.length ∧ ((par.getD a 0 = a ∧ Tl.at_ lab a = a) ∨ (par.getD a 0 ≠ a ∧ Tl.at_ lab a ≠ a ∧ Tl.at_ lab (par.getD a 0) = Tl.at_ lab a ∧ dp (par.getD a 0) < dp a))
theorem UF.range (N : Nat) : UF (List.range N) (List.range N) := ⟨rfl, Tl.Ok.range N, fun _ => 0, fun a ha => by
  rw [List.length_range] at ha ⊢
  have e : (List.range N).getD a 0 = a := Tl.range_at ha
  exact ⟨by rw [e]; exact ha, .inl ⟨e, e⟩⟩⟩
theorem UF.root {par lab : List Nat} (h : UF par lab) {a : Nat} (ha : a < lab.length) : par.getD (Tl.at_ lab a) 0 = Tl.at_ lab a := by
  obtain ⟨dp, hd⟩ := h.dp
  rcases (hd _ (h.ok.lt a ha)).2 with ⟨h1, _⟩ | ⟨_, h2, _⟩
  · exact h1
  · exact absurd (h.ok.idem a ha) h2
theorem getD_setN {l : List Nat} {i x j : Nat} (hj : j < l.length) : (l.set i x).getD j 0 = if i = j then x else l.getD j 0 := by
  by_cases e : i = j
  · subst e; simp [List.getD, hj]
  · rw [if_neg e]; simp [List.getD, List.getElem?_set_ne e]
theorem UF.join {par lab : List Nat} (h : UF par lab) {x y : Nat} (hx : x < lab.length) (hy : y < lab.length) : UF (par.set (Tl.at_ lab x) (Tl.at_ lab y)) (Tl.join lab x y) := by
  by_cases e : Tl.at_ lab x = Tl.at_ lab y
  · have e1 : par.set (Tl.at_ lab x) (Tl.at_ lab y) = par := by
      rw [← e]
      conv => lhs; rw [show par.set (Tl.at_ lab x) (Tl.at_ lab x) = par.set (Tl.at_ lab x) (par.getD (Tl.at_ lab x) 0) by rw [h.root hx]]
      have hlt := h.ok.lt x hx
      refine List.ext_getElem (by simp) fun j h1 h2 => ?_
      rw [List.getElem_set]
      split
      · rename_i e2; subst e2; rw [List.getD_eq_getElem?_getD, List.getElem?_eq_getElem h2]; rfl
      · rfl
    rw [e1, Tl.join_id e]
    exact h
  · obtain ⟨dp, hd⟩ := h.dp
    have hl := Tl.join_length lab x y
    refine ⟨by rw [List.length_set, hl]; exact h.len, h.ok.join hx hy, fun a => if Tl.at_ lab a = Tl.at_ lab x then dp a + dp (Tl.at_ lab y) + 1 else dp a, fun a ha => ?_⟩
    rw [hl] at ha ⊢
    rw [getD_setN (by rw [h.len]; exact ha), Tl.join_at ha]
    obtain ⟨d1, d2⟩ := hd a ha
    have hyl := h.ok.lt y hy
    have hyi := h.ok.idem y hy
    by_cases e2 : Tl.at_ lab x = a
    · subst e2
      have hxi := h.ok.idem x hx
      rw [if_pos rfl, hxi, if_pos rfl]
      refine ⟨hyl, .inr ⟨fun e3 => e e3.symm, fun e3 => e e3.symm, ?_, ?_⟩⟩
      · rw [Tl.join_at hyl, hyi, if_neg (fun e3 => e e3.symm)]
      · show (if Tl.at_ lab (Tl.at_ lab y) = Tl.at_ lab x then _ else dp (Tl.at_ lab y)) < if Tl.at_ lab (Tl.at_ lab x) = Tl.at_ lab x then _ else _
        rw [if_neg (show ¬ Tl.at_ lab (Tl.at_ lab y) = Tl.at_ lab x by rw [hyi]; exact fun e3 => e e3.symm), if_pos hxi]
        omega
    · rw [if_neg e2]
      refine ⟨d1, ?_⟩
      rw [Tl.join_at d1]
      rcases d2 with ⟨h1, h2⟩ | ⟨h1, h2, h3, h4⟩
      · refine .inl ⟨h1, ?_⟩
        rw [h2, if_neg (fun e3 => e2 e3.symm)]
      · refine .inr ⟨h1, ?_, by rw [h3], ?_⟩
        · by_cases e3 : Tl.at_ lab a = Tl.at_ lab x
          · rw [if_pos e3]
            intro e4
            rw [← e4, hyi] at h2
            exact h2 rfl
          · rw [if_neg e3]; exact h2
        · show (if Tl.at_ lab (par.getD a 0) = Tl.at_ lab x then dp (par.getD a 0) + _ + 1 else dp (par.getD a 0)) < if Tl.at_ lab a = Tl.at_ lab x then _ else _
          rw [h3]
          by_cases e3 : Tl.at_ lab a = Tl.at_ lab x
          · rw [if_pos e3, if_pos e3]; omega
          · rw [if_neg e3, if_neg e3]; exact h4

end Go.Proofs.Ytndgffiihbdppaa
/- timbref1.Stack. -/
namespace Go.Proofs.Ytndgffiihbdppaa
set_option linter.unusedVariables false
set_option linter.unusedSimpArgs false
open Go.RowKit Go.Maps

/-! ### how far a stack has come -/
/-- The map of the labels so far. -/
def Tl.fm (lab : List Nat) (i : Nat) : Value → Option Value
  | .int .i64 x => if 0 ≤ x ∧ (lab.take i).contains x.toNat = true then some (.bool true) else none
  | _ => none
theorem wf_nat {x : Nat} (h : x < 1000000) : (Lit.int .i64 (x : Int)).wf = true := by
  simp [Lit.wf, IntKind.min, IntKind.max, IntKind.signed, IntKind.bits]
  omega
theorem bne_tt {a b : Nat} (h : a ≠ b) : ((a : Int) != (b : Int)) = true := by simp; omega
theorem beq_tt {a b : Nat} (h : a = b) : ((a : Int) == (b : Int)) = true := by subst h; simp
theorem beq_ff {a b : Nat} (h : a ≠ b) : ((a : Int) == (b : Int)) = false := by simp; omega
end Go.Proofs.Ytndgffiihbdppaa
/- Cycles. -/
namespace Go.Proofs.Ytndgffiihbdppaa
set_option linter.unusedVariables false
set_option linter.unusedSimpArgs false
open Go.RowKit

theorem slice_info : (Try.prog.info? 22).map (fun i => (i.zero, i.size, i.bytes)) = some (some (.slice none 0 0), 1, 24) := by kernel_rfl

end Go.Proofs.Ytndgffiihbdppaa
/- timbref1.Parts. -/
namespace Go.Proofs.Ytndgffiihbdppaa
set_option linter.unusedVariables false
set_option linter.unusedSimpArgs false
open Go.RowKit

theorem ownI_ne_ {w : World} {base n c g : Nat} {A : Option Addr} {xs : List Int} {t : TypeId} {cs : Array Value} (h : OwnI w base A n c xs) (hb : Blk w g t cs) (ht : t ≠ 3) : some g ≠ (Value.slice A n c).ownBlock := by
  intro e
  rcases h.own.2 with ⟨hv, _⟩ | ⟨k, cap, cur, hv, _, hh, _⟩
  · rw [hv] at e; cases e
  · rw [hv] at e
    injection e with e
    subst e
    unfold Blk at hb
    rw [hb] at hh
    simp only [Option.some.injEq, Obj.cells.injEq] at hh
    exact ht hh.2.1
end Go.Proofs.Ytndgffiihbdppaa
/- Package link: Components, IsKnot. -/
namespace Go.Proofs.Ytndgffiihbdppaa
set_option linter.unusedVariables false
set_option linter.unusedSimpArgs false
open Go.RowKit

theorem WR.empty {w : World} {base g K c : Nat} (h : OwnV w base (some ⟨g, 0, none⟩) K c (List.replicate K (.slice none 0 0))) : WR w base (some ⟨g, 0, none⟩) K c (List.replicate K (.slice none 0 0)) (List.replicate K []) := by
  refine ⟨h, ⟨by simp [zssW], fun p hp => ?_⟩, fun p p' v v' _ hv _ b hb => ?_⟩
  · rw [List.length_replicate] at hp
    exact ⟨none, 0, 0, by simp [hp], by rw [zssW_getD (by simpa using hp)]; simp [List.getD, hp]; exact OwnI.nil_ _ _⟩
  · rw [List.getElem?_replicate] at hv
    split at hv
    · injection hv with hv
      rw [← hv] at hb
      cases hb
    · cases hv
theorem lkL_bad {m : Int} {xs : List Int} (h : bfault m xs ≠ 0) : lkL m xs = [] := by unfold lkL; rw [if_neg h]
theorem lkL_good {M : Nat} {xs : List Int} (h : bfault (M : Int) xs = 0) : lkL (M : Int) xs = zssW (prtL (endsL M xs)) := by unfold lkL zssW; rw [if_pos h, Int.toNat_natCast]
set_option maxRecDepth 100000 in
set_option maxHeartbeats 8000000 in
theorem components_any (m : Int) (A : Option Addr) (n c : Nat) (xs : List Int) (w : World) (ha : SL w A n c xs) (hm : (Lit.int .i64 m).wf = true) :
    Calls Try.prog 8 #[.int .i64 m, .slice A n c] w (GivesLK w (bfault m xs) (lkL m xs)) := by
  by_cases h0 : bfault m xs = 0
  case neg =>
    have HC := hide (number_no m A n c xs w ha hm h0)
    rw [lkL_bad h0]
    obtain ⟨f, hf⟩ : ∃ f, bfault m xs = f := ⟨_, rfl⟩
    rw [hf] at HC h0 ⊢
    have hne : (f != 0) = true := by simpa using h0
    clear ha hm hf h0
    go_enter Try.func8, Try.ntmps8
    go_wp2_with fail
    refine HC.out.mono ?_
    rintro e w1 ⟨P, pn, pc, rfl, ho, hb⟩
    have HB := hide hb
    clear hb ho HC
    go_wp2_with fail
    go_ret2
    exact ⟨none, 0, 0, rfl, SLL.nil_ _, HB.out⟩
  case pos =>
    obtain ⟨g1, g6, gl, gx⟩ := bfault_zero h0
    obtain ⟨M, rfl⟩ : ∃ M : Nat, m = M := ⟨m.toNat, by omega⟩
    have hM6 : M ≤ 6 := by omega
    have hok : okB M xs := fun x h => by have := gx x h; omega
    have HPA := hide (ends_isP hok)
    have HAL : Hid ((endsL M xs).length = M) := hide (endsL_length M xs)
    have HC := hide (number_yes M A n c xs w ha hm h0)
    rw [lkL_good h0, h0]
    obtain ⟨a, haa⟩ : ∃ a, endsL M xs = a := ⟨_, rfl⟩
    rw [haa] at HC HPA HAL ⊢
    have hK6 : (prtL a).length ≤ 6 := by have := prtL_le a; rw [HAL.out] at this; omega
    obtain ⟨K, hK⟩ : ∃ K, (prtL a).length = K := ⟨_, rfl⟩
    have HK := hide hK
    rw [hK] at HC hK6
    clear ha hm h0 g1 g6 gl gx hok haa hK
    obtain ⟨i0, hi0, hz0, hz1, hz2⟩ := info_parts int_info
    obtain ⟨i1, hj0, hk0, hk1, hk2⟩ := info_parts slice_info
    have HI0 := hide hi0
    have HY0 := hide hz0
    have HY1 := hide hz1
    have HY2 := hide hz2
    clear hi0 hz0 hz1 hz2
    go_enter Try.func8, Try.ntmps8
    go_wp2_with fail
    refine HC.out.mono ?_
    rintro e w1 ⟨P, pn, pc, rfl, ho, hb⟩
    have hpn : M = pn := by have := ho.len; rw [zs_length, List.length_map, List.length_range] at this; exact this
    subst hpn
    have HO1 := hide ho.il
    have HW1 := hide hb
    have hs1 := hb.size
    clear hb ho HC
    go_wp2_with (at_make; refine wpList_make_full _ rfl _ _ 23 rfl w1.heap.size 22 i1 (.slice none 0 0) 1 Try.underlying23 hj0 hk0 hk1 .i64 .i64 _ _ K rfl rfl rfl rfl (by rw [hk2]; omega) (by unfold maxLen; omega) (Nat.le_refl _) ?_; intro w2 hown2 hg2)
    have hB2 : Below w1.heap.size w1 w2 := (Below.refl _ _).grown hg2 (Nat.le_refl _) (by intro k hk; cases hk)
    have ho2 := ownV_zero hown2 (by omega)
    have HR2 := hide (WR.empty ho2)
    obtain ⟨g, hg⟩ : ∃ g, w1.heap.size = g := ⟨_, rfl⟩
    have HG := hide hg
    rw [hg] at HR2 hB2 hs1 ⊢
    have HB2 := hide hB2
    have HR0 : Hid (∃ vs, WR w2 g (some ⟨g, 0, none⟩) K K vs (rwK a 0)) := hide ⟨_, by rw [rwK_start, HK.out]; exact HR2.out⟩
    clear hown2 hg2 ho2 hB2 hg hj0 hk0 hk1 hk2 HR2
    go_loopw [26] (fun i wr => ∃ k : Nat, k ≤ M ∧ i = .int .i64 k ∧ Hid (∃ vs, WR wr g (some ⟨g, 0, none⟩) K K vs (rwK a k)) ∧ Hid (Below g w1 wr)) (fun i _ => M - (intOf i).toNat)
    case atStart => exact ⟨0, Nat.zero_le _, rfl, HR0, HB2⟩
    case round =>
      clear HR0 HB2
      obtain ⟨i, hi, rfl, HR, HB⟩ := hrel
      by_cases hlt : i < M
      · obtain ⟨vs, hwr⟩ := HR.out
        have hil : i < a.length := by rw [HAL.out]; exact hlt
        obtain ⟨ad, rfl, hc⟩ := (HO1.out.below (by rw [HG.out]; exact HB.out)).at_ hlt
        rw [zs_getD, show ((List.range M).map (lkAt a)).getD i 0 = lkAt a i by simp [List.getD, hlt]] at hc
        have hbK : lkAt a i < K := by rw [← HK.out]; exact lkAt_lt HPA.out hil
        have HNW := hide (rwK_put HPA.out hil)
        have hrl : (rwK a i).getD (lkAt a i) [] = (List.range i).filter fun s => decide (lkAt a s = lkAt a i) := rwK_getD (by rw [HK.out]; exact hbK)
        obtain ⟨b, hb⟩ : ∃ b, lkAt a i = b := ⟨_, rfl⟩
        rw [hb] at hc hbK HNW hrl
        obtain ⟨R, m', cc, hvb, hob⟩ := hwr.row hbK
        have hm6 : m' ≤ 1000 := by
          have h1 := hob.len
          rw [zs_length, hrl] at h1
          have h2 : ((List.range i).filter fun s => decide (lkAt a s = b)).length ≤ i := by
            refine Nat.le_trans (List.length_filter_le _ _) ?_
            rw [List.length_range]
            exact Nat.le_refl _
          omega
        obtain ⟨gQ, e, hcQ⟩ := hwr.own.cellAt hbK
        injection e with e
        injection e with e
        subst e
        rw [hvb] at hcQ
        have HVB := hide hvb
        have HOB := hide hob
        have HWR := hide hwr
        have hgs := HB.out.size
        have hgr : g ≤ wr.heap.size := by have := HG.out; omega
        obtain ⟨curQ, BQ⟩ : ∃ cur, Blk wr g 22 cur := by
          rcases hwr.own.own.2 with ⟨e, _⟩ | ⟨g', cap, cur, e, _, hh, _⟩
          · cases e
          · simp only [Value.slice.injEq, Option.some.injEq, Addr.mk.injEq, and_true, true_and] at e
            obtain ⟨rfl, _⟩ := e
            exact ⟨cur, hh⟩
        have HBQ := hide BQ
        have hcQ2 : curQ[b]? = some (.slice R m' cc) := by rw [← BQ.cell b]; exact hcQ
        clear hb hrl hvb hob hwr hil HR BQ
        go_wp2_with (at_builtin; refine wpList_append_int _ rfl (.tmp 36) (.tmp 38) 22 rfl g i0 Try.underlying22 HI0.out HY0.out HY1.out HY2.out R m' cc (zs ((rwK a i).getD b [])) rfl (HOB.out.alloc _) (some ⟨wr.heap.size, 0, none⟩) 1 1 [(i : Int)] rfl (IL.lit wr [(i : Int)] (by simp) rfl rfl) (by omega) (Nat.le_trans hgr (by simp)) ?_; intro R' c' w12 hap; have hrow : (Value.slice R (m' + 1) cc).ownBlock = (Value.slice R m' cc).ownBlock := ownBlock_len R (m' + 1) m' cc cc; have BQ3 := (HBQ.out.alloc (.cells #[.int .i64 i] 3)).grown hap.grown (by rw [hrow]; exact fun e => ownI_ne_ HOB.out HBQ.out (by decide) e); have hcQ3 : w12.cell? ⟨g, b, none⟩ = some (.slice R m' cc) := (BQ3.cell b).trans hcQ2; have hfQ3 := BQ3.frozen b)
        have HW3 := hide (HWR.out.put (i := i) hgr hbK HVB.out HOB.out hap)
        rw [← HNW.out] at HW3
        have HB13 : Hid (Below g w1 (w12.setCell ⟨g, b, none⟩ (.slice R' (m' + 1) c'))) := hide (((HB.out.alloc hgr _).grown hap.grown (Nat.le_trans hgr (by simp)) (fun b' hb' => (HOB.out.lt b' (by rw [← hrow]; exact hb')).1)).setCell (p := ⟨g, b, none⟩) (Nat.le_refl _) _)
        clear hap BQ3 hcQ3 hfQ3 hrow hc hcQ hcQ2
        go_roundw
        case rel => exact ⟨i + 1, by omega, by go_num, hide ⟨_, HW3.out⟩, HB13⟩
        case measure => simp [intOf]; omega
      · have hin : i = M := by omega
        obtain ⟨vs, hwr⟩ := HR.out
        have h2 := rwK_end HPA.out
        rw [HAL.out] at h2
        rw [hin, h2] at hwr
        have HWR := hide hwr
        clear hwr h2 hin HR
        go_wp2_with fail
        go_ret2
        exact ⟨_, _, _, rfl, SLL.of_rows HWR.out.own HWR.out.rows, HW1.out.trans (HB.out.mono hs1)⟩

set_option maxRecDepth 100000 in
set_option maxHeartbeats 4000000 in
theorem isKnot_any (m : Int) (A : Option Addr) (n c : Nat) (xs : List Int) (w : World) (ha : SL w A n c xs) (hm : (Lit.int .i64 m).wf = true) :
    Calls Try.prog 10 #[.int .i64 m, .slice A n c] w fun e w' => e = .returned (.tuple #[.bool (lkK m xs), .int .i64 (bfault m xs)]) ∧ Below w.heap.size w w' := by
  by_cases h0 : bfault m xs = 0
  case neg =>
    have HC := hide (number_no m A n c xs w ha hm h0)
    have HE : Hid (lkK m xs = false) := hide (by unfold lkK; rw [decide_eq_false h0]; rfl)
    rw [HE.out]
    obtain ⟨f, hf⟩ : ∃ f, bfault m xs = f := ⟨_, rfl⟩
    rw [hf] at HC ⊢
    clear ha hm hf h0 HE
    go_enter Try.func10, Try.ntmps10
    go_wp2_with fail
    refine HC.out.mono ?_
    rintro e w1 ⟨P, pn, pc, rfl, ho, hb⟩
    have HB := hide hb
    clear hb ho HC
    go_wp2_with fail
    go_ret2
    exact ⟨rfl, HB.out⟩
  case pos =>
    obtain ⟨g1, g6, gl, gx⟩ := bfault_zero h0
    obtain ⟨M, rfl⟩ : ∃ M : Nat, m = M := ⟨m.toNat, by omega⟩
    have HC := hide (number_yes M A n c xs w ha hm h0)
    rw [lkK_ok h0, h0]
    obtain ⟨K, hK⟩ : ∃ K, (prtL (endsL M xs)).length = K := ⟨_, rfl⟩
    rw [hK] at HC ⊢
    have hKe : ((K : Int) == 1) = decide (K = 1) := by rw [Bool.eq_iff_iff, beq_iff_eq, decide_eq_true_iff]; omega
    clear ha hm h0 g1 g6 gl gx hK
    go_enter Try.func10, Try.ntmps10
    go_wp2_with fail
    refine HC.out.mono ?_
    rintro e w1 ⟨P, pn, pc, rfl, ho, hb⟩
    have HB := hide hb
    clear hb ho HC
    go_wp2_with fail
    go_ret2
    exact ⟨rfl, HB.out⟩
end Go.Proofs.Ytndgffiihbdppaa
/- What a letter adds to the linking numbers (mathematics). -/
namespace Go.Proofs.Ytndgffiihbdppaa
set_option linter.unusedVariables false
set_option linter.unusedSimpArgs false

/-- What a letter adds. -/
def lkC1 (n : Nat) (a : List Nat) (i k : Nat) (u : List Int) (x : Int) : Int := (if lkAt a (lkS n u (x.natAbs - 1)) = i ∧ lkAt a (lkS n u x.natAbs) = k then x.sign else 0) + (if lkAt a (lkS n u x.natAbs) = i ∧ lkAt a (lkS n u (x.natAbs - 1)) = k then x.sign else 0)
theorem lkSum_snoc {n : Nat} {a : List Nat} (i k : Nat) (x : Int) : ∀ (w u : List Int), lkSum n a i k u (w ++ [x]) = lkSum n a i k u w + lkC1 n a i k (u ++ w) x
  | [], u => by
    rw [List.append_nil]
    show lkC1 n a i k u x + 0 = 0 + lkC1 n a i k u x
    omega
  | y :: w, u => by
    have ih := lkSum_snoc (n := n) (a := a) i k x w (u ++ [y])
    show lkC1 n a i k u y + lkSum n a i k (u ++ [y]) (w ++ [x]) = lkC1 n a i k u y + lkSum n a i k (u ++ [y]) w + lkC1 n a i k (u ++ y :: w) x
    rw [ih, show u ++ [y] ++ w = u ++ y :: w by simp]
    omega
end Go.Proofs.Ytndgffiihbdppaa
