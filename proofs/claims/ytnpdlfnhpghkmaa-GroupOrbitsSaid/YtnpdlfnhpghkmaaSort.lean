/- slices.Sort of at most nine integers. -/
import Derived.Test.YtnpdlfnhpghkmaaSmall2
import Derived.Test.YtnpdlfnhpghkmaaBase
import Derived.BigRegion
namespace Go.Proofs.Ytnpdlfnhpghkmaa
set_option linter.unusedVariables false
set_option linter.unusedSimpArgs false
open Go.RowKit

/-- Whether x < y, kept from the walk. -/
def ltB (x y : Int) : Bool := decide (x < y)
theorem less_any (x y : Int) (w : World) : Calls Try.prog 73 #[.int .i64 x, .int .i64 y] w fun e w' => e = .returned (.bool (ltB x y)) ∧ w' = w := by
  have hx : (x != x) = false := by simp
  have hy : (y != y) = false := by simp
  by_cases h : x < y
  · have HE : Hid (ltB x y = true) := decide_eq_true h
    go_enter Try.func73, Try.ntmps73
    go_wp2
    go_ret
    rw [HE.out]
    exact ⟨rfl, rfl⟩
  · have HE : Hid (ltB x y = false) := decide_eq_false h
    go_enter Try.func73, Try.ntmps73
    go_wp2
    go_ret
    rw [HE.out]
    exact ⟨rfl, rfl⟩

theorem less_yes {x y : Int} (h : x < y) (w : World) : Calls Try.prog 73 #[.int .i64 x, .int .i64 y] w fun e w' => e = .returned (.bool true) ∧ w' = w := by
  have := less_any x y w
  rw [show ltB x y = true from decide_eq_true h] at this
  exact this
theorem less_no {x y : Int} (h : ¬ x < y) (w : World) : Calls Try.prog 73 #[.int .i64 x, .int .i64 y] w fun e w' => e = .returned (.bool false) ∧ w' = w := by
  have := less_any x y w
  rw [show ltB x y = false from decide_eq_false h] at this
  exact this

theorem grownBy_set {a w : World} {g : Nat} (h : a.grownBy w (some g)) (i : Nat) (u : Value) : a.grownBy (w.setCell ⟨g, i, none⟩ u) (some g) :=
  ⟨h.os, h.tape, h.output, by simpa [World.setCell] using h.size, fun k hk hne => (Below.heap_setCell w ⟨g, i, none⟩ u k (fun e => hne (by rw [e]))).trans (h.block k hk hne)⟩

/-- What the loops of the sort know. -/
structure SoSt (w wr : World) (base g n c : Nat) (xs ys : List Int) (i : Nat) : Prop where
  own : OwnI wr base (some ⟨g, 0, none⟩) n c ys
  grown : w.grownBy wr (some g)
  perm : ys.Perm xs
  sort : SortTo ys i
structure SiSt (w wr : World) (base g n c : Nat) (xs ys : List Int) (i j : Nat) : Prop where
  own : OwnI wr base (some ⟨g, 0, none⟩) n c ys
  grown : w.grownBy wr (some g)
  ins : InsSt xs ys i j
theorem SiSt.drewN {w wr : World} {base g n c i j : Nat} {xs ys : List Int} (h : SiSt w wr base g n c xs ys i j) (k : Nat) : SiSt w (wr.drewN k) base g n c xs ys i j :=
  ⟨h.own.drewN k, ⟨h.grown.os, h.grown.tape, h.grown.output, h.grown.size, h.grown.block⟩, h.ins⟩
theorem SiSt.swap {w wr : World} {base g n c i j : Nat} {xs ys : List Int} {x y : Int} (h : SiSt w wr base g n c xs ys i (j + 1)) (hi : i < n) (hj : j + 1 ≤ i) (hx : ys.getD (j + 1) 0 = x) (hy : ys.getD j 0 = y) (hlt : x < y) :
    SiSt w ((wr.setCell ⟨g, j + 1, none⟩ (.int .i64 y)).setCell ⟨g, j, none⟩ (.int .i64 x)).drew base g n c xs (swp ys j) i j := by
  have hl := h.own.len
  have h1 := (h.own.set_ (j + 1) y).set_ j x
  have e : (ys.set (j + 1) y).set j x = swp ys j := by unfold swp; rw [hx, hy]
  rw [e] at h1
  have hg := grownBy_set (grownBy_set h.grown (j + 1) (.int .i64 y)) j (.int .i64 x)
  exact ⟨h1.drew, ⟨hg.os, hg.tape, hg.output, hg.size, hg.block⟩, h.ins.swap (by omega) hj (by rw [hx, hy]; exact hlt)⟩
theorem SiSt.stop {w wr : World} {base g n c i j : Nat} {xs ys : List Int} (h : SiSt w wr base g n c xs ys i j) (hj : j ≤ i) (hs : j = 0 ∨ ys.getD (j - 1) 0 ≤ ys.getD j 0) : SoSt w wr base g n c xs ys (i + 1) :=
  ⟨h.own, h.grown, h.ins.perm, h.ins.stop hj hs⟩

set_option maxHeartbeats 4000000 in
theorem insertion_any (g n c base : Nat) (xs : List Int) (w : World) (hx : OwnI w base (some ⟨g, 0, none⟩) n c xs) (h9 : n ≤ 9) :
    Calls Try.prog 67 #[.slice (some ⟨g, 0, none⟩) n c, .int .i64 0, .int .i64 n] w fun e w' => e = .returned (.tuple #[]) ∧ ∃ ys : List Int, SoSt w w' base g n c xs ys n := by
  go_enter Try.func67, Try.ntmps67
  go_wp2
  go_loopw [6] (fun iv wr => ∃ (i : Nat) (ys : List Int), iv = .int .i64 i ∧ 1 ≤ i ∧ (i ≤ n ∨ i = 1) ∧ SoSt w wr base g n c xs ys i) (fun iv _ => n + 1 - (intOf iv).toNat)
  case atStart => exact ⟨1, xs, rfl, Nat.le_refl _, .inr rfl, hx, World.grownBy.refl w _, List.Perm.refl _, fun p q h1 h2 => by omega⟩
  case round =>
    obtain ⟨i, ys, rfl, hi1, hi, hst⟩ := hrel
    rename World => wo
    by_cases hlt : i < n
    · have hsi : SiSt w wo base g n c xs ys i i := ⟨hst.own, hst.grown, InsSt.start hst.perm hst.sort⟩
      clear hst
      go_wp2
      go_loopw [7] (fun jv wx => ∃ (j : Nat) (ys : List Int), jv = .int .i64 j ∧ j ≤ i ∧ SiSt w wx base g n c xs ys i j) (fun jv _ => (intOf jv).toNat)
      case atStart => exact ⟨i, ys, rfl, Nat.le_refl _, hsi⟩
      case round =>
        obtain ⟨j, ys2, rfl, hj, hst⟩ := hrel
        clear hsi
        by_cases hj0 : 0 < j
        · obtain ⟨j, rfl⟩ : ∃ j', j = j' + 1 := ⟨j - 1, by omega⟩
          have hc1 := hst.own.cell (show j + 1 < n by omega)
          have hc2 := hst.own.cell (show j < n by omega)
          have hf1 := hst.own.frozen (j + 1)
          have hf2 := hst.own.frozen j
          have hp2 : (0 : Int) < (j : Int) + 1 := by omega
          have hjn : (j : Int) < (n : Int) := by omega
          have HST := hide hst
          clear hst
          generalize hxe : ys2.getD (j + 1) 0 = x at *
          generalize hye : ys2.getD j 0 = y at *
          have HXE := hide hxe
          have HYE := hide hye
          clear hxe hye
          by_cases hxy : x < y
          · have HN := hide (fun nq => ((HST.out.drewN nq).swap hlt hj HXE.out HYE.out hxy))
            go_wp2_with fail
            go_quiet ((go_at_call 73; exact Calls.quiet_of_same (less_yes hxy _)))
            go_wp2
            have HNQ := hide (HN.out nq)
            have kc1 : (wr.drewN nq).cell? ⟨g, j + 1, none⟩ = some (.int .i64 x) := hc1
            have kc2 : (wr.drewN nq).cell? ⟨g, j, none⟩ = some (.int .i64 y) := hc2
            have kf1 : (wr.drewN nq).frozen? ⟨g, j + 1, none⟩ = false := hf1
            have kf2 : (wr.drewN nq).frozen? ⟨g, j, none⟩ = false := hf2
            clear hc1 hc2 hf1 hf2 HN HST
            generalize wr.drewN nq = w2 at *
            have hwj : IntKind.i64.wrap (j : Int) = (j : Int) := by rw [IntKind.wrap_i64]; omega
            have hwj1 : IntKind.i64.wrap ((j : Int) + 1) = (j : Int) + 1 := by rw [IntKind.wrap_i64]; omega
            have hj0' : (0 : Int) ≤ (j : Int) := by omega
            go_region
            have hst3 := HNQ.out
            clear kc1 kc2 kf1 kf2 hwj hwj1
            go_wp2
            go_roundw
            case rel => exact ⟨j, swp ys2 j, rfl, by omega, hst3⟩
            case measure => simp [intOf]; try omega
          · have HN := hide (fun nq => ((HST.out.drewN nq).stop hj (.inr (by rw [Nat.add_sub_cancel, HXE.out, HYE.out]; omega))))
            have HC := hide (less_no hxy)
            clear hxy
            go_wp2_with fail
            go_quiet ((go_at_call 73; exact Calls.quiet_of_same (HC.out _)))
            go_wp2
            have hst3 := HN.out nq
            go_roundw
            case rel => exact ⟨i + 1, ys2, by go_num, by omega, .inl (by omega), hst3⟩
            case measure => simp [intOf]; omega
        · have hj00 : j = 0 := by omega
          subst hj00
          have HN := hide (fun nq => ((hst.drewN nq).stop hj (.inl rfl)))
          clear hst
          go_wp2_with fail
          go_quiet (fail)
          go_wp2
          have hst3 := HN.out nq
          go_roundw
          case rel => exact ⟨i + 1, ys2, by go_num, by omega, .inl (by omega), hst3⟩
          case measure => simp [intOf]; omega
    · have hdone : SoSt w wo base g n c xs ys n := ⟨hst.own, hst.grown, hst.perm, fun p q h1 h2 => hst.sort p q h1 (by omega)⟩
      go_wp2
      go_end0
      exact ⟨rfl, ys, hdone⟩
end Go.Proofs.Ytnpdlfnhpghkmaa
