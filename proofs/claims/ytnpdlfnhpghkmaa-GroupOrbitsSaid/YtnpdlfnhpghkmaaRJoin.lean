/- timbref1.Joined: Points, At, Join. -/
import Derived.Test.YtnpdlfnhpghkmaaBase
import Derived.Test.YtnpdlfnhpghkmaaSmallG
namespace Go.Proofs.Ytnpdlfnhpghkmaa
open Go.RowKit Go.Maps
set_option linter.unusedVariables false
set_option linter.unusedSimpArgs false

theorem points_any (n : Nat) (w : World) (hn : n ≤ 1000) : Calls Try.prog 19 #[.int .i64 n] w (GivesOwn w (zs (List.range n))) := by
  have H := hide (row_any n w (by omega))
  go_enter Try.func19, Try.ntmps19
  go_wp2_with fail
  refine H.out.mono ?_
  rintro e w1 ⟨A, m, c, rfl, ho, hb⟩
  go_wp2
  go_ret
  exact ⟨A, m, c, rfl, ho, hb⟩

set_option maxHeartbeats 1000000 in
theorem at_any (A : Option Addr) (n m c : Nat) (gl : List (List Nat)) (j : List Nat) (x k r : Nat) (w : World) (hj : IL w A m (zs j)) (hu : UF n gl j) (hx : x < n) (hr : Rt j k x r) :
    Calls Try.prog 23 #[.slice A m c, .int .i64 x] w fun e w' => e = .returned (.int .i64 (r : Nat)) ∧ w = w' := by
  have hm : m = n := by have := hj.len; rw [zs_length, hu.len] at this; exact this.symm
  subst hm
  have hms := hj.small
  have HJ := hide hj
  have HU := hide hu
  have HR := hide hr
  clear hj hu hr
  go_enter Try.func23, Try.ntmps23
  go_wp2_with fail
  go_loopg [1] k (fun g xv wr => ∃ y : Nat, xv = .int .i64 y ∧ y < m ∧ Hid (Rt j g y r) ∧ wr = w)
  case atStart => exact ⟨x, rfl, hx, HR.out, rfl⟩
  case round =>
    obtain ⟨y, rfl, hy, HY, rfl⟩ := hrel
    obtain ⟨ad, rfl, hcl⟩ := HJ.out.at_ hy
    rw [zs_getD] at hcl
    have hlt := HU.out.lt y hy
    by_cases hroot : j.getD y 0 = y
    · have hry : r = y := HY.out.unique (.root hroot)
      subst hry
      rw [hroot] at hcl
      have hb : (((r : Nat) : Int) != ((r : Nat) : Int)) = false := by simp
      clear hroot hlt
      go_wp2
      go_ret
      exact ⟨rfl, rfl⟩
    · have hg : ∃ g', gk = g' + 1 ∧ Rt j g' (j.getD y 0) r := by
        have := HY.out
        generalize gk = g0 at *
        cases this with
        | root h => exact absurd h hroot
        | step _ h => exact ⟨_, rfl, h⟩
      obtain ⟨g', hg', hr'⟩ := hg
      have HR' := hide hr'
      have HM : Hid (g' < gk) := hide (by omega)
      generalize j.getD y 0 = z at *
      have hb : (((z : Nat) : Int) != ((y : Nat) : Int)) = true := by simpa using fun h => hroot (by exact_mod_cast h)
      clear hg' hr'
      go_wp2
      go_roundg g'
      case measure => exact HM.out
      case rel => exact ⟨z, rfl, hlt, HR'.out, rfl⟩

set_option maxHeartbeats 1000000 in
theorem join_any (g n m c : Nat) (base : Nat) (gl : List (List Nat)) (j : List Nat) (x y k k' rx ry : Nat) (w : World) (hj : OwnI w base (some ⟨g, 0, none⟩) m c (zs j)) (hu : UF n gl j) (hx : x < n) (hy : y < n) (hrx : Rt j k x rx) (hry : Rt j k' y ry) :
    Calls Try.prog 20 #[.slice (some ⟨g, 0, none⟩) m c, .int .i64 x, .int .i64 y] w fun e w' => e = .returned (.tuple #[]) ∧ w' = w.setCell ⟨g, rx, none⟩ (.int .i64 ry) := by
  have hm : m = n := by have := hj.len; rw [zs_length, hu.len] at this; exact this.symm
  subst hm
  have hlt := hu.root_lt hx hrx
  have hms := hj.small
  have HA1 := hide (at_any (some ⟨g, 0, none⟩) m m c gl j x k rx w hj.il hu hx hrx)
  have HA2 := hide (at_any (some ⟨g, 0, none⟩) m m c gl j y k' ry w hj.il hu hy hry)
  have hcl := hj.cell hlt
  have hfr := hj.frozen rx
  clear hj hu hrx hry
  go_enter Try.func20, Try.ntmps20
  go_wp2_with fail
  refine HA1.out.mono ?_
  rintro e w1 ⟨rfl, rfl⟩
  go_wp2_with fail
  refine HA2.out.mono ?_
  rintro e w1 ⟨rfl, rfl⟩
  go_wp2
  go_end0
  exact ⟨rfl, rfl⟩
end Go.Proofs.Ytnpdlfnhpghkmaa
