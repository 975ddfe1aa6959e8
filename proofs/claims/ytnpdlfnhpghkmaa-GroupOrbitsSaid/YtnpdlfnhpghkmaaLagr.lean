/- timbkeep1.GroupLagrange. -/
import Derived.Test.YtnpdlfnhpghkmaaPerms
namespace Go.Proofs.Ytnpdlfnhpghkmaa
open Go.RowKit Go.Maps

/-- A slice of slices written out: one row. -/
theorem ILL.one {w : World} {B : Option Addr} {m d : Nat} {xs : List Int} (h : IL w B m xs) : ILL (w.alloc (.cells #[.slice B m d] 23)) (some ⟨w.heap.size, 0, none⟩) 1 [xs] := by
  refine ⟨rfl, by omega, fun _ => ⟨⟨w.heap.size, 0, none⟩, rfl, by simp, fun j hj => ?_⟩⟩
  obtain rfl : j = 0 := by omega
  refine ⟨B, m, d, ?_, h.alloc _⟩
  rw [add_zero_block]
  simp [World.cell?_alloc_new]

theorem isP120 : isP [1, 2, 0] := by unfold isP; decide
/-- The group of a turn of three points. -/
theorem enum_turn : EnumG 9 [ext [1, 2, 0]] [idE, ext [1, 2, 0], ext [2, 0, 1]] := by
  have hl : PMs 9 [ext [1, 2, 0]] := fun g hg => by
    obtain rfl : g = ext [1, 2, 0] := by simpa using hg
    exact ext_PM (n := 3) ⟨isP120, rfl⟩ (by omega)
  refine ⟨by decide, fun p => ?_⟩
  constructor
  · intro hp
    have g1 : Gen 9 [ext [1, 2, 0]] (ext [1, 2, 0]) := Gen.of_mem hl (by simp)
    simp only [List.mem_cons, List.not_mem_nil, or_false] at hp
    rcases hp with rfl | rfl | rfl
    · exact .one
    · exact g1
    · have h2 := g1.comp hl g1
      rwa [show comp (ext [1, 2, 0]) (ext [1, 2, 0]) = ext [2, 0, 1] by decide] at h2
  · intro hg
    refine Gen.in_closed hl (S := fun p => p ∈ [idE, ext [1, 2, 0], ext [2, 0, 1]]) (by decide) (fun g hg' => ?_) (fun a b _ _ ha hb => ?_) (fun g hg' => ord_pos' (hl g hg').1) hg
    · obtain rfl : g = ext [1, 2, 0] := by simpa using hg'
      simp
    · simp only [List.mem_cons, List.not_mem_nil, or_false] at ha hb
      rcases ha with rfl | rfl | rfl <;> rcases hb with rfl | rfl | rfl <;> decide

set_option maxHeartbeats 1000000 in
theorem kgrouped_any (w : World) : Calls Try.prog 29 #[] w fun e w' => e = .returned (.bool true) ∧ Below w.heap.size w w' := by
  have i1 : IL (w.alloc (.cells #[.int .i64 1, .int .i64 2, .int .i64 0] 3)) (some ⟨w.heap.size, 0, none⟩) 3 (zs [1, 2, 0]) := IL.lit w (zs [1, 2, 0]) (by decide) rfl rfl
  have HI := hide (ILL.one (d := 3) i1)
  have hb0 : Below w.heap.size w ((w.alloc (.cells #[.int .i64 1, .int .i64 2, .int .i64 0] 3)).alloc (.cells #[.slice (some ⟨w.heap.size, 0, none⟩) 3 3] 23)) := ((Below.refl _ _).alloc (Nat.le_refl _) _).alloc (by simp) _
  have HP : Hid (PMs 3 [[1, 2, 0]]) := fun g hg => by
    obtain rfl : g = [1, 2, 0] := by simpa using hg
    exact ⟨isP120, rfl⟩
  clear i1
  go_enter Try.func29, Try.ntmps29
  go_wp2_with fail
  refine (gorder_ok _ 3 1 1 [[1, 2, 0]] _ (by have := HI.out; rw [World.size_alloc] at this; exact this) (by omega) (by decide) HP.out).mono ?_
  rintro e w1 ⟨xs, hx, -, rfl, hb1⟩
  have hl : xs.length = 3 := hx.unique enum_turn
  rw [hl]
  have hb01 := hb0.trans (hb1.mono hb0.size)
  clear hl hx hb0 hb1
  go_wp2
  go_ret
  exact ⟨rfl, hb01⟩

set_option maxRecDepth 100000 in
set_option maxHeartbeats 2000000 in
theorem groupLagrange_any (n k : Int) (A : Option Addr) (l c : Nat) (xss : List (List Int)) (w : World) (hx : ILL w A l xss) (hc : l ≤ c) :
    Calls Try.prog 6 #[.int .i64 n, .slice A l c, .int .i64 k] w fun e w' => e = .returned (.bool true) ∧ Below w.heap.size w w' := by
  obtain ⟨m, hm, hnm⟩ := below_zero (n := n) (m := 8) (by omega)
  have HM : Hid (∀ w, Calls Try.prog 27 #[.int .i64 n, .int .i64 8] w fun e w' => e = .returned (.int .i64 m) ∧ w = w') := fun w => by
    have := mbelow_any n 8 w (by omega) (by omega)
    rw [hnm] at this
    exact this
  have HX := hide hx
  clear hnm hx
  go_enter Try.func6, Try.ntmps6
  go_wp2_with fail
  refine (HM.out _).mono ?_
  rintro e w0 ⟨rfl, rfl⟩
  go_wp2_with fail
  refine (perms_any A m l c xss 4 w HX.out hc (by omega) (by omega)).mono ?_
  rintro e w1 ⟨gl, B, q, d, rfl, hill, hqd, hq4, hP, hb1⟩
  have HQ := hide hill.len
  have hgl : gl.length = q := by have := hill.len; simpa [zss] using this
  have HGL := hide hgl
  have HP := hide hP
  have HI := hide hill
  clear hill hP hgl
  go_wp2_with fail
  refine (gorder_ok B m q d gl w1 HI.out (by omega) (by rw [HGL.out]; omega) HP.out).mono ?_
  rintro e w2 ⟨xs, hxs, hx9, rfl, hb2⟩
  have HXS := hide hxs
  have HI2 := hide (HI.out.below hb2)
  have hb02 := hb1.trans (hb2.mono hb1.size)
  clear hxs hb1 hb2
  obtain ⟨j, hj, hkj⟩ := below_zero (n := k) (m := q + 1) (by omega)
  have HK : Hid (∀ w, Calls Try.prog 27 #[.int .i64 k, .int .i64 ((q : Int) + 1)] w fun e w' => e = .returned (.int .i64 j) ∧ w = w') := fun w => by
    have := mbelow_any k (q + 1) w (by omega) (by omega)
    rw [hkj] at this
    exact_mod_cast this
  clear hkj
  go_wp2_with fail
  refine (HK.out _).mono ?_
  rintro e w3 ⟨rfl, rfl⟩
  have hjd : j ≤ d := by omega
  have hjq : j ≤ q := by omega
  have HT := hide (HI2.out.pre hjq)
  have HPT : Hid (PMs m (gl.take j)) := fun g hg => HP.out g (List.mem_of_mem_take hg)
  go_wp2_with fail
  refine (gorder_ok B m j d (gl.take j) _ (by have := HT.out; rwa [show (zss gl).take j = zss (gl.take j) by simp [zss, List.map_take]] at this) (by omega) (by rw [List.length_take, HGL.out]; omega) HPT.out).mono ?_
  rintro e w4 ⟨ys, hys, hy9, rfl, hb4⟩
  have hb04 := hb02.trans (hb4.mono hb02.size)
  have hpos := hys.pos
  have hd : ys.length ∣ xs.length := lagrange (gens_PM HP.out (by omega)) (fun g hg => by
    rw [List.map_take] at hg
    exact List.mem_of_mem_take hg) HXS.out hys
  have hrem : (xs.length : Int).tmod (ys.length : Int) = 0 := by
    rw [← Int.ofNat_tmod]
    exact_mod_cast Nat.mod_eq_zero_of_dvd hd
  have HREM := hide hrem
  clear hys hd hb02 hb4 hrem
  generalize xs.length = a at *
  generalize ys.length = b at *
  go_wp2_with fail
  refine (kgrouped_any _).mono ?_
  rintro e w5 ⟨rfl, hb5⟩
  have hb05 := hb04.trans (hb5.mono hb04.size)
  have hr0 : (((a : Int) % (b : Int)) == 0) = true := by
    have := HREM.out
    rw [Int.tmod_eq_emod_of_nonneg (by omega)] at this
    simp [this]
  have hb0 : (0 : Int) < (b : Int) := by omega
  go_wp2
  go_ret
  exact ⟨rfl, hb05⟩
end Go.Proofs.Ytnpdlfnhpghkmaa
