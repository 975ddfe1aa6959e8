/- Package laurent: Check and small functions. -/
import Derived.Test.YtgmjighgncpefaaPoC
import Derived.Test.YtgmjighgncpefaaTpf
import Derived.Test.YtgmjighgncpefaaPoK
import Derived.Test.YtgmjighgncpefaaDelFunc
namespace Go.Proofs.Ytgmjighgncpefaa
set_option linter.unusedVariables false
set_option linter.unusedSimpArgs false
open Go.RowKit

theorem eLarge : ∀ args w, (callFunc 40 args).run Try.prog w = .ok (.enter 40 args) w := enters (fn := Try.f40) (by kernel_rfl) (by kernel_rfl) (by kernel_rfl)
set_option maxRecDepth 100000 in
set_option maxHeartbeats 2000000 in
theorem large_any (x : Int) (w : World) :
    Calls Try.prog 40 #[.int .i64 x] w fun e w' => e = .returned (.bool (!LP.okC x)) ∧ w = w' := by
  by_cases h1 : x < -100000000
  · have HR : Hid ((!LP.okC x) = true) := hide (by unfold LP.okC; simp; omega)
    go_enter Try.func40, Try.ntmps40
    go_wp2_with fail
    go_ret
    rw [HR.out]
    exact ⟨rfl, rfl⟩
  by_cases h2 : 100000000 < x
  · have HR : Hid ((!LP.okC x) = true) := hide (by unfold LP.okC; simp; omega)
    go_enter Try.func40, Try.ntmps40
    go_wp2_with fail
    go_ret
    rw [HR.out]
    exact ⟨rfl, rfl⟩
  · have HR : Hid ((!LP.okC x) = false) := hide (by unfold LP.okC; simp; omega)
    go_enter Try.func40, Try.ntmps40
    go_wp2_with fail
    go_ret
    rw [HR.out]
    exact ⟨rfl, rfl⟩

set_option maxRecDepth 100000 in
set_option maxHeartbeats 2000000 in
/-- slices.ContainsFunc of integers, with a function that only answers. -/
theorem containsI_any {fid : FuncId} {caps : List Value} (f : Int → Bool) (hfid : ∀ args w, (callFunc fid args).run Try.prog w = .ok (.enter fid args) w) (A : Option Addr) (n c : Nat) (xs : List Int) (w : World) (ha : IL w A n xs)
    (hf : ∀ x w, Calls Try.prog fid (.int .i64 x :: caps).toArray w fun e w' => e = .returned (.bool (f x)) ∧ w = w') :
    Calls Try.prog 39 #[.slice A n c, .func (.func fid) #[] caps.toArray] w fun e w' => e = .returned (.bool (xs.any f)) ∧ w = w' := by
  have HL := hide ha.len
  have HI := hide (intIndex_any (caps := caps) f hfid A n c xs w ha hf)
  have e1 := eIntIx
  clear ha hf
  go_enter Try.func39, Try.ntmps39
  go_wp2_with fail
  refine HI.out.mono ?_
  rintro e w1 ⟨h | h, rfl⟩
  · obtain ⟨rfl, h⟩ := h
    have HB : Hid (xs.any f = false) := hide (by
      rw [List.any_eq_false]
      intro x hx
      obtain ⟨j, hj, rfl⟩ := List.mem_iff_getElem.1 hx
      have := h j (by rw [← HL.out]; exact hj)
      rw [show xs.getD j 0 = xs[j] by simp [List.getD, List.getElem?_eq_getElem hj]] at this
      simp [this])
    clear HI h
    go_wp2_with fail
    go_ret
    rw [HB.out]
    exact ⟨rfl, rfl⟩
  · obtain ⟨k, rfl, hk, hfk, _⟩ := h
    have HB : Hid (xs.any f = true) := hide (by
      rw [List.any_eq_true]
      have hj : k < xs.length := by rw [HL.out]; exact hk
      rw [show xs.getD k 0 = xs[k] by simp [List.getD, List.getElem?_eq_getElem hj]] at hfk
      exact ⟨xs[k], List.getElem_mem _, hfk⟩)
    clear HI hfk
    go_wp2_with fail
    go_ret
    rw [HB.out]
    exact ⟨rfl, rfl⟩
theorem eContI : ∀ args w, (callFunc 39 args).run Try.prog w = .ok (.enter 39 args) w := enters (fn := Try.f39) (by kernel_rfl) (by kernel_rfl) (by kernel_rfl)
theorem LP.any_large (xs : List Int) : (xs.any fun x => !okC x) = !xs.all okC := by rw [List.not_all_eq_any_not]

set_option maxRecDepth 100000 in
set_option maxHeartbeats 4000000 in
theorem lcheck_any (la : Int) (A : Option Addr) (n c : Nat) (xs : List Int) (w : World) (ha : SL w A n c xs) :
    Calls Try.prog 22 #[PV la A n c] w fun e w' => e = .returned (.int .i64 (LP.pfl la xs)) ∧ Below w.heap.size w w' := by
  have hl := ha.il.len
  have hns := ha.il.small
  have hb0 : Below w.heap.size w (w.alloc (.cells #[.int .i64 la, .slice A n c] 25)) := (Below.refl _ _).alloc (Nat.le_refl _) _
  have HW := hide hb0
  have HA := hide (ha.below hb0)
  have hb1 := Blk.new w 25 #[.int .i64 la, .slice A n c]
  obtain ⟨w0, hw0⟩ : ∃ x, w.alloc (.cells #[.int .i64 la, .slice A n c] 25) = x := ⟨_, rfl⟩
  have HW0 := hide hw0
  rw [hw0] at HW HA hb1
  have B0 := hide hb1
  have hq0 := hb1.cell 0
  have hq1 := hb1.cell 1
  simp at hq0 hq1
  by_cases hbig : 200 < n ∨ 1000 < la ∨ la < -1000
  · have HP := hide (LP.pfl_big (lo := la) (xs := xs) (by omega))
    clear ha hl hb0 hb1
    by_cases h1 : 200 < n
    · go_enter Try.func22, Try.ntmps22
      go_upto_region 2 with fail
      clear hw0
      go_wp2_with fail
      go_ret
      rw [HP.out]
      exact ⟨rfl, HW.out⟩
    by_cases h2 : la < -1000
    · go_enter Try.func22, Try.ntmps22
      go_upto_region 2 with fail
      clear hw0
      go_wp2_with fail
      go_ret
      rw [HP.out]
      exact ⟨rfl, HW.out⟩
    · have h3 : 1000 < la := by omega
      go_enter Try.func22, Try.ntmps22
      go_upto_region 2 with fail
      clear hw0
      go_wp2_with fail
      go_ret
      rw [HP.out]
      exact ⟨rfl, HW.out⟩
  have hN : ¬ (200 < xs.length ∨ 1000 < la ∨ la < -1000) := by omega
  have h1 : n ≤ 200 := by omega
  have h2 : la ≤ 1000 := by omega
  have h3 : -1000 ≤ la := by omega
  have HCN := hide (containsI_any (fid := 40) (caps := []) (fun x => !LP.okC x) eLarge A n c xs w0 HA.out.il (fun x w => large_any x w))
  rw [LP.any_large] at HCN
  have ec := eContI
  by_cases h4 : n = 0
  · by_cases h5 : la = 0
    · have HP := hide (LP.pfl_loop hN (by omega))
      have hx : xs = [] := List.eq_nil_of_length_eq_zero (by omega)
      have HP2 : Hid (LP.pfl la xs = 0) := hide (by rw [HP.out, hx]; rfl)
      have HAL : Hid ((!xs.all LP.okC) = false) := hide (by rw [hx]; rfl)
      rw [HAL.out] at HCN
      clear ha hl hb0 hb1 HP hx HA hN HAL
      subst h4 h5
      go_enter Try.func22, Try.ntmps22
      go_upto_region 2 with fail
      clear hw0
      go_wp2_with fail
      refine HCN.out.mono ?_
      rintro e w1 ⟨rfl, rfl⟩
      go_wp2_with fail
      go_ret
      rw [HP2.out]
      exact ⟨rfl, HW.out⟩
    · have HP := hide (LP.pfl_bad hN (by omega))
      have hb : (la != 0) = true := by simpa using h5
      clear ha hl hb0 hb1 HA hN h5
      subst h4
      go_enter Try.func22, Try.ntmps22
      go_upto_region 2 with fail
      clear hw0
      go_wp2_with fail
      go_ret
      rw [HP.out]
      exact ⟨rfl, HW.out⟩
  · have b4 : ((n : Int) == 0) = false := by simp; omega
    have b5 : decide ((0 : Int) < n) = true := by simp; omega
    have hpos : 0 < n := by omega
    obtain ⟨ad, hA, hal, hac⟩ := HA.out.il.mem hpos
    subst hA
    have c0 := hac 0 hpos
    have cl := hac (n - 1) (by omega)
    obtain ⟨x0, hx0⟩ : ∃ x, xs.getD 0 0 = x := ⟨_, rfl⟩
    obtain ⟨xl, hxl⟩ : ∃ x, xs.getD (n - 1) 0 = x := ⟨_, rfl⟩
    rw [hx0] at c0
    have c0 : w0.cell? ad = some (.int .i64 x0) := by
      have e : ad.add 0 = ad := by cases ad; simp [Addr.add]
      rw [e] at c0; exact c0
    rw [hxl] at cl
    have hw1 : IntKind.i64.wrap ((n : Int) - 1) = ((n - 1 : Nat) : Int) := by rw [IntKind.wrap_i64]; omega
    obtain ⟨k1, hk1⟩ : ∃ k, n - 1 = k := ⟨_, rfl⟩
    rw [hk1] at cl hw1 hxl
    have hkn : k1 < n := by omega
    clear hb0 hb1 hac
    by_cases h6 : x0 = 0
    · have HP := hide (LP.pfl_bad hN (.inr ⟨by omega, .inl (by rw [hx0]; exact h6)⟩))
      subst h6
      clear ha hl hN hk1 cl hw1 hxl hkn hx0 HCN
      go_enter Try.func22, Try.ntmps22
      go_upto_region 2 with fail
      clear hw0
      go_wp2_with fail
      go_ret
      rw [HP.out]
      exact ⟨rfl, HW.out⟩
    have b6 : (x0 == 0) = false := by simpa using h6
    by_cases h7 : xl = 0
    · have HP := hide (LP.pfl_bad hN (.inr ⟨by omega, .inr (by rw [hl, hk1, hxl]; exact h7)⟩))
      subst h7
      clear ha hl hN hk1 hxl hx0 h6 HCN
      go_enter Try.func22, Try.ntmps22
      go_upto_region 2 with fail
      clear hw0
      go_wp2_with fail
      go_ret
      rw [HP.out]
      exact ⟨rfl, HW.out⟩
    have b7 : (xl == 0) = false := by simpa using h7
    have HP := hide (LP.pfl_loop hN (by rw [hx0, hl, hk1, hxl]; omega))
    clear ha hl hN hk1 hxl hx0 h6 h7
    obtain ⟨q, hq⟩ : ∃ q, xs.all LP.okC = q := ⟨_, rfl⟩
    rw [hq] at HP HCN
    clear hq
    go_enter Try.func22, Try.ntmps22
    go_upto_region 2 with fail
    clear hw0
    go_upto_region 6 with fail
    go_wp2_with fail
    refine HCN.out.mono ?_
    rintro e w1 ⟨rfl, rfl⟩
    cases q
    · go_wp2_with fail
      go_ret
      rw [HP.out]
      exact ⟨rfl, HW.out⟩
    · go_wp2_with fail
      go_ret
      rw [HP.out]
      exact ⟨rfl, HW.out⟩
end Go.Proofs.Ytgmjighgncpefaa
