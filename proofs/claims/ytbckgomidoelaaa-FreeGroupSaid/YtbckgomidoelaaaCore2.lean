/- timbref1.Core: the cyclically reduced part. -/
import Derived.Test.YtbckgomidoelaaaShort2
import Derived.Test.YtbckgomidoelaaaBase
namespace Go.Proofs.Ytbckgomidoelaaa
set_option linter.unusedVariables false
set_option linter.unusedSimpArgs false
open Go.RowKit

theorem coreN_fuel : ∀ (k n : Nat) (w : List Int), w.length ≤ k → w.length ≤ n → coreN n w = core w
  | 0, n, w, hk, h => by
    have : w = [] := List.eq_nil_of_length_eq_zero (by omega)
    subst this
    cases n with
    | zero => rfl
    | succ n => simp [core, coreN]
  | k + 1, n, w, hk, h => by
    by_cases hc : 1 < w.length ∧ w.getD 0 0 = -w.getD (w.length - 1) 0
    · have hl := inner_length hc.1
      obtain ⟨n', rfl⟩ : ∃ n', n = n' + 1 := ⟨n - 1, by omega⟩
      obtain ⟨m, hm⟩ : ∃ m, w.length = m + 1 := ⟨w.length - 1, by omega⟩
      unfold core
      rw [hm]
      simp only [coreN]
      rw [if_pos hc, if_pos hc, coreN_fuel k n' _ (by omega) (by omega), coreN_fuel k m _ (by omega) (by omega)]
    · have h1 : ∀ n, coreN n w = (w, []) := fun n => by
        cases n with
        | zero => rfl
        | succ n => simp only [coreN]; rw [if_neg hc]
      unfold core
      rw [h1, h1]
theorem core_step {w : List Int} (h1 : 1 < w.length) (h2 : w.getD 0 0 = -w.getD (w.length - 1) 0) : core w = ((core w.tail.dropLast).1, w.getD 0 0 :: (core w.tail.dropLast).2) := by
  have hl := inner_length h1
  obtain ⟨m, hm⟩ : ∃ m, w.length = m + 1 := ⟨w.length - 1, by omega⟩
  show coreN w.length w = _
  rw [hm]
  simp only [coreN]
  rw [if_pos ⟨h1, h2⟩, coreN_fuel _ m _ (Nat.le_refl _) (by omega)]
theorem core_stop {w : List Int} (h : ¬ (1 < w.length ∧ w.getD 0 0 = -w.getD (w.length - 1) 0)) : core w = (w, []) := by
  show coreN w.length w = _
  cases w.length with
  | zero => rfl
  | succ n => simp only [coreN]; rw [if_neg h]
theorem OwnI.capMax {w : World} {base n c : Nat} {A : Option Addr} {xs : List Int} (h : OwnI w base A n c xs) : c ≤ 9223372036854775807 := by
  rcases h.own.2 with ⟨hv, _⟩ | ⟨g', cap, cur, hv, _, _, _, hcm, _⟩
  · simp only [Value.slice.injEq] at hv
    omega
  · simp only [Value.slice.injEq, true_and] at hv
    obtain ⟨_, _, rfl⟩ := hv
    unfold maxLen at hcm
    exact hcm
theorem IL.mid {w : World} {ad : Addr} {n k m : Nat} {xs : List Int} (h : IL w (some ad) n xs) (hk : k + m ≤ n) : IL w (some (ad.add k)) m ((xs.drop k).take m) := by
  have hl := h.len
  refine ⟨by simp; omega, by have := h.small; omega, fun h0 => ?_⟩
  obtain ⟨ad', e, hlt, hc⟩ := h.mem (by omega)
  injection e with e
  subst e
  refine ⟨ad.add k, rfl, by rw [block_of_add]; exact hlt, fun j hj => ?_⟩
  rw [add_of_add, hc (k + j) (by omega)]
  simp [List.getD, List.getElem?_take, List.getElem?_drop, hj]
theorem inner_eq {w : List Int} (h : 1 < w.length) : w.tail.dropLast = (w.drop 1).take (w.length - 2) := by
  rw [List.dropLast_eq_take, List.drop_one, List.length_tail]
  congr 1

set_option maxRecDepth 100000 in
set_option maxHeartbeats 2000000 in
theorem core_any : ∀ (N : Nat) (A : Option Addr) (n c : Nat) (xs : List Int) (w : World), n ≤ N → IL w A n xs → (A = none → n = 0 ∧ c = 0) → n ≤ c → c ≤ 9223372036854775807 → (∀ x ∈ xs, -1000 ≤ x ∧ x ≤ 1000) →
    Calls Try.prog 20 #[.slice A n c] w fun e w' => ∃ (C : Option Addr) (cn cc : Nat) (U : Option Addr) (un uc : Nat), e = .returned (.tuple #[.slice C cn cc, .slice U un uc]) ∧ IL w' C cn (core xs).1 ∧ (C = none → cn = 0 ∧ cc = 0) ∧ cn ≤ cc ∧ IL w' U un (core xs).2 ∧ (U = none → un = 0 ∧ uc = 0) ∧ un ≤ uc ∧ cc ≤ 9223372036854775807 ∧ Below w.heap.size w w' := by
  intro N
  induction N with
  | zero =>
    intro A n c xs w hN ha hA hnc hcb hb
    obtain rfl : n = 0 := by omega
    have hx : xs = [] := List.eq_nil_of_length_eq_zero ha.len
    have HE : Hid (core xs = (xs, [])) := hide (by rw [hx]; rfl)
    have HA := hide ha
    have HAA := hide hA
    have hg : decide ((1 : Int) < ((0 : Nat) : Int)) = false := by simp
    clear ha hb hA hx
    go_enter Try.func20, Try.ntmps20
    go_wp2_with fail
    go_quiet (fail)
    go_wp2
    go_ret2
    rw [HE.out]
    exact ⟨A, 0, c, none, 0, 0, rfl, HA.out.drewN _, fun h => ⟨rfl, (HAA.out h).2⟩, by omega, IL.nil_ _, fun _ => ⟨rfl, rfl⟩, by omega, hcb, below_drewN (Below.refl _ _) _⟩
  | succ N ih =>
    intro A n c xs w hN ha hA hnc hcb hb
    have hl := ha.len
    have hns := ha.small
    have HL := hide hl
    have HA := hide ha
    have HAA := hide hA
    have HB := hide hb
    by_cases h1 : 1 < n
    · obtain ⟨ad, rfl, hc0⟩ := ha.at_ (k := 0) (by omega)
      obtain ⟨ad', e, hcl⟩ := ha.at_ (k := n - 1) (by omega)
      injection e with e
      subst e
      have e0 : ad.add 0 = ad := by unfold Addr.add; simp
      rw [e0] at hc0
      have hm0 : xs.getD 0 0 ∈ xs := by
        have : 0 < xs.length := by omega
        rw [show xs.getD 0 0 = xs[0] by simp [List.getD, List.getElem?_eq_getElem this]]
        exact List.getElem_mem _
      have hm1 : xs.getD (n - 1) 0 ∈ xs := by
        have : n - 1 < xs.length := by omega
        rw [show xs.getD (n - 1) 0 = xs[n - 1] by simp [List.getD, List.getElem?_eq_getElem this]]
        exact List.getElem_mem _
      obtain ⟨hx0, hx1⟩ := hb _ hm0
      obtain ⟨hy0, hy1⟩ := hb _ hm1
      have hg : decide ((1 : Int) < (n : Int)) = true := by simp; omega
      have hwr : IntKind.i64.wrap ((n : Int) - 1) = (n : Int) - 1 := by rw [IntKind.wrap_i64]; omega
      have hp0 : (0 : Int) ≤ (n : Int) - 1 := by omega
      have hp1 : (n : Int) - 1 < (n : Int) := by omega
      have hp2 : ((n : Int) - 1).toNat = n - 1 := by omega
      by_cases hxy : xs.getD 0 0 = -xs.getD (n - 1) 0
      · have hin : IL w (some (ad.add 1)) (n - 2) xs.tail.dropLast := by
          rw [inner_eq (by omega), hl]
          exact ha.mid (by omega)
        have HIN := hide hin
        have HST : Hid (core xs = ((core xs.tail.dropLast).1, xs.getD 0 0 :: (core xs.tail.dropLast).2)) := hide (core_step (by omega) (by rw [hl]; exact hxy))
        have HB2 : Hid (∀ x ∈ xs.tail.dropLast, -1000 ≤ x ∧ x ≤ 1000) := hide (fun x hx => hb x (List.mem_of_mem_tail (List.dropLast_subset _ hx)))
        obtain ⟨x, hx⟩ : ∃ x, xs.getD 0 0 = x := ⟨_, rfl⟩
        obtain ⟨y, hy⟩ : ∃ y, xs.getD (n - 1) 0 = y := ⟨_, rfl⟩
        rw [hx] at hc0 hx0 hx1 hxy HST
        rw [hy] at hcl hy0 hy1 hxy
        have hbe : (x == -y) = true := by simpa using hxy
        have IH := hide ih
        clear ha hl hA hb hm0 hm1 hx hy hxy hin e0 ih
        go_enter Try.func20, Try.ntmps20
        go_wp2_with fail
        go_quiet (fail)
        have e1 : ad.add 1 = ⟨ad.block, ad.off + 1, none⟩ := by simp [Addr.add]
        have hin2 := HIN.out.drewN nq
        rw [e1] at hin2
        have HIN2 := hide hin2
        have hc02 : (w.drewN nq).cell? ad = some (.int .i64 x) := hc0
        have hbd : Below w.heap.size w (w.drewN nq) := below_drewN (Below.refl _ _) nq
        clear hwr hp0 hp1 hp2 hcl hc0 e1 hin2 HIN
        generalize w.drewN nq = w2 at *
        go_wp2_with fail
        rw [show n - 1 - 1 = n - 2 by omega]
        refine (IH.out _ (n - 2) (c - 1) _ w2 (by omega) HIN2.out (fun h => by cases h) (by omega) (by omega) HB2.out).mono ?_
        rintro e w3 ⟨C, cn, cc, U, un, uc, rfl, hc1, hcn, hcle, hu, hun, hule, hccb, hb3⟩
        have hb03 := hbd.trans (hb3.mono hbd.size)
        have hc03 : w3.cell? ad = some (.int .i64 x) := by
          have hlt := World.block_lt_of_cell? w2 _ hc02
          rw [hb3.cell hlt]; exact hc02
        have HC1 := hide hc1
        have HCN := hide hcn
        have HU := hide hu
        have hus := hu.small
        have huns : un ≤ 17592186044416 := hus
        obtain ⟨i0, hi0, hz0, hz1, hz2⟩ := info_parts int_info
        have HI0 := hide hi0
        have HZ0 := hide hz0
        have HZ1 := hide hz1
        have HZ2 := hide hz2
        have hun2 : un ≤ 17592186044415 := by
          have h1 := hu.len
          have h2 := congrArg List.length (core_spec xs.tail.dropLast).1
          rw [List.length_append, List.length_append, h1] at h2
          have h3 := HL.out
          simp only [List.length_dropLast, List.length_tail] at h2
          omega
        clear hc1 hcn hu hun hb3 hbd hc02 HIN2 hi0 hz0 hz1 hz2 hg hbe
        go_wp2_with (at_builtin; refine wpList_append_int _ rfl (.tmp 35) (.tmp 36) 22 rfl w3.heap.size i0 Try.underlying22 HI0.out HZ0.out HZ1.out HZ2.out (some ⟨w3.heap.size, 0, none⟩) 1 1 [x] rfl (OwnI.lit w3 [x] (Nat.le_refl _) (by simp) rfl rfl rfl) U un uc _ rfl (HU.out.alloc _) (by omega) (by simp) ?_; intro A8 c8 w8 hap)
        have hb38 : Below w3.heap.size w3 w8 := ((Below.refl _ _).alloc (Nat.le_refl _) _).grown hap.grown (by simp) (fun j hj => by simp [Value.ownBlock] at hj; omega)
        have hbe := hb03.trans (hb38.mono hb03.size)
        have HC8 := hide (HC1.out.below hb38)
        have hcap := hap.own.cap
        go_ret2
        rw [HST.out]
        exact ⟨C, cn, cc, A8, 1 + un, c8, rfl, HC8.out, HCN.out, hcle, hap.own.il, hap.own.nil, hcap, hccb, hbe⟩
      · have hbe : (xs.getD 0 0 == -xs.getD (n - 1) 0) = false := by simpa using hxy
        have HST : Hid (core xs = (xs, [])) := hide (core_stop (by rw [hl]; exact fun h => hxy h.2))
        generalize xs.getD 0 0 = x at *
        generalize xs.getD (n - 1) 0 = y at *
        clear ha hl hA hb hm0 hm1 hxy e0 ih
        go_enter Try.func20, Try.ntmps20
        go_wp2_with fail
        go_quiet (fail)
        go_wp2
        go_ret2
        rw [HST.out]
        exact ⟨some ad, n, c, none, 0, 0, rfl, HA.out.drewN _, HAA.out, hnc, IL.nil_ _, fun _ => ⟨rfl, rfl⟩, Nat.le_refl _, hcb, below_drewN (Below.refl _ _) _⟩
    · have HST : Hid (core xs = (xs, [])) := hide (core_stop (by rw [hl]; exact fun h => h1 h.1))
      have hg : decide ((1 : Int) < (n : Int)) = false := by simp; omega
      have hg2 : decide (1 < n) = false := by simp; omega
      clear ha hl hA hb ih
      go_enter Try.func20, Try.ntmps20
      go_wp2_with fail
      go_quiet (fail)
      go_wp2
      go_ret2
      rw [HST.out]
      exact ⟨A, n, c, none, 0, 0, rfl, HA.out.drewN _, HAA.out, hnc, IL.nil_ _, fun _ => ⟨rfl, rfl⟩, Nat.le_refl _, hcb, below_drewN (Below.refl _ _) _⟩
end Go.Proofs.Ytbckgomidoelaaa
