/- Package laurent: the closure of Mul. -/
import Derived.Test.YtbajelbfgekilaaLa6
namespace Go.Proofs.Ytbajelbfgekilaa
set_option linter.unusedVariables false
set_option linter.unusedSimpArgs false
open Go.RowKit

theorem eMulX : ∀ args w, (callFunc 49 args).run Try.prog w = .ok (.enter 49 args) w := enters (fn := Try.f49) (by kernel_rfl) (by kernel_rfl) (by kernel_rfl)

set_option maxRecDepth 100000 in
set_option maxHeartbeats 4000000 in
theorem mulX_any (la : Int) (A : Option Addr) (n c : Nat) (xs : List Int) (lb : Int) (B : Option Addr) (m d : Nat) (ys : List Int) (ba b7 cb : Nat) (w : World) (ha : SL w A n c xs) (hb : SL w B m d ys) (h1 : la.natAbs ≤ 1000) (h2 : n ≤ 200) (h3 : lb.natAbs ≤ 1000) (h4 : m ≤ 200)
    (hx : ∀ j, (xs.getD j 0).natAbs ≤ 100000000) (hy : ∀ k, (LP.co (LP.of lb ys) k).natAbs ≤ 100000000)
    (ka : Blk w ba 24 #[.int .i64 la, .slice A n c]) (k7 : Blk w b7 54 #[.func (.func 54) #[] #[.pointer (some ⟨cb, 0, none⟩)]]) (kb : Blk w cb 24 #[.int .i64 lb, .slice B m d]) (e : Int) (he : e.natAbs ≤ 10000000) :
    Calls Try.prog 49 #[.int .i64 e, .pointer (some ⟨ba, 0, none⟩), .pointer (some ⟨b7, 0, none⟩)] w fun r w' => r = .returned (.int .i64 (LP.co (LP.of la xs * LP.of lb ys) e)) ∧ Below w.heap.size w w' := by
  have hl := ha.il.len
  have HV : Hid (LP.co (LP.of la xs * LP.of lb ys) e = CR.sumN n fun i => xs.getD i 0 * LP.co (LP.of lb ys) (e - la - i)) := hide (by rw [LP.co_of_mul, hl])
  have HLE : Hid (∀ k, k ≤ n → (CR.sumN k fun i => xs.getD i 0 * LP.co (LP.of lb ys) (e - la - i)).natAbs ≤ 200 * 10000000000000000) := hide (fun k hk => Nat.le_trans (LP.natAbs_sumN (D := 10000000000000000) fun i _ => by
    rw [Int.natAbs_mul]
    exact Nat.le_trans (Nat.mul_le_mul (hx i) (hy _)) (by decide)) (Nat.mul_le_mul_right _ (by omega)))
  have HA := hide ha
  have HB := hide hb
  have KA := hide ka
  have K7 := hide k7
  have KB := hide kb
  have HX := hide hx
  have HY := hide hy
  have hq0 := ka.cell 0
  have hq1 := ka.cell 1
  simp at hq0 hq1
  have HW := hide (Below.refl w.heap.size w)
  clear ha hb ka k7 kb hx hy
  go_enter Try.func49, Try.ntmps49
  go_wp2_with fail
  clear hq0 hq1
  go_loopw [5, 11] (fun sv iv wr => ∃ k : Nat, k ≤ n ∧ iv = .int .i64 k ∧ sv = .int .i64 (CR.sumN k fun i => xs.getD i 0 * LP.co (LP.of lb ys) (e - la - i)) ∧ Below w.heap.size w wr) (fun _ iv _ => n - (intOf iv).toNat)
  case atStart => exact ⟨0, Nat.zero_le _, rfl, rfl, HW.out⟩
  case round =>
    obtain ⟨k, hk, rfl, rfl, hbw⟩ := hrel
    have HBW := hide hbw
    clear hbw
    by_cases hlt : k < n
    · obtain ⟨ad, hA, hcl⟩ := (HA.out.below HBW.out).il.at_ hlt
      subst hA
      have hbka := KA.out.below HBW.out KA.out.lt
      have hq0 := hbka.cell 0
      have hq1 := hbka.cell 1
      have hq7 := (K7.out.below HBW.out K7.out.lt).cell 0
      simp at hq0 hq1 hq7
      have HCO := hide (coeff_any lb B m d ys cb (e - la - k) wr (HB.out.below HBW.out) (KB.out.below HBW.out KB.out.lt) (by omega) (by omega) (by omega))
      have hle := HLE.out k hk
      have hle2 := HLE.out (k + 1) hlt
      have HS : Hid (CR.sumN (k + 1) (fun i => xs.getD i 0 * LP.co (LP.of lb ys) (e - la - i)) = CR.sumN k (fun i => xs.getD i 0 * LP.co (LP.of lb ys) (e - la - i)) + xs.getD k 0 * LP.co (LP.of lb ys) (e - la - k)) := hide (CR.sumN_succ _ _)
      rw [HS.out] at hle2
      have hx := HX.out k
      have hy := HY.out (e - la - k)
      have ec := eCoeff
      have hwe : IntKind.i64.wrap (e - la) = e - la := by rw [IntKind.wrap_i64]; omega
      have hwe2 : IntKind.i64.wrap (e - la - (k : Int)) = e - la - k := by rw [IntKind.wrap_i64]; omega
      clear hbka
      generalize CR.sumN k (fun i => xs.getD i 0 * LP.co (LP.of lb ys) (e - la - i)) = s at *
      generalize LP.co (LP.of lb ys) (e - la - (k : Int)) = y at *
      generalize xs.getD k 0 = x at *
      have hxy : (x * y).natAbs ≤ 10000000000000000 := by
        rw [Int.natAbs_mul]
        exact Nat.le_trans (Nat.mul_le_mul hx hy) (by decide)
      obtain ⟨p, hp⟩ : ∃ p, x * y = p := ⟨_, rfl⟩
      rw [hp] at hxy hle2 HS
      have hwp : IntKind.i64.wrap (x * y) = p := by rw [hp, IntKind.wrap_i64]; omega
      have hws : IntKind.i64.wrap (s + p) = s + p := by rw [IntKind.wrap_i64]; omega
      clear hx hy hp hle hle2 hxy
      go_wp2_with fail
      refine HCO.out.mono ?_
      rintro r w1 ⟨rfl, hb⟩
      have HB1 := hide (HBW.out.trans (hb.mono HBW.out.size))
      clear hb HBW HCO hq0 hq1 hq7 hcl
      go_wp2_with fail
      go_roundw
      case rel => exact ⟨k + 1, by omega, by go_num, by rw [HS.out], HB1.out⟩
      case measure => simp [intOf]; omega
    · have hkn : k = n := by omega
      have HE : Hid ((CR.sumN k fun i => xs.getD i 0 * LP.co (LP.of lb ys) (e - la - i)) = LP.co (LP.of la xs * LP.of lb ys) e) := hide (by rw [hkn, HV.out])
      rw [HE.out]
      obtain ⟨s, hs⟩ : ∃ s, LP.co (LP.of la xs * LP.of lb ys) e = s := ⟨_, rfl⟩
      have HS := hide hs
      rw [hs]
      clear hs HE HV HLE
      go_wp2_with fail
      go_ret
      rw [HS.out]
      exact ⟨rfl, HBW.out⟩
end Go.Proofs.Ytbajelbfgekilaa
