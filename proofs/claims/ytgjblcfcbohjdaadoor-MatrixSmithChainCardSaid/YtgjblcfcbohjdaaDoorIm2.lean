/- Package intmatrix: expand. -/
import Derived.Test.YtgjblcfcbohjdaaDoorIm1
namespace Go.Proofs.YtgjblcfcbohjdaaDoor
set_option linter.unusedVariables false
set_option linter.unusedSimpArgs false
open Go.RowKit

/-- The rows of the table below R stand. -/
def TabR (w : World) (g M : Nat) (F : Mtx Int) (m R : Nat) : Prop := ∀ r, r < R → ∃ B, w.cell? ⟨g, r, none⟩ = some (.slice B M M) ∧ SL w B M M (mnrL F m r)

theorem pow_wrap : ∀ c : Nat, c < 6 → wrap64 ((2 : Int) ^ c) = ((2 ^ c : Nat) : Int) := by decide +kernel
theorem not_wrap {S c : Nat} (hS : S < 64) (hc : c < 6) (hb : S.testBit c = true) : bits BinOp.andNot IntKind.i64 (S : Int) (wrap64 ((2 : Int) ^ c)) = ((S - 2 ^ c : Nat) : Int) := by
  rw [pow_wrap c hc, set_andNot S hS c hc hb]
theorem and_wrap {S c : Nat} (hS : S < 64) (hc : c < 6) : (bits BinOp.and IntKind.i64 (S : Int) (wrap64 ((2 : Int) ^ c)) != 0) = S.testBit c := by
  rw [pow_wrap c hc, set_and S hS c hc]

set_option maxRecDepth 100000 in
set_option maxHeartbeats 4000000 in
theorem expand_any (A : Option Addr) (n c g N m R C : Nat) (xss : List (List Int)) (w : World) (ha : SLL w A n c xss) (hf : mfault xss = 0) (hT : TabW w) (hm : colsM xss = m) (hN : R < N) (hR : R < 2 ^ n) (hC : C < 2 ^ m) (hs : sizeN R = sizeN C)
    (ht : TabR w g (2 ^ m) (matF xss) m R) :
    Calls Tryd.prog 45 #[.slice A n c, .slice (some ⟨g, 0, none⟩) N N, .int .i64 R, .int .i64 C] w fun e w' => e = .returned (.int .i64 (mnr (matF xss) R C)) ∧ w' = w := by
  obtain ⟨hn6, hm6, hrow, hent⟩ := mat_rows hf
  have hl := ha.len
  rw [hl] at hn6 hrow
  rw [hm] at hm6 hrow
  have hn64 : 2 ^ n ≤ 64 := Nat.le_trans (Nat.pow_le_pow_right (by omega) hn6) (by decide)
  have hm64 : 2 ^ m ≤ 64 := Nat.le_trans (Nat.pow_le_pow_right (by omega) hm6) (by decide)
  have hR64 : R < 64 := by omega
  have hC64 : C < 64 := by omega
  by_cases h0 : R = 0
  · subst h0
    have hz : Hid (mnr (matF xss) 0 C = 1) := hide (mnr_zero _ hs)
    rw [hz.out]
    clear ha ht hT hrow hent hz
    go_enter Tryd.func45, Tryd.ntmps45
    go_wp2
    go_ret
    exact ⟨rfl, rfl⟩
  · have hr0 : ((R : Int) == 0) = false := by simp; omega
    have hwR : IntKind.u64.wrap (R : Int) = (R : Int) := by rw [IntKind.wrap_u64]; omega
    have HTZ := hide (tz_any R w hR64 h0 hT)
    have hlow := low_below n (by omega) R hR h0
    obtain ⟨l1, l2, l3, l4⟩ := low_facts R hR64 h0
    have hAN := not_wrap hR64 (by omega : lowN R < 6) l2
    obtain ⟨ad, B, mm, d, rfl, hcr, hsl⟩ := ha.at_ hlow
    have hmm := hsl.il.len
    rw [hrow _ hlow] at hmm
    obtain ⟨D, hcd, hsd⟩ := ht (R - 2 ^ lowN R) l3
    subst hmm
    have HSL := hide hsl
    have HSD := hide hsd
    have HPS : Hid (∀ k, k < m → C.testBit k = true → expP (matF xss) R C (k + 1) = expP (matF xss) R C k + CR.sgR Int (cntB C k) * matF xss (lowN R) k * mnr (matF xss) (R - 2 ^ lowN R) (C - 2 ^ k)) := hide (fun k hk hb => expP_set hR64 h0 hC64 (by omega) hb hs)
    have HPN : Hid (∀ k, k < m → C.testBit k = false → expP (matF xss) R C (k + 1) = expP (matF xss) R C k) := hide (fun k hk hb => expP_not hC64 (by omega) hb)
    have HPE : Hid (expP (matF xss) R C m = mnr (matF xss) R C) := hide (expP_end hR64 h0 hm6 hC hs)
    have HPL : Hid (∀ k, k ≤ m → (expP (matF xss) R C k).natAbs ≤ 720000000000000) := hide (fun k hk => expP_le hR64 h0 hC64 (by omega) hent)
    have HML : Hid (∀ k, (mnr (matF xss) (R - 2 ^ lowN R) k).natAbs ≤ 1200000000000) := hide (fun k => mnr_small5 (by omega) (by have := size_le R hR64; omega) hent)
    have HEL : Hid (∀ k, (matF xss (lowN R) k).natAbs ≤ 100) := hide (fun k => hent _ k)
    have HBF : Hid (∀ k, k < m → C.testBit k = true → cntB C (k + 1) = cntB C k + 1 ∧ bits BinOp.andNot IntKind.i64 (C : Int) (wrap64 ((2 : Int) ^ k)) = ((C - 2 ^ k : Nat) : Int) ∧ C - 2 ^ k < 2 ^ m) := hide (fun k hk hb => ⟨(bit_facts C hC64 k (by omega) hb).2.2.1, not_wrap hC64 (by omega) hb, Nat.lt_of_le_of_lt (Nat.sub_le _ _) hC⟩)
    have HBN : Hid (∀ k, k < m → C.testBit k = false → cntB C (k + 1) = cntB C k) := hide (fun k hk hb => nobit_facts C hC64 k (by omega) hb)
    have HBA : Hid (∀ k, k < m → (bits BinOp.and IntKind.i64 (C : Int) (wrap64 ((2 : Int) ^ k)) != 0) = C.testBit k) := hide (fun k hk => and_wrap hC64 (by omega))
    have HMF : Hid (∀ k, matF xss (lowN R) k = (xss.getD (lowN R) []).getD k 0) := hide (fun k => rfl)
    have HGD : Hid (∀ k, k < 2 ^ m → (mnrL (matF xss) m (R - 2 ^ lowN R)).getD k 0 = mnr (matF xss) (R - 2 ^ lowN R) k) := hide (fun k hk => mnrL_getD _ hk)
    clear ha ht hT hrow hent hsl hsd l1 l2 l4 hC hs hR
    generalize 2 ^ m = MM at *
    generalize R - 2 ^ lowN R = R' at *
    generalize lowN R = f at *
    go_enter Tryd.func45, Tryd.ntmps45
    go_wp2_with fail
    refine HTZ.out.mono ?_
    rintro e w' ⟨rfl, rfl⟩
    clear HTZ
    go_wp2_with (simp only [hAN])
    go_loop [11, 12, 32] (fun dv sv iv => ∃ k : Nat, k ≤ m ∧ iv = .int .i64 k ∧ dv = .int .i64 (expP (matF xss) R C k) ∧ sv = .int .i64 (CR.sgR Int (cntB C k))) (fun _ _ iv => m - (intOf iv).toNat)
    case atStart => exact ⟨0, Nat.zero_le _, rfl, rfl, rfl⟩
    case round =>
      obtain ⟨k, hk, rfl, rfl, rfl⟩ := hrel
      by_cases hlt : k < m
      · obtain ⟨rd, rfl, hx⟩ := HSL.out.il.at_ hlt
        rw [← HMF.out] at hx
        have hba := HBA.out k hlt
        by_cases hb : C.testBit k = true
        · rw [hb] at hba
          obtain ⟨q1, q2, q3⟩ := HBF.out k hlt hb
          obtain ⟨td, rfl, hy⟩ := HSD.out.il.at_ q3
          rw [HGD.out _ q3] at hy
          have HS := hide (HPS.out k hlt hb)
          have HQ : Hid (cntB C (k + 1) = cntB C k + 1) := hide q1
          have hxl := HEL.out k
          have hyl := HML.out (C - 2 ^ k)
          have hp := HPL.out k (by omega)
          have hp2 := HPL.out (k + 1) (by omega)
          rw [HS.out] at hp2
          have hsg := sgR_cases (cntB C k)
          have HSG := hide (sgR_next (cntB C k))
          have hsx : (CR.sgR Int (cntB C k) * matF xss f k).natAbs ≤ 100 := by
            rcases hsg with h | h <;> rw [h] <;> omega
          have hsxy := abs_mul_le hsx hyl
          clear hb q1
          generalize C - 2 ^ k = C' at *
          generalize mnr (matF xss) R' C' = y at *
          generalize matF xss f k = x at *
          generalize expP (matF xss) R C k = p at *
          generalize cntB C k = c1 at *
          obtain ⟨sg, hsge⟩ : ∃ sg, CR.sgR Int c1 = sg := ⟨_, rfl⟩
          rw [hsge] at hsg HSG hsx hsxy HS hp2 ⊢
          have w1 : IntKind.i64.wrap (sg * x) = sg * x := by rw [IntKind.wrap_i64]; omega
          have w2 : IntKind.i64.wrap (sg * x * y) = sg * x * y := by rw [IntKind.wrap_i64]; omega
          have w3 : IntKind.i64.wrap (p + sg * x * y) = p + sg * x * y := by rw [IntKind.wrap_i64]; omega
          have w4 : IntKind.i64.wrap (-sg) = -sg := by rw [IntKind.wrap_i64]; omega
          clear hsge hxl hyl hp hp2 hsx hsxy
          go_wp2_with (simp only [q2])
          go_round
          case rel => exact ⟨k + 1, by omega, by go_num, by rw [HS.out], by rw [HQ.out, HSG.out]⟩
          case measure => simp [intOf]; omega
        · have hb : C.testBit k = false := by simpa using hb
          rw [hb] at hba
          have HN := hide (HPN.out k hlt hb)
          have HC := hide (HBN.out k hlt hb)
          clear hb
          go_wp2_with fail
          go_round
          case rel => exact ⟨k + 1, by omega, by go_num, by rw [HN.out], by rw [HC.out]⟩
          case measure => simp [intOf]; omega
      · have hkm : k = m := by omega
        subst hkm
        rw [HPE.out]
        go_wp2_with fail
        go_ret
        exact ⟨rfl, rfl⟩
end Go.Proofs.YtgjblcfcbohjdaaDoor
