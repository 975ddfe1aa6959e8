/- timbkeep1.product, turn; slices.Clone of rows. -/
import Derived.Test.YtgjblcfcbohjdaaDoorRowsM
import Derived.Test.YtgjblcfcbohjdaaDoorDetRef
namespace Go.Proofs.YtgjblcfcbohjdaaDoor
set_option linter.unusedVariables false
set_option linter.unusedSimpArgs false
open Go.RowKit

def tabL (n m : Nat) (M : Mtx Int) : List (List Int) := (List.range n).map fun i => (List.range m).map fun j => M i j
theorem tabL_succ (k m : Nat) (M : Mtx Int) : tabL (k + 1) m M = tabL k m M ++ [(List.range m).map fun j => M k j] := by simp [tabL, List.range_succ]
theorem tabL_row (n m : Nat) (M : Mtx Int) {i : Nat} (hi : i < n) : (tabL n m M).getD i [] = (List.range m).map fun j => M i j := by simp [tabL, List.getD, hi]
theorem tabL_matF (n m : Nat) (M : Mtx Int) {i j : Nat} (hi : i < n) (hj : j < m) : matF (tabL n m M) i j = M i j := by
  unfold matF
  rw [tabL_row n m M hi]
  simp [List.getD, hj]
theorem sumN_take (r : List Int) (f : Nat → Int) (k : Nat) : CR.sumN (k + 1) (fun i => r.getD i 0 * f i) = CR.sumN k (fun i => r.getD i 0 * f i) + r.getD k 0 * f k := rfl

set_option maxRecDepth 100000 in
set_option maxHeartbeats 4000000 in
theorem mproduct_any (A B : Option Addr) (n c m d : Nat) (xss yss : List (List Int)) (w : World) (ha : ILL w A n xss) (hb : ILL w B n yss) (h0 : 0 < n) (hn : n ≤ 10)
    (hx : ∀ i, i < n → (xss.getD i []).length = n) (hy : ∀ i, i < n → (yss.getD i []).length = n) (hxb : ∀ i j, (matF xss i j).natAbs ≤ 100) (hyb : ∀ i j, (matF yss i j).natAbs ≤ 100) :
    Calls Tryd.prog 23 #[.slice A n c, .slice B n d] w fun e w' => ∃ C m d, e = .returned (.slice C m d) ∧ SLL w' C m d (tabL n n (mulM n (matF xss) (matF yss))) ∧ Below w.heap.size w w' := by
  obtain ⟨i0, hi0, hz0, hz1, hz2⟩ := info_parts int_info
  obtain ⟨i2, hj0, hk0, hk1, hk2⟩ := info_parts rows_info
  have HI0 := hide hi0
  have HZ0 := hide hz0
  have HZ1 := hide hz1
  have HZ2 := hide hz2
  have HJ0 := hide hj0
  have HK0 := hide hk0
  have HK1 := hide hk1
  have HK2 := hide hk2
  have HA := hide ha
  have HB := hide hb
  have HX := hide hx
  have HY := hide hy
  have HXB := hide hxb
  have HYB := hide hyb
  obtain ⟨P, hP⟩ : ∃ P : Mtx Int, mulM n (matF xss) (matF yss) = P := ⟨_, rfl⟩
  rw [hP]
  have HP := hide hP
  clear ha hb hx hy hxb hyb hi0 hz0 hz1 hz2 hj0 hk0 hk1 hk2 hP
  go_enter Tryd.func23, Tryd.ntmps23
  go_wp2_with fail
  go_loopw [5, 15] (fun sv iv wr => ∃ (i m d : Nat) (C : Option Addr) (vs : List Value), iv = .int .i64 i ∧ sv = .slice C m d ∧ i ≤ n ∧ Hid (m = i) ∧ MSt w wr C m d vs (tabL i n P)) (fun _ iv _ => n - (intOf iv).toNat)
  case atStart => exact ⟨0, 0, 0, none, [], rfl, rfl, Nat.zero_le _, rfl, MSt.start w⟩
  case round =>
    obtain ⟨i, m, d, C, vs, rfl, rfl, hi, HMI, hst⟩ := hrel
    have HST := hide hst
    have hbs := hst.below.size
    rename World => wo
    by_cases hlt : i < n
    · obtain ⟨ad, R, rn, rc, rfl, hrow, hrl⟩ := (HA.out.below hst.below).at_ hlt
      have hrn := hrl.len
      rw [HX.out i hlt] at hrn
      subst hrn
      obtain ⟨bd, R0, m0, d0, rfl, hrow0, hil0⟩ := (HB.out.below hst.below).at_ h0
      rw [show bd.add 0 = bd by unfold Addr.add; simp] at hrow0
      have hm0 := hil0.len
      rw [HY.out 0 h0] at hm0
      subst hm0
      have HR := hide hrl
      clear hst hrl hil0
      go_wp2_with fail
      go_loopw [8, 23] (fun rv jv wr => ∃ (j q : Nat) (Q : Option Addr), jv = .int .i64 j ∧ rv = .slice Q j q ∧ j ≤ n ∧ OwnI wr wo.heap.size Q j q ((List.range j).map fun j => P i j) ∧ Below wo.heap.size wo wr) (fun _ jv _ => n - (intOf jv).toNat)
      case atStart => exact ⟨0, 0, none, rfl, rfl, Nat.zero_le _, OwnI.nil_ _ _, Below.refl _ _⟩
      case round =>
        obtain ⟨j, q, Q, rfl, rfl, hj, ho, hb1⟩ := hrel
        rename World => wj
        have HO := hide ho
        have HB1 := hide hb1
        clear ho hb1
        have hbs1 := Nat.le_trans hbs HB1.out.size
        by_cases hjl : j < n
        · go_wp2_with fail
          go_loopw [10, 28] (fun sv kv wr => ∃ k : Nat, kv = .int .i64 k ∧ k ≤ n ∧ sv = .int .i64 (CR.sumN k fun k => matF xss i k * matF yss k j) ∧ Below wj.heap.size wj wr) (fun _ kv _ => n - (intOf kv).toNat)
          case atStart => exact ⟨0, rfl, Nat.zero_le _, rfl, Below.refl _ _⟩
          case round =>
            obtain ⟨k, rfl, hk, rfl, hb2⟩ := hrel
            have HB2 := hide hb2
            have hbo : Below wo.heap.size wo wr := HB1.out.trans (hb2.mono HB1.out.size)
            have hbw : Below w.heap.size w wr := HST.out.below.trans (hbo.mono HST.out.below.size)
            have hsb : ∀ k, k ≤ n → (CR.sumN k fun k => matF xss i k * matF yss k j).natAbs ≤ k * 10000 := fun k hk => natAbs_sum_le (fun t _ => by
              have := abs_mul_le (HXB.out i t) (HYB.out t j)
              omega)
            by_cases hkl : k < n
            · obtain ⟨pd, rfl, hxc⟩ := (HR.out.below hbo).at_ hkl
              obtain ⟨bd', T, tn, tc, e, hrowk, hilk⟩ := (HB.out.below hbw).at_ hkl
              injection e with e
              subst e
              have htn := hilk.len
              rw [HY.out k hkl] at htn
              subst htn
              obtain ⟨qd, rfl, hyc⟩ := hilk.at_ hjl
              have hxle := HXB.out i k
              have hyle := HYB.out k j
              have hpl := abs_mul_le hxle hyle
              have hs1 := hsb k hk
              have hs2 := hsb (k + 1) hkl
              rw [CR.sumN_succ] at hs2
              have HS : Hid (CR.sumN (k + 1) (fun k => matF xss i k * matF yss k j) = CR.sumN k (fun k => matF xss i k * matF yss k j) + matF xss i k * matF yss k j) := rfl
              unfold matF at hxle hyle hpl hs2
              have HS2 : Hid (CR.sumN (k + 1) (fun k => matF xss i k * matF yss k j) = CR.sumN k (fun k => matF xss i k * matF yss k j) + (xss.getD i []).getD k 0 * (yss.getD k []).getD j 0) := HS
              have hs3 : (CR.sumN k (fun k => matF xss i k * matF yss k j) + (xss.getD i []).getD k 0 * (yss.getD k []).getD j 0).natAbs ≤ (k + 1) * 10000 := hs2
              clear HS hs2 hb2 hbo hbw hsb hilk
              generalize CR.sumN k (fun k => matF xss i k * matF yss k j) = s at *
              generalize (xss.getD i []).getD k 0 = x at *
              generalize (yss.getD k []).getD j 0 = y at *
              obtain ⟨p, hp⟩ : ∃ p, x * y = p := ⟨_, rfl⟩
              rw [hp] at hpl hs3 HS2
              have hwp : IntKind.i64.wrap (x * y) = x * y := by rw [hp, IntKind.wrap_i64]; omega
              have hws : IntKind.i64.wrap (s + x * y) = s + x * y := by rw [hp, IntKind.wrap_i64]; omega
              rw [← hp] at HS2
              clear hp hpl hs3 hxle hyle hs1
              go_wp2_with fail
              go_roundw
              case rel => exact ⟨k + 1, by go_num, by omega, by rw [HS2.out], HB2.out⟩
              case measure => simp [intOf]; omega
            · have hkn : k = n := by omega
              have HE : Hid ((CR.sumN k fun k => matF xss i k * matF yss k j) = P i j) := hide (by rw [hkn, ← HP.out]; rfl)
              rw [HE.out]
              have HOr := hide (HO.out.below hb2)
              have hbz := Nat.le_trans hbs1 hb2.size
              have HBO := hide hbo
              clear hb2 hbo hbw hsb HE
              have HPR : Hid (((List.range j).map fun j => P i j) ++ [P i j] = (List.range (j + 1)).map fun j => P i j) := hide (by simp [List.range_succ])
              generalize P i j = x at *
              go_wp2_with (at_builtin; refine wpList_append_int _ rfl (.tmp 45) (.tmp 47) 28 rfl wo.heap.size i0 Tryd.underlying28 HI0.out HZ0.out HZ1.out HZ2.out Q j q _ rfl (HOr.out.alloc _) (some ⟨_, 0, none⟩) 1 1 [x] rfl (IL.lit _ [x] (by simp) rfl rfl) (by omega) (by have := HBO.out.size; simp; omega) ?_; intro A8 c8 w8 hap)
              have hN := hap.own
              rw [HPR.out] at hN
              have hb8 := (HBO.out.alloc HBO.out.size (.cells #[.int .i64 x] 3)).grown hap.grown (by have := HBO.out.size; simp; omega) (fun g hg => (HOr.out.lt g (by rw [ownBlock_len Q j (j + 1) q q]; exact hg)).1)
              clear hap
              go_roundw
              case rel => exact ⟨j + 1, c8, A8, by go_num, rfl, by omega, hN, hb8⟩
              case measure => simp [intOf]; omega
        · have hjn : j = n := by omega
          have HSTB := hide (HST.out.to HB1.out)
          have HO2 := hide (HO.out.mono hbs)
          have hm1 : m + 1 ≤ 1000000 := by have := HMI.out; omega
          have hbs2 := HSTB.out.below.size
          have HOV := hide HSTB.out.own
          have HJN := hide hjn
          clear HO HB1 hjn
          go_wp2_with (at_builtin; refine wpList_append_val _ rfl (.tmp 50) (.tmp 52) 22 rfl w.heap.size i2 Tryd.underlying22 HJ0.out HK0.out HK1.out HK2.out C m d vs rfl (HOV.out.alloc _) ⟨_, 0, none⟩ 1 (.slice Q j q) rfl (by simp [World.cell?_alloc_new]) rfl hm1 (Nat.le_trans hbs2 (by simp)) ?_; intro A9 c9 w9 happ)
          have hN := HSTB.out.add HO2.out happ
          rw [HJN.out] at hN
          rw [← tabL_succ] at hN
          have HN := hide hN
          clear hN happ
          go_roundw
          case rel => exact ⟨i + 1, m + 1, c9, A9, _, by go_num, rfl, by omega, by rw [HMI.out]; exact rfl, HN.out⟩
          case measure => simp [intOf]; omega
    · have hin : i = n := by omega
      have HN := hide HST.out.sll
      rw [hin] at HN
      have HBB := hide HST.out.below
      clear HST hst
      go_wp2_with fail
      go_ret
      exact ⟨C, m, d, rfl, HN.out, HBB.out⟩

set_option maxRecDepth 100000 in
set_option maxHeartbeats 4000000 in
theorem mturn_any (A : Option Addr) (n c m : Nat) (xss : List (List Int)) (w : World) (ha : ILL w A n xss) (h0 : 0 < n) (hn : n ≤ 10) (hm : m ≤ 10) (hx : ∀ i, i < n → (xss.getD i []).length = m) :
    Calls Tryd.prog 25 #[.slice A n c] w fun e w' => ∃ C m2 d, e = .returned (.slice C m2 d) ∧ SLL w' C m2 d (tabL m n (turnM (matF xss))) ∧ Below w.heap.size w w' := by
  obtain ⟨i0, hi0, hz0, hz1, hz2⟩ := info_parts int_info
  obtain ⟨i2, hj0, hk0, hk1, hk2⟩ := info_parts rows_info
  have HI0 := hide hi0
  have HZ0 := hide hz0
  have HZ1 := hide hz1
  have HZ2 := hide hz2
  have HJ0 := hide hj0
  have HK0 := hide hk0
  have HK1 := hide hk1
  have HK2 := hide hk2
  have HA := hide ha
  have HX := hide hx
  obtain ⟨ad, R0, m0, d0, rfl, hrow0, hil0⟩ := ha.at_ h0
  rw [show ad.add 0 = ad by unfold Addr.add; simp] at hrow0
  have hm0 := hil0.len
  rw [hx 0 h0] at hm0
  subst hm0
  clear ha hx hil0 hi0 hz0 hz1 hz2 hj0 hk0 hk1 hk2
  go_enter Tryd.func25, Tryd.ntmps25
  go_wp2_with fail
  go_loopw [3, 12] (fun sv iv wr => ∃ (i k d : Nat) (C : Option Addr) (vs : List Value), iv = .int .i64 i ∧ sv = .slice C k d ∧ i ≤ m ∧ Hid (k = i) ∧ MSt w wr C k d vs (tabL i n (turnM (matF xss)))) (fun _ iv _ => m - (intOf iv).toNat)
  case atStart => exact ⟨0, 0, 0, none, [], rfl, rfl, Nat.zero_le _, rfl, MSt.start w⟩
  case round =>
    obtain ⟨i, k, d, C, vs, rfl, rfl, hi, HMI, hst⟩ := hrel
    have HST := hide hst
    have hbs := hst.below.size
    rename World => wo
    clear hst
    by_cases hlt : i < m
    · go_wp2_with fail
      go_loopw [5, 17] (fun rv jv wr => ∃ (j q : Nat) (Q : Option Addr), jv = .int .i64 j ∧ rv = .slice Q j q ∧ j ≤ n ∧ OwnI wr wo.heap.size Q j q ((List.range j).map fun j => turnM (matF xss) i j) ∧ Below wo.heap.size wo wr) (fun _ jv _ => n - (intOf jv).toNat)
      case atStart => exact ⟨0, 0, none, rfl, rfl, Nat.zero_le _, OwnI.nil_ _ _, Below.refl _ _⟩
      case round =>
        obtain ⟨j, q, Q, rfl, rfl, hj, ho, hb1⟩ := hrel
        have HO := hide ho
        have HB1 := hide hb1
        clear ho hb1
        by_cases hjl : j < n
        · have hbw : Below w.heap.size w wr := HST.out.below.trans (HB1.out.mono HST.out.below.size)
          obtain ⟨ad', T, tn, tc, e, hrowk, hilk⟩ := (HA.out.below hbw).at_ hjl
          injection e with e
          subst e
          have htn := hilk.len
          rw [HX.out j hjl] at htn
          subst htn
          obtain ⟨qd, rfl, hyc⟩ := hilk.at_ hlt
          have HPR : Hid (((List.range j).map fun j => turnM (matF xss) i j) ++ [(xss.getD j []).getD i 0] = (List.range (j + 1)).map fun j => turnM (matF xss) i j) := hide (by simp [List.range_succ, turnM, matF])
          clear hbw hilk
          generalize (xss.getD j []).getD i 0 = x at *
          go_wp2_with (at_builtin; refine wpList_append_int _ rfl (.tmp 21) (.tmp 26) 28 rfl wo.heap.size i0 Tryd.underlying28 HI0.out HZ0.out HZ1.out HZ2.out Q j q _ rfl (HO.out.alloc _) (some ⟨_, 0, none⟩) 1 1 [x] rfl (IL.lit _ [x] (by simp) rfl rfl) (by omega) (by have := HB1.out.size; simp; omega) ?_; intro A8 c8 w8 hap)
          have hN := hap.own
          rw [HPR.out] at hN
          have hb8 := (HB1.out.alloc HB1.out.size (.cells #[.int .i64 x] 3)).grown hap.grown (by have := HB1.out.size; simp; omega) (fun g hg => (HO.out.lt g (by rw [ownBlock_len Q j (j + 1) q q]; exact hg)).1)
          clear hap
          go_roundw
          case rel => exact ⟨j + 1, c8, A8, by go_num, rfl, by omega, hN, hb8⟩
          case measure => simp [intOf]; omega
        · have hjn : j = n := by omega
          have HSTB := hide (HST.out.to HB1.out)
          have HO2 := hide (HO.out.mono hbs)
          have hm1 : k + 1 ≤ 1000000 := by have := HMI.out; omega
          have hbs2 := HSTB.out.below.size
          have HOV := hide HSTB.out.own
          have HJN := hide hjn
          clear HO HB1 hjn
          go_wp2_with (at_builtin; refine wpList_append_val _ rfl (.tmp 29) (.tmp 31) 22 rfl w.heap.size i2 Tryd.underlying22 HJ0.out HK0.out HK1.out HK2.out C k d vs rfl (HOV.out.alloc _) ⟨_, 0, none⟩ 1 (.slice Q j q) rfl (by simp [World.cell?_alloc_new]) rfl hm1 (Nat.le_trans hbs2 (by simp)) ?_; intro A9 c9 w9 happ)
          have hN := HSTB.out.add HO2.out happ
          rw [HJN.out] at hN
          rw [← tabL_succ] at hN
          have HN := hide hN
          clear hN happ
          go_roundw
          case rel => exact ⟨i + 1, k + 1, c9, A9, _, by go_num, rfl, by omega, by rw [HMI.out]; exact rfl, HN.out⟩
          case measure => simp [intOf]; omega
    · have hin : i = m := by omega
      have HN := hide HST.out.sll
      rw [hin] at HN
      have HBB := hide HST.out.below
      clear HST
      go_wp2_with fail
      go_ret
      exact ⟨C, k, d, rfl, HN.out, HBB.out⟩
end Go.Proofs.YtgjblcfcbohjdaaDoor
