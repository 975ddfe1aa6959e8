/- timbmake.Matrix. -/
import Derived.Test.YtgjblcfcbohjdaaDoorRowsM
import Derived.Test.YtgjblcfcbohjdaaDoorSmall2
namespace Go.Proofs.YtgjblcfcbohjdaaDoor
set_option linter.unusedVariables false
set_option linter.unusedSimpArgs false
open Go.RowKit

/-- Entry t of the matrix that raw numbers give. -/
def rawE (raw : List Int) (b t : Nat) : Int := if t < raw.length then raw.getD t 0 % ((2 * b + 1 : Nat) : Int) - b else 0
theorem rawE_le (raw : List Int) (b t : Nat) : (rawE raw b t).natAbs ≤ b := by
  unfold rawE
  split
  · have h1 := Int.emod_nonneg (raw.getD t 0) (show ((2 * b + 1 : Nat) : Int) ≠ 0 by omega)
    have h2 := Int.emod_lt_of_pos (raw.getD t 0) (show (0 : Int) < ((2 * b + 1 : Nat) : Int) by omega)
    omega
  · simp
def rawRow (raw : List Int) (cols b i : Nat) : List Int := (List.range cols).map fun j => rawE raw b (i * cols + j)
def rawM (rows cols : Nat) (raw : List Int) (b : Nat) : List (List Int) := (List.range rows).map (rawRow raw cols b)
theorem rawM_succ (k cols : Nat) (raw : List Int) (b : Nat) : rawM (k + 1) cols raw b = rawM k cols raw b ++ [rawRow raw cols b k] := by simp [rawM, List.range_succ]
theorem rawRow_length (raw : List Int) (cols b i : Nat) : (rawRow raw cols b i).length = cols := by simp [rawRow]
theorem rawRow_getD (raw : List Int) {cols b i j : Nat} (hj : j < cols) : (rawRow raw cols b i).getD j 0 = rawE raw b (i * cols + j) := by simp [rawRow, List.getD, hj]

set_option maxRecDepth 100000 in
set_option maxHeartbeats 4000000 in
theorem mmatrix_any (R : Option Addr) (n c : Nat) (raw : List Int) (rows cols b : Nat) (w : World) (ha : IL w R n raw) (hr : rows ≤ 1000) (hc : cols ≤ 1000) (hb : b ≤ 1000) :
    Calls Tryd.prog 22 #[.int .i64 rows, .int .i64 cols, .slice R n c, .int .i64 b] w fun e w' => ∃ A m d, e = .returned (.slice A m d) ∧ SLL w' A m d (rawM rows cols raw b) ∧ Below w.heap.size w w' := by
  obtain ⟨i0, hi0, hz0, hz1, hz2⟩ := info_parts int_info
  obtain ⟨i2, hj0, hk0, hk1, hk2⟩ := info_parts rows_info
  have HI0 := hide hi0
  have HZ0 := hide hz0
  have HZ1 := hide hz1
  have HZ2 := hide hz2
  have HJ0 := hide hj0
  have HK0 := hide hk0
  have HK1 := hide hk1
  have HK2 := hide hk2
  have hns := ha.small
  have HA := hide ha
  have HL := hide ha.len
  have HMB := hide (fun (x : Int) (w : World) => mbelow_any x (2 * b + 1) w (by omega) (by omega))
  clear ha hi0 hz0 hz1 hz2 hj0 hk0 hk1 hk2
  go_enter Tryd.func22, Tryd.ntmps22
  go_wp2_with fail
  go_loopw [9, 10, 14] (fun sv kv iv wr => ∃ (i m d : Nat) (A : Option Addr) (vs : List Value), iv = .int .i64 i ∧ kv = .int .i64 ((i * cols : Nat) : Int) ∧ sv = .slice A m d ∧ i ≤ rows ∧ Hid (m = i) ∧ MSt w wr A m d vs (rawM i cols raw b)) (fun _ _ iv _ => rows - (intOf iv).toNat)
  case atStart => exact ⟨0, 0, 0, none, [], rfl, by rw [Nat.zero_mul]; rfl, rfl, Nat.zero_le _, rfl, MSt.start w⟩
  case round =>
    obtain ⟨i, m, d, A, vs, rfl, rfl, rfl, hi, HMI, hst⟩ := hrel
    have HST := hide hst
    have hbs := hst.below.size
    clear hst
    rename World => wo
    by_cases hlt : i < rows
    · have hic : i * cols ≤ 1000000 := Nat.le_trans (Nat.mul_le_mul (show i ≤ 1000 by omega) hc) (by omega)
      obtain ⟨q, hq⟩ : ∃ q, i * cols = q := ⟨_, rfl⟩
      rw [hq] at hic ⊢
      have HQ := hide hq
      clear hq
      go_wp2_with (at_make; refine wpList_make_full _ rfl _ _ 28 rfl w.heap.size 3 i0 (.int .i64 0) 1 Tryd.underlying28 HI0.out HZ0.out HZ1.out .i64 .i64 _ _ cols rfl rfl rfl rfl (by rw [HZ2.out]; omega) (by unfold maxLen; omega) hbs ?_; intro w2 hown2 hg2)
      have HB2 : Hid (Below wo.heap.size wo w2) := (Below.refl _ _).grown hg2 (Nat.le_refl _) (by intro k hk; cases hk)
      have HW2 : Hid (OwnI w2 w.heap.size (some ⟨wo.heap.size, 0, none⟩) cols cols (fillN (fun j => rawE raw b (q + j)) cols 0)) := by rw [fillN_zero]; exact OwnI.zero (z := #[]) hown2 (by omega)
      clear hown2 hg2
      go_loopw [10, 20] (fun kv jv wr => ∃ j : Nat, jv = .int .i64 j ∧ kv = .int .i64 ((q + j : Nat) : Int) ∧ j ≤ cols ∧ OwnI wr w.heap.size (some ⟨wo.heap.size, 0, none⟩) cols cols (fillN (fun j => rawE raw b (q + j)) cols j) ∧ Below wo.heap.size wo wr) (fun _ jv _ => cols - (intOf jv).toNat)
      case atStart => exact ⟨0, rfl, rfl, Nat.zero_le _, HW2.out, HB2.out⟩
      case round =>
        clear HW2 HB2
        obtain ⟨j, rfl, rfl, hj, ho, hb1⟩ := hrel
        have hqj : q + j ≤ 1001000 := by omega
        obtain ⟨t, ht⟩ : ∃ t, q + j = t := ⟨_, rfl⟩
        rw [ht] at hqj ⊢
        by_cases hjl : j < cols
        · by_cases htn : t < n
          · obtain ⟨ad, rfl, hcl⟩ := (HA.out.below (HST.out.below.trans (hb1.mono HST.out.below.size))).at_ htn
            have hcell := ho.cell hjl
            have hfr := ho.frozen j
            have HE : Hid (rawE raw b t = raw.getD t 0 % ((2 * b + 1 : Nat) : Int) - b) := hide (by unfold rawE; rw [if_pos (by rw [HL.out]; exact htn)])
            have HS := hide (ho.set_ j (rawE raw b t))
            have HF : Hid ((fillN (fun j => rawE raw b (q + j)) cols j).set j (rawE raw b t) = fillN (fun j => rawE raw b (q + j)) cols (j + 1)) := hide (by rw [← ht]; exact fillN_set (fun j => rawE raw b (q + j)) cols j)
            have hle := rawE_le raw b t
            rw [HE.out] at hle
            have HBW := hide (hb1.setCell (p := ⟨wo.heap.size, j, none⟩) (Nat.le_refl _) (.int .i64 (rawE raw b t)))
            rw [HF.out, HE.out] at HS
            rw [HE.out] at HBW
            have HM2 := HMB.out (raw.getD t 0)
            have hnn := Int.emod_nonneg (raw.getD t 0) (show ((2 * b + 1 : Nat) : Int) ≠ 0 by omega)
            have hw2 : IntKind.i64.wrap (2 * (b : Int)) = 2 * (b : Int) := by rw [IntKind.wrap_i64]; omega
            have HM3 : Hid (∀ w, Calls Tryd.prog 21 #[.int .i64 (raw.getD t 0), .int .i64 (2 * (b : Int) + 1)] w fun e w' => e = .returned (.int .i64 (raw.getD t 0 % ((2 * b + 1 : Nat) : Int))) ∧ w = w') := hide (fun w => by
              have h := HM2 w
              rw [show ((2 * b + 1 : Nat) : Int) = 2 * (b : Int) + 1 by omega] at h ⊢
              exact h)
            clear HM2 ho hb1 HF HE
            generalize raw.getD t 0 % ((2 * b + 1 : Nat) : Int) = y at *
            generalize raw.getD t 0 = x at *
            generalize (fillN (fun j => rawE raw b (q + j)) cols j).getD j 0 = z at *
            go_wp2_with fail
            refine (HM3.out _).mono ?_
            rintro e w3 ⟨rfl, rfl⟩
            go_wp2_with fail
            go_roundw
            case rel => exact ⟨j + 1, by go_num, by rw [show q + (j + 1) = t + 1 by omega]; go_num, by omega, HS.out, HBW.out⟩
            case measure => simp [intOf]; omega
          · have HF : Hid (fillN (fun j => rawE raw b (q + j)) cols j = fillN (fun j => rawE raw b (q + j)) cols (j + 1)) := hide (by
              have h0 : rawE raw b t = 0 := by unfold rawE; rw [if_neg (by rw [HL.out]; exact htn)]
              rw [← fillN_set (fun j => rawE raw b (q + j)) cols j]
              apply List.ext_getElem
              · simp
              · intro k h1 h2
                rw [List.getElem_set]
                by_cases e : j = k
                · subst e
                  rw [if_pos rfl, ht, h0]
                  simp [fillN]
                · rw [if_neg e])
            rw [HF.out] at ho
            have HO := hide ho
            have HBW := hide hb1
            clear ho hb1 HF
            go_wp2_with fail
            go_roundw
            case rel => exact ⟨j + 1, by go_num, by rw [show q + (j + 1) = t + 1 by omega]; go_num, by omega, HO.out, HBW.out⟩
            case measure => simp [intOf]; omega
        · have hjc : j = cols := by omega
          have HROW : Hid (fillN (fun j => rawE raw b (q + j)) cols j = rawRow raw cols b i) := hide (by
            rw [hjc]
            exact fillN_full (rawRow_length _ _ _ _) (fun j hj => by rw [rawRow_getD raw hj, HQ.out]))
          rw [HROW.out] at ho
          have HSTB := hide (HST.out.to hb1)
          have HO := hide ho
          have hm1 : m + 1 ≤ 1000000 := by have := HMI.out; omega
          have hbs2 := HSTB.out.below.size
          have HOV := hide HSTB.out.own
          clear ho hb1 HROW
          go_wp2_with (at_builtin; refine wpList_append_val _ rfl (.tmp 43) (.tmp 45) 22 rfl w.heap.size i2 Tryd.underlying22 HJ0.out HK0.out HK1.out HK2.out A m d vs rfl (HOV.out.alloc _) ⟨_, 0, none⟩ 1 (.slice (some ⟨wo.heap.size, 0, none⟩) cols cols) rfl (by simp [World.cell?_alloc_new]) rfl hm1 (Nat.le_trans hbs2 (by simp)) ?_; intro A9 c9 w9 happ)
          have hN := HSTB.out.add HO.out happ
          rw [← rawM_succ] at hN
          have HN := hide hN
          clear hN happ
          go_roundw
          case rel => exact ⟨i + 1, m + 1, c9, A9, _, by go_num, by rw [show (i + 1) * cols = t by rw [Nat.add_one_mul, HQ.out]; omega], rfl, by omega, by rw [HMI.out]; exact rfl, HN.out⟩
          case measure => simp [intOf]; omega
    · have hir : i = rows := by omega
      have HN := hide HST.out.sll
      rw [hir] at HN
      have HBB := hide HST.out.below
      clear HST
      go_wp2_with fail
      go_ret
      exact ⟨A, m, d, rfl, HN.out, HBB.out⟩
end Go.Proofs.YtgjblcfcbohjdaaDoor
