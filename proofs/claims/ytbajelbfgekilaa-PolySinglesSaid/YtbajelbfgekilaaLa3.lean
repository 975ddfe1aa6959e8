/- Package laurent: trimmed. -/
import Derived.Test.YtbajelbfgekilaaLa2
namespace Go.Proofs.Ytbajelbfgekilaa
set_option linter.unusedVariables false
set_option linter.unusedSimpArgs false
open Go.RowKit

/-- Both lie in the same block. -/
def SameBlk (A B : Option Addr) : Prop := ∃ ad ad', A = some ad ∧ B = some ad' ∧ ad'.block = ad.block
theorem SameBlk.new {w : World} {A B : Option Addr} {n m : Nat} (h : 0 < m → SameBlk A B) (hn : 0 < m → 0 < n) (hA : NewA w A n) : NewA w B m := fun hm ad e => by
  obtain ⟨a, b, e1, e2, e3⟩ := h hm
  rw [e] at e2
  injection e2 with e2
  rw [e2, e3]
  exact hA (hn hm) a e1

set_option maxRecDepth 100000 in
set_option maxHeartbeats 4000000 in
theorem trimmed_any (lo : Int) (A : Option Addr) (n c : Nat) (xs : List Int) (w : World) (ha : SL w A n c xs) (hlo : lo.natAbs ≤ 1000000) (hn : n ≤ 1000000) :
    Calls Try.prog 52 #[.int .i64 lo, .slice A n c] w fun e w' => ∃ B m d, e = .returned (PV (LP.canon (LP.of lo xs)).1 B m d) ∧ SL w' B m d (LP.canon (LP.of lo xs)).2 ∧ (0 < m → SameBlk A B) ∧ Below w.heap.size w w' := by
  have hln := ha.il.len
  have hcap := ha.cap
  have hin := ha.inside
  have HCAN : Hid (∀ l cs, LP.Cano l cs → LP.of l cs = LP.of lo xs → LP.canon (LP.of lo xs) = (l, cs)) := hide (fun lo cs h1 h2 => LP.canon_eq h1 h2)
  have HW0 : Hid (Below w.heap.size w (w.alloc (.cells #[.int .i64 0, .slice none 0 0] 24))) := hide ((Below.refl _ _).alloc (Nat.le_refl _) _)
  have HBK : Hid (Blk (w.alloc (.cells #[.int .i64 0, .slice none 0 0] 24)) w.heap.size 24 #[.int .i64 0, .slice none 0 0]) := hide (Blk.new _ _ _)
  have HSL := hide (ha.below HW0.out)
  have HIN := hide hin
  have hRL : Hid (xs.length = n) := hide hln
  clear ha hin
  generalize LP.canon (LP.of lo xs) = P at *
  go_enter Try.func52, Try.ntmps52
  go_upto_region 1 with fail
  obtain ⟨w0, hw0⟩ : ∃ x, w.alloc (.cells #[.int .i64 0, .slice none 0 0] 24) = x := ⟨_, rfl⟩
  rw [hw0] at HW0 HBK HSL ⊢
  clear hw0
  have hf0 := HBK.out.frozen 0
  have hf1 := HBK.out.frozen 1
  have hc0 := HBK.out.cell 0
  have hc1 := HBK.out.cell 1
  simp at hc0 hc1
  have hbw := HBK.out.lt
  go_loop [1] (fun cv => ∃ k : Nat, cv = .slice A k c ∧ k ≤ n ∧ Hid (∀ j, k ≤ j → j < n → xs.getD j 0 = 0)) (fun cv => lenV cv)
  case atStart => exact ⟨n, rfl, Nat.le_refl _, hide (fun j h1 h2 => absurd h2 (by omega))⟩
  case round =>
    obtain ⟨k, rfl, hk, HZT⟩ := hrel
    by_cases hk0 : k = 0
    · subst hk0
      have HP : Hid (P = (0, [])) := hide (HCAN.out 0 [] (.inl ⟨rfl, rfl⟩) (LP.of_zeros lo fun j hj => HZT.out j (Nat.zero_le _) (by rw [hRL.out] at hj; exact hj)))
      go_wp2_with fail
      refine wp_loop_rounds 1 ?_
      rw [rounds_succ]
      go_wp2_with fail
      refine bodyPost_ret (results_poly rfl _ rfl ((HBK.out.set_ 0 (.int .i64 0)).set_ 1 (.slice none 0 0))) rfl ?_
      rw [HP.out]
      exact ⟨none, 0, 0, rfl, SL.nil_ _, fun h => absurd h (by omega), (HW0.out.setCell (p := ⟨w.heap.size, 0, none⟩) (Nat.le_refl _) _).setCell (p := ⟨w.heap.size, 1, none⟩) (Nat.le_refl _) _⟩
    · obtain ⟨ad, hA, hcl⟩ := HSL.out.il.at_ (k := k - 1) (by omega)
      subst hA
      obtain ⟨y, hy⟩ : ∃ y, xs.getD (k - 1) 0 = y := ⟨_, rfl⟩
      rw [hy] at hcl
      have HY := hide hy
      have hmg2 : decide ((0 : Int) < (k : Int)) = true := decide_eq_true (by omega)
      have hp2 : ((k : Int) - 1).toNat = k - 1 := by omega
      clear hy
      by_cases hy0 : y = 0
      · have hye : (y == 0) = true := by simp [hy0]
        have HZT2 : Hid (∀ j, k - 1 ≤ j → j < n → xs.getD j 0 = 0) := hide (fun j h1 h2 => by
          by_cases e : j = k - 1
          · subst e; rw [HY.out]; exact hy0
          · exact HZT.out j (by omega) h2)
        clear hy0 HY
        go_wp2_with fail
        go_round
        case rel => exact ⟨k - 1, rfl, by omega, HZT2⟩
        case measure => simp [lenV]; omega
      · have hye : (y == 0) = false := by simpa using hy0
        have HE := hide (HSL.out.init_ (k := k) hk (by simp))
        have hab : ad.block < w.heap.size := HIN.out (by omega) ad rfl
        clear HSL
        go_wp2_with fail
        go_loop [0, 1] (fun lv cv => ∃ (i m d : Nat) (ad' : Addr), lv = .int .i64 (lo + i) ∧ cv = .slice (some ad') m d ∧ i + m = k ∧ SL w0 (some ad') m d ((xs.take k).drop i) ∧ ad'.block = ad.block ∧ 0 < m ∧ Hid (∀ j, j < i → xs.getD j 0 = 0)) (fun _ cv => lenV cv)
        case atStart => exact ⟨0, k, c, ad, by simp, rfl, by omega, by rw [List.drop_zero]; exact HE.out, rfl, by omega, hide (fun j hj => absurd hj (by omega))⟩
        case round =>
          clear HE hcl
          obtain ⟨i, m, d, ad', rfl, rfl, him, hsl, hblk, hm0, HZ⟩ := hrel
          have HSL := hide hsl
          have hmd := hsl.cap
          have HBLK := hide hblk
          clear hsl hblk
          obtain ⟨ad2, e2, hc⟩ := HSL.out.il.at_ (k := 0) hm0
          injection e2 with e2
          subst e2
          rw [show ad'.add 0 = ad' by unfold Addr.add; simp] at hc
          have hCi : ((xs.take k).drop i).getD 0 0 = xs.getD i 0 := by simp [List.getD, List.getElem?_take, show i < k by omega]
          rw [hCi] at hc
          have hmg : decide ((0 : Int) < (m : Int)) = true := decide_eq_true (by omega)
          obtain ⟨x, hx⟩ : ∃ x, xs.getD i 0 = x := ⟨_, rfl⟩
          rw [hx] at hc
          have HX := hide hx
          clear hx hCi
          by_cases hx0 : x = 0
          · have hxe : (x == 0) = true := by simp [hx0]
            have hm1 : 1 < m := by
              by_cases h : m = 1
              · have e1 := HY.out
                have e2 := HX.out
                rw [show k - 1 = i by omega, e2] at e1
                exact absurd (e1.symm.trans hx0) hy0
              · omega
            have hd1 : d ≠ 1 := by omega
            have HT : Hid (SL w0 (some ⟨ad'.block, ad'.off + 1, none⟩) (m - 1) (d - 1) ((xs.take k).drop (i + 1))) := hide (by
              have h := HSL.out.tail_ (by omega)
              rw [if_neg hd1] at h
              rwa [List.drop_drop] at h)
            have HZ2 : Hid (∀ j, j < i + 1 → xs.getD j 0 = 0) := hide (fun j hj => by
              by_cases e : j = i
              · subst e; rw [HX.out]; exact hx0
              · exact HZ.out j (by omega))
            clear hx0 HX hy0
            go_wp2_with fail
            go_round
            case rel => exact ⟨i + 1, m - 1, d - 1, _, by go_num, rfl, by omega, HT.out, HBLK.out, by omega, HZ2⟩
            case measure => simp [lenV]; omega
          · have hxe : (x == 0) = false := by simpa using hx0
            have hme : ((m : Int) == 0) = false := by simp; omega
            have hll : ((xs.take k).drop i).length = m := HSL.out.il.len
            have HP : Hid (P = (lo + i, (xs.take k).drop i)) := hide (HCAN.out _ _ (.inr ⟨fun e => by
              rw [e] at hll
              simp at hll
              omega, by
              rw [show ((xs.take k).drop i).getD 0 0 = xs.getD i 0 by simp [List.getD, List.getElem?_take, show i < k by omega], HX.out]
              exact hx0, by
              rw [hll]
              rw [show ((xs.take k).drop i).getD (m - 1) 0 = xs.getD (k - 1) 0 by simp [List.getD, List.getElem?_take, show k - 1 < k by omega, show i + (m - 1) = k - 1 by omega], HY.out]
              exact hy0⟩) (by
                have h := LP.of_trim (C := xs) lo (i := i) (m := m) (by rw [hRL.out]; omega) HZ.out (fun j h1 h2 => HZT.out j (by omega) (by rw [hRL.out] at h2; exact h2))
                rw [← h]
                congr 1
                rw [List.drop_take, show k - i = m by omega]))
            clear hx0 hy0 HX HY hll
            go_wp2_with fail
            refine bodyPost_ret (results_poly rfl _ rfl ((HBK.out.set_ 0 (.int .i64 (lo + i))).set_ 1 (.slice (some ad') m d))) rfl ?_
            rw [HP.out]
            refine ⟨some ad', m, d, rfl, ?_, fun _ => ⟨ad, ad', rfl, rfl, HBLK.out⟩, (HW0.out.setCell (p := ⟨w.heap.size, 0, none⟩) (Nat.le_refl _) _).setCell (p := ⟨w.heap.size, 1, none⟩) (Nat.le_refl _) _⟩
            have hblk := HBLK.out
            exact (HSL.out.setCell (fun _ a e => by injection e with e; subst e; omega) 0 _).setCell (fun _ a e => by injection e with e; subst e; omega) 1 _
end Go.Proofs.Ytbajelbfgekilaa
