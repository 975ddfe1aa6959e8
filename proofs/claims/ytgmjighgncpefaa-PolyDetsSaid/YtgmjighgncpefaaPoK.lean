/- timbmake.Poly. -/
import Derived.Test.YtgmjighgncpefaaPoC
import Derived.Test.YtgmjighgncpefaaBase
import Derived.Test.YtgmjighgncpefaaSmall2
import Derived.Deep.DeepCutAuto
namespace Go.Proofs.Ytgmjighgncpefaa
set_option linter.unusedVariables false
set_option linter.unusedSimpArgs false
open Go.RowKit

def lenV : Value → Nat
  | .slice _ n _ => n
  | _ => 0
def rawC (raw : List Int) : List Int := (raw.take 12).map fun x => x % 101 - 50
/-- The polynomial that raw numbers give. -/
noncomputable def mkP (low : Int) (raw : List Int) : LP := LP.of (low % 21 - 10) (rawC raw)

theorem LP.of_zeros {C : List Int} (lo : Int) (h : ∀ j, j < C.length → C.getD j 0 = 0) : LP.of 0 [] = LP.of lo C := LP.ext fun k => by
  rw [LP.co_of, LP.co_of]
  rw [if_neg (by simp only [List.length_nil]; omega)]
  split
  · next hk => rw [h _ (by omega)]
  · rfl
theorem LP.of_trim {C : List Int} (lo : Int) {i m : Nat} (him : i + m ≤ C.length) (h1 : ∀ j, j < i → C.getD j 0 = 0) (h2 : ∀ j, i + m ≤ j → j < C.length → C.getD j 0 = 0) : LP.of (lo + i) ((C.drop i).take m) = LP.of lo C := LP.ext fun k => by
  have hl : ((C.drop i).take m).length = m := by simp; omega
  rw [LP.co_of, LP.co_of, hl]
  by_cases hk : lo + i ≤ k ∧ k < lo + i + m
  · rw [if_pos hk, if_pos (by omega)]
    simp only [List.getD_eq_getElem?_getD, List.getElem?_take, List.getElem?_drop]
    rw [if_pos (by omega), show i + (k - (lo + i)).toNat = (k - lo).toNat by omega]
  · rw [if_neg hk]
    split
    · next h =>
      by_cases h3 : k < lo + i
      · exact (h1 _ (by omega)).symm
      · exact (h2 _ (by omega) (by omega)).symm
    · rfl
theorem SL.tail_ {w : World} {ad : Addr} {m d : Nat} {xs : List Int} (h : SL w (some ad) m d xs) (hm : 0 < m) : SL w (if d = 1 then some ad else some ⟨ad.block, ad.off + 1, none⟩) (m - 1) (d - 1) (xs.drop 1) := by
  have hc := h.cap
  have hl := h.il.len
  by_cases hd : d = 1
  · rw [if_pos hd]
    refine ⟨⟨by rw [List.length_drop]; omega, by have := h.il.small; omega, fun h0 => by omega⟩, fun e => (by cases e), by omega⟩
  · have h2 := h.il.cut (l := 1) (h := m) (by omega) (Nat.le_refl _) hc
    unfold cutA at h2
    rw [if_neg hd] at h2
    rw [if_neg hd]
    have e : (some ad).map (·.add 1) = some (⟨ad.block, ad.off + 1, none⟩ : Addr) := by simp [Addr.add]
    rw [e, List.take_of_length_le (by rw [List.length_drop]; omega)] at h2
    exact ⟨h2, fun e => (by cases e), by omega⟩
theorem SL.init_ {w : World} {A : Option Addr} {m d k : Nat} {xs : List Int} (h : SL w A m d xs) (hk : k ≤ m) (hA : A ≠ none) : SL w A k d (xs.take k) := ⟨h.il.pre hk, fun e => absurd e hA, by have := h.cap; omega⟩

set_option maxRecDepth 100000 in
set_option maxHeartbeats 4000000 in
theorem mpoly_any (R : Option Addr) (n c : Nat) (raw : List Int) (low : Int) (w : World) (ha : SL w R n c raw) :
    Calls Try.prog 14 #[.int .i64 low, .slice R n c] w (GivesP w (LP.canon (mkP low raw)).1 (LP.canon (mkP low raw)).2) := by
  obtain ⟨i0, hi0, hz0, hz1, hz2⟩ := info_parts int_info
  have HI0 := hide hi0
  have HZ0 := hide hz0
  have HZ1 := hide hz1
  have HZ2 := hide hz2
  have hns := ha.il.small
  have hln := ha.il.len
  have hcap := ha.cap
  obtain ⟨K, hK⟩ : ∃ K, min n 12 = K := ⟨_, rfl⟩
  have hKn : K ≤ n := by omega
  have hK12 : K ≤ 12 := by omega
  have hKo : n ≤ K ∨ 12 ≤ K := by omega
  have HIL := hide (ha.il.pre hKn)
  have HRC : Hid (rawC raw = (raw.take K).map fun x => x % 101 - 50) := hide (by
    unfold rawC
    rcases hKo with h | h
    · rw [List.take_of_length_le (by omega), List.take_of_length_le (l := raw) (i := K) (by omega)]
    · rw [show K = 12 by omega])
  have HMB := hide (fun (x : Int) (w : World) => mbelow_any x 101 w (by omega) (by omega))
  have HML := hide (fun (w : World) => mbelow_any low 21 w (by omega) (by omega))
  have hlo0 := Int.emod_nonneg low (show (21 : Int) ≠ 0 by omega)
  have hlo1 := Int.emod_lt_of_pos low (show (0 : Int) < 21 by omega)
  have HCAN : Hid (∀ lo cs, LP.Cano lo cs → LP.of lo cs = LP.of (low % 21 - 10) (rawC raw) → LP.canon (mkP low raw) = (lo, cs)) := hide (fun lo cs h1 h2 => LP.canon_eq h1 h2)
  clear ha hi0 hz0 hz1 hz2 hK
  generalize LP.canon (mkP low raw) = P at *
  go_enter Try.func14, Try.ntmps14
  go_upto_region 2 with fail
  go_cut [8, 9, 10, 11, 12, 13, 14] (fun _ _ _ _ v12 v13 v14 wx => v12 = .slice R K c ∧ v13 = .int .i64 K ∧ v14 = .int .i64 0 ∧ wx = w.alloc (.cells #[.int .i64 0, .slice none 0 0] 25))
  case first =>
    go_wp2_with fail
    · obtain rfl : K = 12 := by omega
      go_meet
      exact ⟨rfl, rfl, rfl, rfl⟩
    · obtain rfl : K = n := by omega
      go_meet
      exact ⟨rfl, rfl, rfl, rfl⟩
  case rest =>
    obtain ⟨rfl, rfl, rfl, rfl⟩ := hcut
    have HW0 : Hid (Below w.heap.size w (w.alloc (.cells #[.int .i64 0, .slice none 0 0] 25))) := hide ((Below.refl _ _).alloc (Nat.le_refl _) _)
    have HBK : Hid (Blk (w.alloc (.cells #[.int .i64 0, .slice none 0 0] 25)) w.heap.size 25 #[.int .i64 0, .slice none 0 0]) := hide (Blk.new _ _ _)
    replace HIL := hide (HIL.out.below HW0.out)
    have hsz0 : (w.alloc (.cells #[.int .i64 0, .slice none 0 0] 25)).heap.size = w.heap.size + 1 := by simp
    generalize w.alloc (.cells #[.int .i64 0, .slice none 0 0] 25) = w0 at *
    obtain ⟨cs, hcs⟩ : ∃ cs : Nat → List Int, (fun k => ((raw.take K).take k).map fun x : Int => x % 101 - 50) = cs := ⟨_, rfl⟩
    have hcsi : ∀ k, ((raw.take K).take k).map (fun x : Int => x % 101 - 50) = cs k := fun k => by rw [← hcs]
    have HCL : Hid (∀ k, k ≤ K → (cs k).length = k) := hide (fun k hk => by rw [← hcsi]; simp; omega)
    have HCS : Hid (∀ k, k < K → cs (k + 1) = cs k ++ [(raw.take K).getD k 0 % 101 - 50]) := hide (fun k hk => by
      have hkl : k < (raw.take K).length := by rw [List.length_take]; omega
      rw [← hcsi, ← hcsi, List.take_succ_eq_append_getElem hkl, List.map_append]
      simp [List.getD, List.getElem?_eq_getElem hkl])
    have HCE : Hid (cs K = rawC raw) := hide (by
      rw [HRC.out, ← hcsi, List.take_of_length_le (i := K) (l := raw.take K) (by rw [List.length_take]; omega)])
    have HC0 : Hid (cs 0 = []) := hide (by rw [← hcsi]; rfl)
    clear hcs hcsi
    go_wp2_with fail
    go_loopw [5, 14] (fun cv iv wr => ∃ (k d : Nat) (A : Option Addr), iv = .int .i64 k ∧ k ≤ K ∧ cv = .slice A k d ∧ OwnI wr w0.heap.size A k d (cs k) ∧ Below w0.heap.size w0 wr) (fun _ iv _ => K - (intOf iv).toNat)
    case atStart => exact ⟨0, 0, none, rfl, Nat.zero_le _, rfl, by rw [HC0.out]; exact OwnI.nil_ _ _, Below.refl _ _⟩
    case round =>
      obtain ⟨k, d, A, rfl, hk, rfl, ho, hb⟩ := hrel
      have HO := hide ho
      have HB := hide hb
      have hbs := hb.size
      clear ho hb
      by_cases hlt : k < K
      · obtain ⟨ad, rfl, hx⟩ := (HIL.out.below HB.out).at_ hlt
        have HN := hide (HCS.out k hlt)
        generalize (raw.take K).getD k 0 = x at *
        have hx0 := Int.emod_nonneg x (show (101 : Int) ≠ 0 by omega)
        have hx1 := Int.emod_lt_of_pos x (show (0 : Int) < 101 by omega)
        go_wp2_with fail
        refine (HMB.out x _).mono ?_
        rintro e w' ⟨rfl, rfl⟩
        go_wp2_with (at_builtin; refine wpList_append_int _ rfl (.tmp 18) (.tmp 22) 23 rfl w0.heap.size i0 Try.underlying23 HI0.out HZ0.out HZ1.out HZ2.out A k d (cs k) rfl (HO.out.alloc _) (some ⟨_, 0, none⟩) 1 1 [x % 101 - 50] rfl (IL.lit _ [x % 101 - 50] (by simp) rfl rfl) (by omega) (by simp; omega) ?_; intro A8 c8 w8 hap)
        have hN := hap.own
        rw [← HN.out] at hN
        have hb8 := (HB.out.alloc hbs (.cells #[.int .i64 (x % 101 - 50)] 3)).grown hap.grown (by simp; omega) (fun j hj => (HO.out.lt j (by rw [ownBlock_len A k (k + 1) d d]; exact hj)).1)
        clear hap
        go_roundw
        case rel => exact ⟨k + 1, c8, A8, by go_num, by omega, rfl, hN, hb8⟩
        case measure => simp [intOf]; omega
      · have hkK : k = K := by omega
        have HSL := hide HO.out.sl
        have hnew : NewA w0 A k := fun h ad e => by
          have := (HO.out.lt ad.block (by rw [e]; rfl)).1
          exact this
        have HNEW := hide hnew
        rw [hkK, HCE.out] at HSL
        rw [hkK] at HNEW
        have hRL : Hid ((rawC raw).length = K) := hide (by rw [← HCE.out, HCL.out K (Nat.le_refl _)])
        have hkd : K ≤ d := HSL.out.cap
        subst hkK
        clear HO HCL HCS HCE HC0 hnew HIL
        generalize rawC raw = C at *
        go_wp2_with fail
        refine (HML.out _).mono ?_
        rintro e w' ⟨rfl, rfl⟩
        obtain ⟨l0, hl0⟩ : ∃ l0 : Int, low % 21 - 10 = l0 := ⟨_, rfl⟩
        go_wp2_with fail
        rw [hl0] at HCAN
        have hl1 : -10 ≤ l0 := by omega
        have hl2 : l0 ≤ 10 := by omega
        clear hlo0 hlo1 hl0 HML
        go_loop [0, 5] (fun lv cv => ∃ (i m d : Nat) (A : Option Addr), lv = .int .i64 (l0 + i) ∧ cv = .slice A m d ∧ i + m = k ∧ SL wr A m d (C.drop i) ∧ NewA w0 A m ∧ Hid (∀ j, j < i → C.getD j 0 = 0)) (fun _ cv => lenV cv)
        case atStart => exact ⟨0, k, d, A, by simp, rfl, by omega, by rw [List.drop_zero]; exact HSL.out, HNEW.out, fun j hj => absurd hj (by omega)⟩
        case round =>
          clear HSL HNEW
          obtain ⟨i, m, d, A, rfl, rfl, him, hsl, hnew, HZ⟩ := hrel
          have HSL := hide hsl
          have HNEW := hide hnew
          have hmd := hsl.cap
          clear hsl hnew
          have hbk := HBK.out.below HB.out (by omega)
          have hf0 := hbk.frozen 0
          have hf1 := hbk.frozen 1
          have hc0 := hbk.cell 0
          have hc1 := hbk.cell 1
          simp at hc0 hc1
          have HBR := hide hbk
          have hbw : w.heap.size < wr.heap.size := by omega
          have HBW := hide (HW0.out.trans (HB.out.mono (by omega)))
          clear hbk
          by_cases hm0 : m = 0
          · subst hm0
            have HP : Hid (P = (0, [])) := hide (HCAN.out 0 [] (.inl ⟨rfl, rfl⟩) (LP.of_zeros l0 fun j hj => HZ.out j (by rw [hRL.out] at hj; omega)))
            go_wp2_with fail
            refine wp_loop_rounds 1 ?_
            rw [rounds_succ]
            go_wp2_with fail
            refine bodyPost_ret (results_poly rfl _ rfl ((HBR.out.set_ 0 (.int .i64 0)).set_ 1 (.slice none 0 0))) rfl ?_
            rw [HP.out]
            exact ⟨none, 0, 0, rfl, SL.nil_ _, fun h => absurd h (by omega), (HBW.out.setCell (p := ⟨w.heap.size, 0, none⟩) (Nat.le_refl _) _).setCell (p := ⟨w.heap.size, 1, none⟩) (Nat.le_refl _) _⟩
          · obtain ⟨ad, rfl, hc⟩ := HSL.out.il.at_ (k := 0) (by omega)
            rw [show ad.add 0 = ad by unfold Addr.add; simp] at hc
            have hCi : (C.drop i).getD 0 0 = C.getD i 0 := by simp [List.getD]
            rw [hCi] at hc
            have hmg : decide ((0 : Int) < (m : Int)) = true := decide_eq_true (by omega)
            obtain ⟨x, hx⟩ : ∃ x, C.getD i 0 = x := ⟨_, rfl⟩
            rw [hx] at hc
            have HX := hide hx
            clear hx hCi
            by_cases hx0 : x = 0
            · have hxe : (x == 0) = true := by simp [hx0]
              have HT : Hid (SL wr (if d = 1 then some ad else some ⟨ad.block, ad.off + 1, none⟩) (m - 1) (d - 1) (C.drop (i + 1))) := hide (by
                have h := HSL.out.tail_ (by omega)
                rwa [List.drop_drop] at h)
              have HN : Hid (NewA w0 (if d = 1 then some ad else some ⟨ad.block, ad.off + 1, none⟩) (m - 1)) := hide (fun h a e => by
                have h2 := HNEW.out (by omega) ad rfl
                split at e <;> injection e with e <;> subst e <;> exact h2)
              have HZ2 : Hid (∀ j, j < i + 1 → C.getD j 0 = 0) := hide (fun j hj => by
                by_cases e : j = i
                · subst e; rw [HX.out]; exact hx0
                · exact HZ.out j (by omega))
              clear hx0 HX
              go_wp2_with fail
              go_round
              case rel => exact ⟨i + 1, m - 1, d - 1, _, by go_num, rfl, by omega, HT.out, HN.out, HZ2⟩
              case measure => simp [lenV]; omega
            · have hxe : (x == 0) = false := by simpa using hx0
              go_wp2_with fail
              go_loop [5] (fun cv => ∃ m' : Nat, cv = .slice (some ad) m' d ∧ 0 < m' ∧ m' ≤ m ∧ Hid (∀ j, i + m' ≤ j → j < k → C.getD j 0 = 0)) (fun cv => lenV cv)
              case atStart => exact ⟨m, rfl, by omega, Nat.le_refl _, fun j h1 h2 => absurd h2 (by omega)⟩
              case round =>
                obtain ⟨m', rfl, hm1, hm2, HZT⟩ := hrel
                obtain ⟨ad', e, hcl⟩ := HSL.out.il.at_ (k := m' - 1) (by omega)
                injection e with e
                subst e
                have hCl : (C.drop i).getD (m' - 1) 0 = C.getD (i + (m' - 1)) 0 := by simp [List.getD]
                rw [hCl] at hcl
                obtain ⟨y, hy⟩ : ∃ y, C.getD (i + (m' - 1)) 0 = y := ⟨_, rfl⟩
                rw [hy] at hcl
                have HY := hide hy
                have hmg2 : decide ((0 : Int) < (m' : Int)) = true := decide_eq_true (by omega)
                have hp2 : ((m' : Int) - 1).toNat = m' - 1 := by omega
                clear hy hCl
                by_cases hy0 : y = 0
                · have hye : (y == 0) = true := by simp [hy0]
                  have hm3 : 1 < m' := by
                    by_cases h : m' = 1
                    · subst h
                      have e1 := HY.out
                      have e2 := HX.out
                      rw [show i + (1 - 1) = i by omega] at e1
                      rw [e1] at e2
                      exact absurd (e2.symm.trans hy0) hx0
                    · omega
                  have HZT2 : Hid (∀ j, i + (m' - 1) ≤ j → j < k → C.getD j 0 = 0) := hide (fun j h1 h2 => by
                    by_cases e : j = i + (m' - 1)
                    · subst e; rw [HY.out]; exact hy0
                    · exact HZT.out j (by omega) h2)
                  clear hy0 HY
                  go_wp2_with fail
                  go_round
                  case rel => exact ⟨m' - 1, rfl, by omega, by omega, HZT2⟩
                  case measure => simp [lenV]; omega
                · have hye : (y == 0) = false := by simpa using hy0
                  have hme : ((m' : Int) == 0) = false := by simp; omega
                  have HE := hide (HSL.out.init_ (k := m') hm2 (by simp))
                  have HP : Hid (P = (l0 + i, (C.drop i).take m')) := hide (HCAN.out _ _ (.inr ⟨fun e => by
                    have := congrArg List.length e
                    rw [List.length_take, List.length_drop, hRL.out] at this
                    simp at this
                    omega, by
                    rw [show ((C.drop i).take m').getD 0 0 = C.getD i 0 by simp [List.getD, List.getElem?_take, hm1], HX.out]
                    exact hx0, by
                    rw [List.length_take, List.length_drop, hRL.out, show min m' (k - i) = m' by omega]
                    rw [show ((C.drop i).take m').getD (m' - 1) 0 = C.getD (i + (m' - 1)) 0 by simp [List.getD, List.getElem?_take, show m' - 1 < m' by omega], HY.out]
                    exact hy0⟩) (LP.of_trim l0 (by rw [hRL.out]; omega) HZ.out fun j h1 h2 => HZT.out j h1 (by rw [hRL.out] at h2; exact h2)))
                  clear hx0 hy0 HX HY
                  go_wp2_with fail
                  refine bodyPost_ret (results_poly rfl _ rfl ((HBR.out.set_ 0 (.int .i64 (l0 + i))).set_ 1 (.slice (some ad) m' d))) rfl ?_
                  rw [HP.out]
                  have hnw : ∀ a, some ad = some a → w0.heap.size ≤ a.block := HNEW.out (by omega)
                  have hab := hnw ad rfl
                  refine ⟨some ad, m', d, rfl, ?_, fun _ a e => by have := hnw a e; omega, (HBW.out.setCell (p := ⟨w.heap.size, 0, none⟩) (Nat.le_refl _) _).setCell (p := ⟨w.heap.size, 1, none⟩) (Nat.le_refl _) _⟩
                  exact (HE.out.setCell (fun _ a e => by injection e with e; subst e; omega) 0 _).setCell (fun _ a e => by injection e with e; subst e; omega) 1 _
end Go.Proofs.Ytgmjighgncpefaa
