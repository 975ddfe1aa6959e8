/- Several texts in one. -/
import Derived.Test.YtndgffiihbdppaaPart13
/- Package laurent: trimmed. -/
namespace Go.Proofs.Ytndgffiihbdppaa
set_option linter.unusedVariables false
set_option linter.unusedSimpArgs false
open Go.RowKit

/-- Both lie in the same block. -/
def SameBlk (A B : Option Addr) : Prop := ∃ ad ad', A = some ad ∧ B = some ad' ∧ ad'.block = ad.block
theorem SameBlk.new {w : World} {A B : Option Addr} {n m : Nat} (h : 0 < m → SameBlk A B) (hn : 0 < m → 0 < n) (hA : NewA w A n) : NewA w B m := fun hm ad e => by
  obtain ⟨a, b, e1, e2, e3⟩ := h hm
  rw [e] at e2
  injection e2 with e2
  rw [e2, e3]
  exact hA (hn hm) a e1

set_option maxRecDepth 100000 in
set_option maxHeartbeats 4000000 in
theorem trimmed_any (lo : Int) (A : Option Addr) (n c : Nat) (xs : List Int) (w : World) (ha : SL w A n c xs) (hlo : lo.natAbs ≤ 1000000) (hn : n ≤ 1000000) :
    Calls Try.prog 86 #[.int .i64 lo, .slice A n c] w fun e w' => ∃ B m d, e = .returned (PV (LP.canon (LP.of lo xs)).1 B m d) ∧ SL w' B m d (LP.canon (LP.of lo xs)).2 ∧ (0 < m → SameBlk A B) ∧ Below w.heap.size w w' := by
  have hln := ha.il.len
  have hcap := ha.cap
  have hin := ha.inside
  have HCAN : Hid (∀ l cs, LP.Cano l cs → LP.of l cs = LP.of lo xs → LP.canon (LP.of lo xs) = (l, cs)) := hide (fun lo cs h1 h2 => LP.canon_eq h1 h2)
  have HW0 : Hid (Below w.heap.size w (w.alloc (.cells #[.int .i64 0, .slice none 0 0] 36))) := hide ((Below.refl _ _).alloc (Nat.le_refl _) _)
  have HBK : Hid (Blk (w.alloc (.cells #[.int .i64 0, .slice none 0 0] 36)) w.heap.size 36 #[.int .i64 0, .slice none 0 0]) := hide (Blk.new _ _ _)
  have HSL := hide (ha.below HW0.out)
  have HIN := hide hin
  have hRL : Hid (xs.length = n) := hide hln
  clear ha hin
  generalize LP.canon (LP.of lo xs) = P at *
  go_enter Try.func86, Try.ntmps86
  go_upto_region 1 with fail
  obtain ⟨w0, hw0⟩ : ∃ x, w.alloc (.cells #[.int .i64 0, .slice none 0 0] 36) = x := ⟨_, rfl⟩
  rw [hw0] at HW0 HBK HSL ⊢
  clear hw0
  have hf0 := HBK.out.frozen 0
  have hf1 := HBK.out.frozen 1
  have hc0 := HBK.out.cell 0
  have hc1 := HBK.out.cell 1
  simp at hc0 hc1
  have hbw := HBK.out.lt
  go_loop [1] (fun cv => ∃ k : Nat, cv = .slice A k c ∧ k ≤ n ∧ Hid (∀ j, k ≤ j → j < n → xs.getD j 0 = 0)) (fun cv => lenV cv)
  case atStart => exact ⟨n, rfl, Nat.le_refl _, hide (fun j h1 h2 => absurd h2 (by omega))⟩
  case round =>
    obtain ⟨k, rfl, hk, HZT⟩ := hrel
    by_cases hk0 : k = 0
    · subst hk0
      have HP : Hid (P = (0, [])) := hide (HCAN.out 0 [] (.inl ⟨rfl, rfl⟩) (LP.of_zeros lo fun j hj => HZT.out j (Nat.zero_le _) (by rw [hRL.out] at hj; exact hj)))
      go_wp2_with fail
      refine wp_loop_rounds 1 ?_
      rw [rounds_succ]
      go_wp2_with fail
      refine bodyPost_ret (results_poly rfl _ rfl ((HBK.out.set_ 0 (.int .i64 0)).set_ 1 (.slice none 0 0))) rfl ?_
      rw [HP.out]
      exact ⟨none, 0, 0, rfl, SL.nil_ _, fun h => absurd h (by omega), (HW0.out.setCell (p := ⟨w.heap.size, 0, none⟩) (Nat.le_refl _) _).setCell (p := ⟨w.heap.size, 1, none⟩) (Nat.le_refl _) _⟩
    · obtain ⟨ad, hA, hcl⟩ := HSL.out.il.at_ (k := k - 1) (by omega)
      subst hA
      obtain ⟨y, hy⟩ : ∃ y, xs.getD (k - 1) 0 = y := ⟨_, rfl⟩
      rw [hy] at hcl
      have HY := hide hy
      have hmg2 : decide ((0 : Int) < (k : Int)) = true := decide_eq_true (by omega)
      have hp2 : ((k : Int) - 1).toNat = k - 1 := by omega
      clear hy
      by_cases hy0 : y = 0
      · have hye : (y == 0) = true := by simp [hy0]
        have HZT2 : Hid (∀ j, k - 1 ≤ j → j < n → xs.getD j 0 = 0) := hide (fun j h1 h2 => by
          by_cases e : j = k - 1
          · subst e; rw [HY.out]; exact hy0
          · exact HZT.out j (by omega) h2)
        clear hy0 HY
        go_wp2_with fail
        go_round
        case rel => exact ⟨k - 1, rfl, by omega, HZT2⟩
        case measure => simp [lenV]; omega
      · have hye : (y == 0) = false := by simpa using hy0
        have HE := hide (HSL.out.init_ (k := k) hk (by simp))
        have hab : ad.block < w.heap.size := HIN.out (by omega) ad rfl
        clear HSL
        go_wp2_with fail
        go_loop [0, 1] (fun lv cv => ∃ (i m d : Nat) (ad' : Addr), lv = .int .i64 (lo + i) ∧ cv = .slice (some ad') m d ∧ i + m = k ∧ SL w0 (some ad') m d ((xs.take k).drop i) ∧ ad'.block = ad.block ∧ 0 < m ∧ Hid (∀ j, j < i → xs.getD j 0 = 0)) (fun _ cv => lenV cv)
        case atStart => exact ⟨0, k, c, ad, by simp, rfl, by omega, by rw [List.drop_zero]; exact HE.out, rfl, by omega, hide (fun j hj => absurd hj (by omega))⟩
        case round =>
          clear HE hcl
          obtain ⟨i, m, d, ad', rfl, rfl, him, hsl, hblk, hm0, HZ⟩ := hrel
          have HSL := hide hsl
          have hmd := hsl.cap
          have HBLK := hide hblk
          clear hsl hblk
          obtain ⟨ad2, e2, hc⟩ := HSL.out.il.at_ (k := 0) hm0
          injection e2 with e2
          subst e2
          rw [show ad'.add 0 = ad' by unfold Addr.add; simp] at hc
          have hCi : ((xs.take k).drop i).getD 0 0 = xs.getD i 0 := by simp [List.getD, List.getElem?_take, show i < k by omega]
          rw [hCi] at hc
          have hmg : decide ((0 : Int) < (m : Int)) = true := decide_eq_true (by omega)
          obtain ⟨x, hx⟩ : ∃ x, xs.getD i 0 = x := ⟨_, rfl⟩
          rw [hx] at hc
          have HX := hide hx
          clear hx hCi
          by_cases hx0 : x = 0
          · have hxe : (x == 0) = true := by simp [hx0]
            have hm1 : 1 < m := by
              by_cases h : m = 1
              · have e1 := HY.out
                have e2 := HX.out
                rw [show k - 1 = i by omega, e2] at e1
                exact absurd (e1.symm.trans hx0) hy0
              · omega
            have hd1 : d ≠ 1 := by omega
            have HT : Hid (SL w0 (some ⟨ad'.block, ad'.off + 1, none⟩) (m - 1) (d - 1) ((xs.take k).drop (i + 1))) := hide (by
              have h := HSL.out.tail_ (by omega)
              rw [if_neg hd1] at h
              rwa [List.drop_drop] at h)
            have HZ2 : Hid (∀ j, j < i + 1 → xs.getD j 0 = 0) := hide (fun j hj => by
              by_cases e : j = i
              · subst e; rw [HX.out]; exact hx0
              · exact HZ.out j (by omega))
            clear hx0 HX hy0
            go_wp2_with fail
            go_round
            case rel => exact ⟨i + 1, m - 1, d - 1, _, by go_num, rfl, by omega, HT.out, HBLK.out, by omega, HZ2⟩
            case measure => simp [lenV]; omega
          · have hxe : (x == 0) = false := by simpa using hx0
            have hme : ((m : Int) == 0) = false := by simp; omega
            have hll : ((xs.take k).drop i).length = m := HSL.out.il.len
            have HP : Hid (P = (lo + i, (xs.take k).drop i)) := hide (HCAN.out _ _ (.inr ⟨fun e => by
              rw [e] at hll
              simp at hll
              omega, by
              rw [show ((xs.take k).drop i).getD 0 0 = xs.getD i 0 by simp [List.getD, List.getElem?_take, show i < k by omega], HX.out]
              exact hx0, by
              rw [hll]
              rw [show ((xs.take k).drop i).getD (m - 1) 0 = xs.getD (k - 1) 0 by simp [List.getD, List.getElem?_take, show k - 1 < k by omega, show i + (m - 1) = k - 1 by omega], HY.out]
              exact hy0⟩) (by
                have h := LP.of_trim (C := xs) lo (i := i) (m := m) (by rw [hRL.out]; omega) HZ.out (fun j h1 h2 => HZT.out j (by omega) (by rw [hRL.out] at h2; exact h2))
                rw [← h]
                congr 1
                rw [List.drop_take, show k - i = m by omega]))
            clear hx0 hy0 HX HY hll
            go_wp2_with fail
            refine bodyPost_ret (results_poly rfl _ rfl ((HBK.out.set_ 0 (.int .i64 (lo + i))).set_ 1 (.slice (some ad') m d))) rfl ?_
            rw [HP.out]
            refine ⟨some ad', m, d, rfl, ?_, fun _ => ⟨ad, ad', rfl, rfl, HBLK.out⟩, (HW0.out.setCell (p := ⟨w.heap.size, 0, none⟩) (Nat.le_refl _) _).setCell (p := ⟨w.heap.size, 1, none⟩) (Nat.le_refl _) _⟩
            have hblk := HBLK.out
            exact (HSL.out.setCell (fun _ a e => by injection e with e; subst e; omega) 0 _).setCell (fun _ a e => by injection e with e; subst e; omega) 1 _
end Go.Proofs.Ytndgffiihbdppaa
/- Package laurent: collect. -/
namespace Go.Proofs.Ytndgffiihbdppaa
set_option linter.unusedVariables false
set_option linter.unusedSimpArgs false
open Go.RowKit

/-- A function value that answers F at the exponents from lo on, below hi, in each world that keeps what w has below base. -/
structure AnsI (P : Program) (fid : FuncId) (caps : List Value) (base : Nat) (w : World) (lo hi : Int) (F : Int → Int) : Prop where
  ent : ∀ args w, (callFunc fid args).run P w = .ok (.enter fid args) w
  call : ∀ w', Below base w w' → ∀ e : Int, lo ≤ e → e < hi → Calls P fid (.int .i64 e :: caps).toArray w' fun r w'' => r = .returned (.int .i64 (F e)) ∧ Below w'.heap.size w' w''
/-- The first k of n cells are set. -/
def collK (n : Nat) (f : Nat → Int) (k : Nat) : List Int := (List.range n).map fun j => if j < k then f j else 0
theorem collK_length (n : Nat) (f : Nat → Int) (k : Nat) : (collK n f k).length = n := by simp [collK]
theorem collK_zero (n : Nat) (f : Nat → Int) : collK n f 0 = List.replicate n 0 := by
  refine List.ext_getElem (by simp [collK]) fun i h1 h2 => ?_
  simp [collK]
theorem collK_set {n : Nat} (f : Nat → Int) {k : Nat} (hk : k < n) : (collK n f k).set k (f k) = collK n f (k + 1) := by
  refine List.ext_getElem (by simp [collK]) fun i h1 h2 => ?_
  rw [List.getElem_set]
  simp only [collK, List.getElem_map, List.getElem_range]
  by_cases h : k = i
  · subst h; simp
  · rw [if_neg h]
    by_cases h3 : i < k
    · rw [if_pos h3, if_pos (by omega)]
    · rw [if_neg h3, if_neg (by omega)]
theorem collK_getD {n : Nat} (f : Nat → Int) {k j : Nat} (hj : j < n) : (collK n f k).getD j 0 = if j < k then f j else 0 := by simp [collK, List.getD, hj]
theorem collK_of {n : Nat} {z : LP} {lo : Int} (hz : ∀ k, LP.co z k ≠ 0 → lo ≤ k ∧ k < lo + n) : LP.of lo (collK n (fun j => LP.co z (lo + j)) n) = z := LP.ext fun k => by
  rw [LP.co_of, collK_length]
  by_cases h : lo ≤ k ∧ k < lo + n
  · rw [if_pos h, collK_getD _ (by omega), if_pos (by omega), show lo + ((k - lo).toNat : Int) = k by omega]
  · rw [if_neg h]
    by_cases h0 : LP.co z k = 0
    · exact h0.symm
    · exact absurd (hz k h0) h

set_option maxRecDepth 100000 in
set_option maxHeartbeats 4000000 in
theorem collect_any {fid : FuncId} {caps : List Value} (lo : Int) (n : Nat) (z : LP) (w : World) (H : AnsI Try.prog fid caps w.heap.size w lo (lo + n) (LP.co z)) (hz : ∀ k, LP.co z k ≠ 0 → lo ≤ k ∧ k < lo + n) (hlo : lo.natAbs ≤ 100000) (hn : n ≤ 100000) :
    Calls Try.prog 60 #[.int .i64 lo, .int .i64 (lo + n), .func (.func fid) #[] caps.toArray] w (GivesPE w (LP.fit z)) := by
  obtain ⟨i0, hi0, hz0, hz1, hz2⟩ := info_parts int_info
  have HF : Hid (LP.fit z = LP.fitL (LP.canon z).1 (LP.canon z).2) := hide rfl
  have HOF := hide (collK_of (n := n) hz)
  have HCA := hide H.call
  have hent := H.ent
  have HW0 : Hid (Below w.heap.size w (w.alloc (.cells #[.int .i64 0, .slice none 0 0] 36))) := hide ((Below.refl _ _).alloc (Nat.le_refl _) _)
  have HBK : Hid (Blk (w.alloc (.cells #[.int .i64 0, .slice none 0 0] 36)) w.heap.size 36 #[.int .i64 0, .slice none 0 0]) := hide (Blk.new _ _ _)
  have hwn : IntKind.i64.wrap (lo + (n : Int) - lo) = n := by rw [IntKind.wrap_i64]; omega
  clear H hz
  generalize LP.fit z = R at *
  go_enter Try.func60, Try.ntmps60
  go_upto_region 1 with fail
  obtain ⟨w0, hw0⟩ : ∃ x, w.alloc (.cells #[.int .i64 0, .slice none 0 0] 36) = x := ⟨_, rfl⟩
  have hs0 : w0.heap.size = w.heap.size + 1 := by rw [← hw0]; simp
  rw [hw0] at HW0 HBK ⊢
  clear hw0
  go_wp2_with (at_make; refine wpList_make_full _ rfl _ _ 22 rfl (w.heap.size + 1) 3 i0 (.int .i64 0) 1 Try.underlying22 hi0 hz0 hz1 .i64 .i64 _ _ n rfl rfl rfl rfl (by rw [hz2]; omega) (by unfold maxLen; omega) (by rw [hs0]; exact Nat.le_refl _) ?_; intro w2 hown2 hg2)
  have hB2 : Below w.heap.size w w2 := HW0.out.trans ((Below.refl _ _).grown hg2 HW0.out.size (by intro k hk; cases hk))
  have hown3 := OwnI.zero (z := #[]) hown2 (by omega)
  have hbk2 := HBK.out.grown hg2 (by simp)
  have HO := hide hown3
  have HB := hide hB2
  have HK := hide hbk2
  clear hown2 hg2 hB2 hown3 hbk2 HBK HW0 hz0 hz1 hz2 hi0
  rw [hs0] at HO
  obtain ⟨g, hg⟩ : ∃ g, w.heap.size + 1 = g := ⟨_, rfl⟩
  rw [hg] at HO ⊢
  clear hs0
  go_loopw [16] (fun iv wr => ∃ k : Nat, k ≤ n ∧ iv = .int .i64 k ∧ OwnI wr g (some ⟨g, 0, none⟩) n n (collK n (fun j => LP.co z (lo + j)) k) ∧ Blk wr w.heap.size 36 #[.int .i64 0, .slice none 0 0] ∧ Below w.heap.size w wr) (fun iv _ => n - (intOf iv).toNat)
  case atStart => exact ⟨0, Nat.zero_le _, rfl, by rw [collK_zero]; exact HO.out, HK.out, HB.out⟩
  case round =>
    clear HO HK HB
    obtain ⟨k, hk, rfl, ho, hbk, hb⟩ := hrel
    have HO := hide ho
    have HK := hide hbk
    have HB := hide hb
    clear ho hbk hb
    by_cases hlt : k < n
    · have HC := hide (HCA.out wr HB.out (lo + k) (by omega) (by omega))
      have HS := hide (collK_set (n := n) (fun j => LP.co z (lo + j)) hlt)
      obtain ⟨y, hy⟩ : ∃ y, LP.co z (lo + k) = y := ⟨_, rfl⟩
      have HS2 : Hid ((collK n (fun j => LP.co z (lo + j)) k).set k y = collK n (fun j => LP.co z (lo + j)) (k + 1)) := hide (by rw [← hy]; exact HS.out)
      rw [hy] at HC
      clear HS hy
      have hwl : IntKind.i64.wrap (lo + (k : Int)) = lo + k := by rw [IntKind.wrap_i64]; omega
      go_wp2_with fail
      refine HC.out.mono ?_
      rintro e w1 ⟨rfl, hb⟩
      have HO1 := hide (HO.out.below hb)
      have HK1 := hide (HK.out.below hb HK.out.lt)
      have HB1 := hide (HB.out.trans (hb.mono HB.out.size))
      clear hb HO HK HB HC
      have hcell := HO1.out.cell hlt
      have hfr := HO1.out.frozen k
      have HN := HO1.out.set_ k y
      rw [HS2.out] at HN
      have HN := hide HN
      have hgl : w.heap.size < g := by omega
      have HKn := hide (HK1.out.far (p := ⟨g, k, none⟩) (show w.heap.size ≠ g by omega) (.int .i64 y))
      have HBn := hide (HB1.out.setCell (p := ⟨g, k, none⟩) (show w.heap.size ≤ g by omega) (.int .i64 y))
      generalize (collK n (fun j => LP.co z (lo + j)) k).getD k 0 = y0 at *
      clear HO1 HK1 HB1 HS2
      go_wp2_with fail
      go_roundw
      case rel => exact ⟨k + 1, by omega, by go_num, HN.out, HKn.out, HBn.out⟩
      case measure => simp [intOf]; omega
    · have hkn : k = n := by omega
      have hsl := HO.out.sl
      rw [hkn] at hsl
      have HSL := hide hsl
      subst hkn
      clear HO HCA hsl
      have hf0 := HK.out.frozen 0
      have hf1 := HK.out.frozen 1
      have hc0 := HK.out.cell 0
      have hc1 := HK.out.cell 1
      simp at hc0 hc1
      have hbw := HK.out.lt
      have HT := hide (trimmed_any lo (some ⟨g, 0, none⟩) k k _ wr HSL.out (by omega) (by omega))
      rw [HOF.out] at HT
      generalize LP.canon z = C at *
      go_wp2_with fail
      refine HT.out.mono ?_
      rintro e w1 ⟨B, m, d, rfl, hsl, hbl, hb⟩
      have HSL1 := hide hsl
      have HBL := hide hbl
      have HB1 := hide (HB.out.trans (hb.mono HB.out.size))
      have HK1 := hide (HK.out.below hb HK.out.lt)
      clear hsl hbl hb HB HK HT hf0 hf1 hc0 hc1 hbw HSL
      go_wp2_with fail
      refine (accepted_any C.1 B m d C.2 w1 HSL1.out).mono ?_
      rintro e w2 ⟨B2, m2, d2, rfl, hsl, hbl, hb⟩
      rw [← HF.out] at hsl ⊢
      have HSL2 := hide hsl
      have HBL2 := hide hbl
      have HB2 := hide (HB1.out.trans (hb.mono HB1.out.size))
      have HK2 := hide (HK1.out.below hb HK1.out.lt)
      clear hsl hbl hb HB1 HK1 HSL1
      have hf0 := HK2.out.frozen 0
      have hf1 := HK2.out.frozen 1
      have hc0 := HK2.out.cell 0
      have hc1 := HK2.out.cell 1
      simp at hc0 hc1
      have hbw := HK2.out.lt
      have HFAR : Hid (0 < m2 → ∀ ad, B2 = some ad → w.heap.size < ad.block) := hide (fun h ad e => by
        obtain ⟨h1, h2⟩ := HBL2.out h
        obtain ⟨a, b, e1, e2, e3⟩ := HBL.out (by omega)
        rw [h1, e2] at e
        injection e with e
        injection e1 with e1
        rw [← e, e3, ← e1]
        show w.heap.size < g
        omega)
      clear HBL HBL2 HOF
      obtain ⟨e0, l0, c0⟩ := R
      go_wp2_with fail
      refine bodyPost_ret (results_pe rfl _ rfl rfl ((HK2.out.set_ 0 (.int .i64 l0)).set_ 1 (.slice B2 m2 d2))) rfl ?_
      refine ⟨B2, m2, d2, rfl, ?_, fun h ad e => by have := HFAR.out h ad e; omega, ?_⟩
      · exact (HSL2.out.setCell (fun h ad e => by have := HFAR.out h ad e; omega) 0 _).setCell (fun h ad e => by have := HFAR.out h ad e; omega) 1 _
      · exact (HB2.out.setCell (p := ⟨w.heap.size, 0, none⟩) (Nat.le_refl _) _).setCell (p := ⟨w.heap.size, 1, none⟩) (Nat.le_refl _) _
theorem eCollect : ∀ args w, (callFunc 60 args).run Try.prog w = .ok (.enter 60 args) w := enters (fn := Try.f60) (by kernel_rfl) (by kernel_rfl) (by kernel_rfl)
end Go.Proofs.Ytndgffiihbdppaa
