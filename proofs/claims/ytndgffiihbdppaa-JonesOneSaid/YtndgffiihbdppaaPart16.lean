/- Several texts in one. -/
import Derived.Test.YtndgffiihbdppaaPart15
/- Package laurent: Add, Sub. -/
namespace Go.Proofs.Ytndgffiihbdppaa
set_option linter.unusedVariables false
set_option linter.unusedSimpArgs false
open Go.RowKit

theorem eAddX : ∀ args w, (callFunc 101 args).run Try.prog w = .ok (.enter 101 args) w := enters (fn := Try.f101) (by kernel_rfl) (by kernel_rfl) (by kernel_rfl)
theorem eSubX : ∀ args w, (callFunc 102 args).run Try.prog w = .ok (.enter 102 args) w := enters (fn := Try.f102) (by kernel_rfl) (by kernel_rfl) (by kernel_rfl)
set_option maxRecDepth 100000 in
set_option maxHeartbeats 2000000 in
theorem addX_any (x y : Int) (w : World) (hx : x.natAbs ≤ 100000000) (hy : y.natAbs ≤ 100000000) :
    Calls Try.prog 101 #[.int .i64 x, .int .i64 y] w fun e w' => e = .returned (.int .i64 (x + y)) ∧ w = w' := by
  have hw : IntKind.i64.wrap (x + y) = x + y := by rw [IntKind.wrap_i64]; omega
  go_enter Try.func101, Try.ntmps101
  go_wp2_with fail
  go_ret
  exact ⟨rfl, rfl⟩

set_option maxRecDepth 100000 in
set_option maxHeartbeats 4000000 in
theorem ladd_any (la : Int) (A : Option Addr) (n c : Nat) (xs : List Int) (lb : Int) (B : Option Addr) (m d : Nat) (ys : List Int) (w : World) (ha : SL w A n c xs) (hb : SL w B m d ys) :
    Calls Try.prog 80 #[PV la A n c, PV lb B m d] w (GivesPE w (LP.addR la xs lb ys)) := by
  have hbw : Below w.heap.size w (((w.alloc (.cells #[.int .i64 la, .slice A n c] 36)).alloc (.cells #[.int .i64 lb, .slice B m d] 36)).alloc (.cells #[.int .i64 0, .slice none 0 0] 36)) := (((Below.refl _ _).alloc (Nat.le_refl _) _).alloc (by simp) _).alloc (by simp; omega) _
  have hA := ((Blk.new w 36 #[.int .i64 la, .slice A n c]).alloc (.cells #[.int .i64 lb, .slice B m d] 36)).alloc (.cells #[.int .i64 0, .slice none 0 0] 36)
  have hB := (Blk.new (w.alloc (.cells #[.int .i64 la, .slice A n c] 36)) 36 #[.int .i64 lb, .slice B m d]).alloc (.cells #[.int .i64 0, .slice none 0 0] 36)
  have hR := Blk.new ((w.alloc (.cells #[.int .i64 la, .slice A n c] 36)).alloc (.cells #[.int .i64 lb, .slice B m d] 36)) 36 #[.int .i64 0, .slice none 0 0]
  simp only [World.size_alloc] at hB hR
  have HC := hide (combine_any (fo := 101) (fun x y => x + y) eAddX (fun x y w h1 h2 => addX_any x y w h1 h2) la A n c xs lb B m d ys (LP.of la xs + LP.of lb ys) (fun k => by rw [LP.co_add]) rfl _ (ha.below hbw) (hb.below hbw))
  have HT : Hid (LP.two2 la xs lb ys (LP.fit (LP.of la xs + LP.of lb ys)) = LP.addR la xs lb ys) := hide rfl
  rw [HT.out] at HC
  have HW := hide hbw
  have BR := hide hR
  clear ha hb hbw HT
  generalize LP.addR la xs lb ys = Z at *
  go_enter Try.func80, Try.ntmps80
  go_upto_region 1 with fail
  obtain ⟨w0, hw0⟩ : ∃ x, ((w.alloc (.cells #[.int .i64 la, .slice A n c] 36)).alloc (.cells #[.int .i64 lb, .slice B m d] 36)).alloc (.cells #[.int .i64 0, .slice none 0 0] 36) = x := ⟨_, rfl⟩
  rw [hw0] at hA hB BR HW HC ⊢
  have hq0 := hA.cell 0
  have hq1 := hA.cell 1
  have hr0 := hB.cell 0
  have hr1 := hB.cell 1
  simp at hq0 hq1 hr0 hr1
  clear hA hB hR hw0
  go_wp2_with fail
  refine HC.out.mono ?_
  rintro e w1 ⟨R, rn, rc, rfl, hs, hnw, hb⟩
  have HW1 := hide (HW.out.trans (hb.mono HW.out.size))
  have BR1 := hide (BR.out.below hb BR.out.lt)
  have HFAR := hide (show 0 < rn → ∀ ad, R = some ad → w.heap.size + 1 + 1 < ad.block from fun h ad e => by have := hnw h ad e; have := BR.out.lt; omega)
  have HS := hide hs
  clear hb hnw hs hq0 hq1 hr0 hr1 HC HW BR
  have hf0 := BR1.out.frozen 0
  have hf1 := BR1.out.frozen 1
  have hc0 := BR1.out.cell 0
  have hc1 := BR1.out.cell 1
  simp at hc0 hc1
  have hlt := BR1.out.lt
  obtain ⟨ze, zl, zc⟩ := Z
  go_wp2_with fail
  refine bodyPost_ret (results_pe rfl _ rfl rfl ((BR1.out.set_ 0 (.int .i64 zl)).set_ 1 (.slice R rn rc))) rfl ?_
  refine ⟨R, rn, rc, rfl, ?_, fun h ad e => by have := HFAR.out h ad e; omega, ?_⟩
  · exact (HS.out.setCell (fun h ad e => by have := HFAR.out h ad e; omega) 0 _).setCell (fun h ad e => by have := HFAR.out h ad e; omega) 1 _
  · exact (HW1.out.setCell (p := ⟨w.heap.size + 1 + 1, 0, none⟩) (by show w.heap.size ≤ w.heap.size + 1 + 1; omega) _).setCell (p := ⟨w.heap.size + 1 + 1, 1, none⟩) (by show w.heap.size ≤ w.heap.size + 1 + 1; omega) _

set_option maxRecDepth 100000 in
set_option maxHeartbeats 2000000 in
theorem subX_any (x y : Int) (w : World) (hx : x.natAbs ≤ 100000000) (hy : y.natAbs ≤ 100000000) :
    Calls Try.prog 102 #[.int .i64 x, .int .i64 y] w fun e w' => e = .returned (.int .i64 (x - y)) ∧ w = w' := by
  have hw : IntKind.i64.wrap (x - y) = x - y := by rw [IntKind.wrap_i64]; omega
  go_enter Try.func102, Try.ntmps102
  go_wp2_with fail
  go_ret
  exact ⟨rfl, rfl⟩

set_option maxRecDepth 100000 in
set_option maxHeartbeats 4000000 in
theorem lsub_any (la : Int) (A : Option Addr) (n c : Nat) (xs : List Int) (lb : Int) (B : Option Addr) (m d : Nat) (ys : List Int) (w : World) (ha : SL w A n c xs) (hb : SL w B m d ys) :
    Calls Try.prog 81 #[PV la A n c, PV lb B m d] w (GivesPE w (LP.subR la xs lb ys)) := by
  have hbw : Below w.heap.size w (((w.alloc (.cells #[.int .i64 la, .slice A n c] 36)).alloc (.cells #[.int .i64 lb, .slice B m d] 36)).alloc (.cells #[.int .i64 0, .slice none 0 0] 36)) := (((Below.refl _ _).alloc (Nat.le_refl _) _).alloc (by simp) _).alloc (by simp; omega) _
  have hA := ((Blk.new w 36 #[.int .i64 la, .slice A n c]).alloc (.cells #[.int .i64 lb, .slice B m d] 36)).alloc (.cells #[.int .i64 0, .slice none 0 0] 36)
  have hB := (Blk.new (w.alloc (.cells #[.int .i64 la, .slice A n c] 36)) 36 #[.int .i64 lb, .slice B m d]).alloc (.cells #[.int .i64 0, .slice none 0 0] 36)
  have hR := Blk.new ((w.alloc (.cells #[.int .i64 la, .slice A n c] 36)).alloc (.cells #[.int .i64 lb, .slice B m d] 36)) 36 #[.int .i64 0, .slice none 0 0]
  simp only [World.size_alloc] at hB hR
  have HC := hide (combine_any (fo := 102) (fun x y => x - y) eSubX (fun x y w h1 h2 => subX_any x y w h1 h2) la A n c xs lb B m d ys (LP.of la xs + -LP.of lb ys) (fun k => by rw [LP.co_add, LP.co_neg]; omega) rfl _ (ha.below hbw) (hb.below hbw))
  have HT : Hid (LP.two2 la xs lb ys (LP.fit (LP.of la xs + -LP.of lb ys)) = LP.subR la xs lb ys) := hide rfl
  rw [HT.out] at HC
  have HW := hide hbw
  have BR := hide hR
  clear ha hb hbw HT
  generalize LP.subR la xs lb ys = Z at *
  go_enter Try.func81, Try.ntmps81
  go_upto_region 1 with fail
  obtain ⟨w0, hw0⟩ : ∃ x, ((w.alloc (.cells #[.int .i64 la, .slice A n c] 36)).alloc (.cells #[.int .i64 lb, .slice B m d] 36)).alloc (.cells #[.int .i64 0, .slice none 0 0] 36) = x := ⟨_, rfl⟩
  rw [hw0] at hA hB BR HW HC ⊢
  have hq0 := hA.cell 0
  have hq1 := hA.cell 1
  have hr0 := hB.cell 0
  have hr1 := hB.cell 1
  simp at hq0 hq1 hr0 hr1
  clear hA hB hR hw0
  go_wp2_with fail
  refine HC.out.mono ?_
  rintro e w1 ⟨R, rn, rc, rfl, hs, hnw, hb⟩
  have HW1 := hide (HW.out.trans (hb.mono HW.out.size))
  have BR1 := hide (BR.out.below hb BR.out.lt)
  have HFAR := hide (show 0 < rn → ∀ ad, R = some ad → w.heap.size + 1 + 1 < ad.block from fun h ad e => by have := hnw h ad e; have := BR.out.lt; omega)
  have HS := hide hs
  clear hb hnw hs hq0 hq1 hr0 hr1 HC HW BR
  have hf0 := BR1.out.frozen 0
  have hf1 := BR1.out.frozen 1
  have hc0 := BR1.out.cell 0
  have hc1 := BR1.out.cell 1
  simp at hc0 hc1
  have hlt := BR1.out.lt
  obtain ⟨ze, zl, zc⟩ := Z
  go_wp2_with fail
  refine bodyPost_ret (results_pe rfl _ rfl rfl ((BR1.out.set_ 0 (.int .i64 zl)).set_ 1 (.slice R rn rc))) rfl ?_
  refine ⟨R, rn, rc, rfl, ?_, fun h ad e => by have := HFAR.out h ad e; omega, ?_⟩
  · exact (HS.out.setCell (fun h ad e => by have := HFAR.out h ad e; omega) 0 _).setCell (fun h ad e => by have := HFAR.out h ad e; omega) 1 _
  · exact (HW1.out.setCell (p := ⟨w.heap.size + 1 + 1, 0, none⟩) (by show w.heap.size ≤ w.heap.size + 1 + 1; omega) _).setCell (p := ⟨w.heap.size + 1 + 1, 1, none⟩) (by show w.heap.size ≤ w.heap.size + 1 + 1; omega) _

end Go.Proofs.Ytndgffiihbdppaa
/- Package laurent: the closure of Mul. -/
namespace Go.Proofs.Ytndgffiihbdppaa
set_option linter.unusedVariables false
set_option linter.unusedSimpArgs false
open Go.RowKit

theorem eMulX : ∀ args w, (callFunc 75 args).run Try.prog w = .ok (.enter 75 args) w := enters (fn := Try.f75) (by kernel_rfl) (by kernel_rfl) (by kernel_rfl)

set_option maxRecDepth 100000 in
set_option maxHeartbeats 4000000 in
theorem mulX_any (la : Int) (A : Option Addr) (n c : Nat) (xs : List Int) (lb : Int) (B : Option Addr) (m d : Nat) (ys : List Int) (ba b7 cb : Nat) (w : World) (ha : SL w A n c xs) (hb : SL w B m d ys) (h1 : la.natAbs ≤ 1000) (h2 : n ≤ 200) (h3 : lb.natAbs ≤ 1000) (h4 : m ≤ 200)
    (hx : ∀ j, (xs.getD j 0).natAbs ≤ 100000000) (hy : ∀ k, (LP.co (LP.of lb ys) k).natAbs ≤ 100000000)
    (ka : Blk w ba 36 #[.int .i64 la, .slice A n c]) (k7 : Blk w b7 58 #[.func (.func 84) #[] #[.pointer (some ⟨cb, 0, none⟩)]]) (kb : Blk w cb 36 #[.int .i64 lb, .slice B m d]) (e : Int) (he : e.natAbs ≤ 10000000) :
    Calls Try.prog 75 #[.int .i64 e, .pointer (some ⟨ba, 0, none⟩), .pointer (some ⟨b7, 0, none⟩)] w fun r w' => r = .returned (.int .i64 (LP.co (LP.of la xs * LP.of lb ys) e)) ∧ Below w.heap.size w w' := by
  have hl := ha.il.len
  have HV : Hid (LP.co (LP.of la xs * LP.of lb ys) e = CR.sumN n fun i => xs.getD i 0 * LP.co (LP.of lb ys) (e - la - i)) := hide (by rw [LP.co_of_mul, hl])
  have HLE : Hid (∀ k, k ≤ n → (CR.sumN k fun i => xs.getD i 0 * LP.co (LP.of lb ys) (e - la - i)).natAbs ≤ 200 * 10000000000000000) := hide (fun k hk => Nat.le_trans (LP.natAbs_sumN (D := 10000000000000000) fun i _ => by
    rw [Int.natAbs_mul]
    exact Nat.le_trans (Nat.mul_le_mul (hx i) (hy _)) (by decide)) (Nat.mul_le_mul_right _ (by omega)))
  have HA := hide ha
  have HB := hide hb
  have KA := hide ka
  have K7 := hide k7
  have KB := hide kb
  have HX := hide hx
  have HY := hide hy
  have hq0 := ka.cell 0
  have hq1 := ka.cell 1
  simp at hq0 hq1
  have HW := hide (Below.refl w.heap.size w)
  clear ha hb ka k7 kb hx hy
  go_enter Try.func75, Try.ntmps75
  go_wp2_with fail
  clear hq0 hq1
  go_loopw [5, 11] (fun sv iv wr => ∃ k : Nat, k ≤ n ∧ iv = .int .i64 k ∧ sv = .int .i64 (CR.sumN k fun i => xs.getD i 0 * LP.co (LP.of lb ys) (e - la - i)) ∧ Below w.heap.size w wr) (fun _ iv _ => n - (intOf iv).toNat)
  case atStart => exact ⟨0, Nat.zero_le _, rfl, rfl, HW.out⟩
  case round =>
    obtain ⟨k, hk, rfl, rfl, hbw⟩ := hrel
    have HBW := hide hbw
    clear hbw
    by_cases hlt : k < n
    · obtain ⟨ad, hA, hcl⟩ := (HA.out.below HBW.out).il.at_ hlt
      subst hA
      have hbka := KA.out.below HBW.out KA.out.lt
      have hq0 := hbka.cell 0
      have hq1 := hbka.cell 1
      have hq7 := (K7.out.below HBW.out K7.out.lt).cell 0
      simp at hq0 hq1 hq7
      have HCO := hide (coeff_any lb B m d ys cb (e - la - k) wr (HB.out.below HBW.out) (KB.out.below HBW.out KB.out.lt) (by omega) (by omega) (by omega))
      have hle := HLE.out k hk
      have hle2 := HLE.out (k + 1) hlt
      have HS : Hid (CR.sumN (k + 1) (fun i => xs.getD i 0 * LP.co (LP.of lb ys) (e - la - i)) = CR.sumN k (fun i => xs.getD i 0 * LP.co (LP.of lb ys) (e - la - i)) + xs.getD k 0 * LP.co (LP.of lb ys) (e - la - k)) := hide (CR.sumN_succ _ _)
      rw [HS.out] at hle2
      have hx := HX.out k
      have hy := HY.out (e - la - k)
      have ec := eCoeff
      have hwe : IntKind.i64.wrap (e - la) = e - la := by rw [IntKind.wrap_i64]; omega
      have hwe2 : IntKind.i64.wrap (e - la - (k : Int)) = e - la - k := by rw [IntKind.wrap_i64]; omega
      clear hbka
      generalize CR.sumN k (fun i => xs.getD i 0 * LP.co (LP.of lb ys) (e - la - i)) = s at *
      generalize LP.co (LP.of lb ys) (e - la - (k : Int)) = y at *
      generalize xs.getD k 0 = x at *
      have hxy : (x * y).natAbs ≤ 10000000000000000 := by
        rw [Int.natAbs_mul]
        exact Nat.le_trans (Nat.mul_le_mul hx hy) (by decide)
      obtain ⟨p, hp⟩ : ∃ p, x * y = p := ⟨_, rfl⟩
      rw [hp] at hxy hle2 HS
      have hwp : IntKind.i64.wrap (x * y) = p := by rw [hp, IntKind.wrap_i64]; omega
      have hws : IntKind.i64.wrap (s + p) = s + p := by rw [IntKind.wrap_i64]; omega
      clear hx hy hp hle hle2 hxy
      go_wp2_with fail
      refine HCO.out.mono ?_
      rintro r w1 ⟨rfl, hb⟩
      have HB1 := hide (HBW.out.trans (hb.mono HBW.out.size))
      clear hb HBW HCO hq0 hq1 hq7 hcl
      go_wp2_with fail
      go_roundw
      case rel => exact ⟨k + 1, by omega, by go_num, by rw [HS.out], HB1.out⟩
      case measure => simp [intOf]; omega
    · have hkn : k = n := by omega
      have HE : Hid ((CR.sumN k fun i => xs.getD i 0 * LP.co (LP.of lb ys) (e - la - i)) = LP.co (LP.of la xs * LP.of lb ys) e) := hide (by rw [hkn, HV.out])
      rw [HE.out]
      obtain ⟨s, hs⟩ : ∃ s, LP.co (LP.of la xs * LP.of lb ys) e = s := ⟨_, rfl⟩
      have HS := hide hs
      rw [hs]
      clear hs HE HV HLE
      go_wp2_with fail
      go_ret
      rw [HS.out]
      exact ⟨rfl, HBW.out⟩
end Go.Proofs.Ytndgffiihbdppaa
/- Package laurent: Mul. -/
namespace Go.Proofs.Ytndgffiihbdppaa
set_option linter.unusedVariables false
set_option linter.unusedSimpArgs false
open Go.RowKit

theorem LP.co_mul_supp {la lb : Int} {xs ys : List Int} {k : Int} (h : LP.co (LP.of la xs * LP.of lb ys) k ≠ 0) : la + lb ≤ k ∧ k < la + lb + ((xs.length + ys.length : Nat) : Int) := by
  by_cases hh : la + lb ≤ k ∧ k < la + lb + ((xs.length + ys.length : Nat) : Int)
  · exact hh
  · refine absurd ?_ h
    rw [LP.co_of_mul]
    refine CR.sumN_none fun i hi => ?_
    rw [LP.co_of, if_neg (by omega), Int.mul_zero]
theorem LP.getD_pfl {lo : Int} {cs : List Int} (h : LP.pfl lo cs = 0) (j : Nat) : (cs.getD j 0).natAbs ≤ 100000000 := by
  by_cases hj : j < cs.length
  · exact (LP.pfl_zero h).2.2.2.2 _ (getD_mem' hj)
  · rw [List.getD_eq_getElem?_getD, List.getElem?_eq_none (by omega)]; decide

set_option maxRecDepth 100000 in
set_option maxHeartbeats 8000000 in
theorem lmul_any (la : Int) (A : Option Addr) (n c : Nat) (xs : List Int) (lb : Int) (B : Option Addr) (m d : Nat) (ys : List Int) (w : World) (ha : SL w A n c xs) (hb : SL w B m d ys) :
    Calls Try.prog 51 #[PV la A n c, PV lb B m d] w (GivesPE w (LP.mulR la xs lb ys)) := by
  have hla := ha.il.len
  have hlb := hb.il.len
  have hbw : Below w.heap.size w (((w.alloc (.cells #[.int .i64 la, .slice A n c] 36)).alloc (.cells #[.int .i64 lb, .slice B m d] 36)).alloc (.cells #[.int .i64 0, .slice none 0 0] 36)) := (((Below.refl _ _).alloc (Nat.le_refl _) _).alloc (by simp) _).alloc (by simp; omega) _
  have hA := ((Blk.new w 36 #[.int .i64 la, .slice A n c]).alloc (.cells #[.int .i64 lb, .slice B m d] 36)).alloc (.cells #[.int .i64 0, .slice none 0 0] 36)
  have hB := (Blk.new (w.alloc (.cells #[.int .i64 la, .slice A n c] 36)) 36 #[.int .i64 lb, .slice B m d]).alloc (.cells #[.int .i64 0, .slice none 0 0] 36)
  have hR := Blk.new ((w.alloc (.cells #[.int .i64 la, .slice A n c] 36)).alloc (.cells #[.int .i64 lb, .slice B m d] 36)) 36 #[.int .i64 0, .slice none 0 0]
  simp only [World.size_alloc] at hB hR
  have HA := hide (ha.below hbw)
  have HB := hide (hb.below hbw)
  have HW := hide hbw
  clear ha hb hbw
  have BA := hide hA
  have BB := hide hB
  have BR := hide hR
  clear hA hB hR
  obtain ⟨T, hT⟩ : ∃ T, LP.mulR la xs lb ys = T := ⟨_, rfl⟩
  have HT := hide hT
  rw [hT]
  clear hT
  go_enter Try.func51, Try.ntmps51
  go_upto_region 1 with fail
  obtain ⟨w0, hw0⟩ : ∃ x, (((w.alloc (.cells #[.int .i64 la, .slice A n c] 36)).alloc (.cells #[.int .i64 lb, .slice B m d] 36)).alloc (.cells #[.int .i64 0, .slice none 0 0] 36)) = x := ⟨_, rfl⟩
  rw [hw0] at HA HB HW BA BB BR ⊢
  clear hw0
  have hq0 := BA.out.cell 0
  have hq1 := BA.out.cell 1
  have hr0 := BB.out.cell 0
  have hr1 := BB.out.cell 1
  simp at hq0 hq1 hr0 hr1
  go_wp2_with fail
  refine (checkBoth_any la A n c xs lb B m d ys _ HA.out HB.out).mono ?_
  rintro e w1 ⟨rfl, hb⟩
  replace HA := hide (HA.out.below hb)
  replace HB := hide (HB.out.below hb)
  replace HW := hide (HW.out.trans (hb.mono HW.out.size))
  replace BA := hide (BA.out.below hb BA.out.lt)
  replace BB := hide (BB.out.below hb BB.out.lt)
  replace BR := hide (BR.out.below hb BR.out.lt)
  clear hb hq0 hq1 hr0 hr1
  obtain ⟨p, hp⟩ : ∃ p, LP.pfl2 la xs lb ys = p := ⟨_, rfl⟩
  rw [hp]
  have HP := hide hp
  clear hp
  by_cases hp0 : p = 0
  case neg =>
    have HTE : Hid (T = (p, 0, [])) := hide (by
      rw [← HT.out, ← HP.out]
      have hp2 : LP.pfl2 la xs lb ys ≠ 0 := by rw [HP.out]; exact hp0
      unfold LP.mulR LP.two2
      unfold LP.pfl2 at hp2 ⊢
      by_cases h : LP.pfl la xs = 0
      · rw [if_pos h, if_pos h] at *; rw [if_neg hp2]
      · rw [if_neg h, if_neg h])
    have hne : (p != 0) = true := by simpa using hp0
    have hf0 := BR.out.frozen 0
    have hf1 := BR.out.frozen 1
    have hr0 := BR.out.cell 0
    have hr1 := BR.out.cell 1
    simp at hr0 hr1
    have hlt := BR.out.lt
    clear hp0
    go_wp2_with fail
    refine bodyPost_ret (results_pe rfl _ rfl rfl ((BR.out.set_ 0 (.int .i64 0)).set_ 1 (.slice none 0 0))) rfl ?_
    rw [HTE.out]
    refine ⟨none, 0, 0, rfl, SL.nil_ _, fun h => absurd h (by omega), ?_⟩
    exact (HW.out.setCell (p := ⟨w.heap.size + 1 + 1, 0, none⟩) (by show w.heap.size ≤ w.heap.size + 1 + 1; omega) _).setCell (p := ⟨w.heap.size + 1 + 1, 1, none⟩) (by show w.heap.size ≤ w.heap.size + 1 + 1; omega) _
  subst hp0
  have hpf : LP.pfl la xs = 0 ∧ LP.pfl lb ys = 0 := by
    have h := HP.out
    unfold LP.pfl2 at h
    by_cases h1 : LP.pfl la xs = 0
    · rw [if_pos h1] at h; exact ⟨h1, h⟩
    · rw [if_neg h1] at h; exact absurd h h1
  have HTE : Hid (T = LP.fit (LP.of la xs * LP.of lb ys)) := hide (by
    rw [← HT.out]
    unfold LP.mulR LP.two2
    rw [if_pos hpf.1, if_pos hpf.2])
  obtain ⟨pa1, pa2, pa3, _, _⟩ := LP.pfl_zero hpf.1
  obtain ⟨pb1, pb2, pb3, _, _⟩ := LP.pfl_zero hpf.2
  have HXA := hide (LP.getD_pfl hpf.1)
  have HXB := hide (LP.co_pfl hpf.2)
  have HSU := hide (fun k => LP.co_mul_supp (la := la) (lb := lb) (xs := xs) (ys := ys) (k := k))
  rw [hla, hlb] at HSU
  clear hpf HP HT
  rw [hla] at pa1
  rw [hlb] at pb1
  have hr0 := BB.out.cell 0
  have hr1 := BB.out.cell 1
  simp at hr0 hr1
  go_wp2_with fail
  refine (coefficients_b lb B m d _).mono ?_
  rintro e w2 ⟨cb, rfl, hcb, hkb, hb⟩
  replace HA := hide (HA.out.below hb)
  replace HB := hide (HB.out.below hb)
  replace HW := hide (HW.out.trans (hb.mono HW.out.size))
  replace BA := hide (BA.out.below hb BA.out.lt)
  replace BB := hide (BB.out.below hb BB.out.lt)
  replace BR := hide (BR.out.below hb BR.out.lt)
  have KB := hide hkb
  clear hb hr0 hr1 hkb
  go_upto_region 5 with fail
  have HB7 : Hid (Below w2.heap.size w2 (w2.alloc (.cells #[.func (.func 84) #[] #[.pointer (some ⟨cb, 0, none⟩)]] 58))) := hide ((Below.refl _ _).alloc (Nat.le_refl _) _)
  have K7 := hide (Blk.new w2 58 #[.func (.func 84) #[] #[.pointer (some ⟨cb, 0, none⟩)]])
  obtain ⟨b7, hb7⟩ : ∃ b, w2.heap.size = b := ⟨_, rfl⟩
  obtain ⟨wc, hwc⟩ : ∃ x, w2.alloc (.cells #[.func (.func 84) #[] #[.pointer (some ⟨cb, 0, none⟩)]] 58) = x := ⟨_, rfl⟩
  rw [hwc] at HB7 K7 ⊢
  replace HA := hide (HA.out.below HB7.out)
  replace HB := hide (HB.out.below HB7.out)
  replace HW := hide (HW.out.trans (HB7.out.mono HW.out.size))
  replace BA := hide (BA.out.below HB7.out BA.out.lt)
  replace BB := hide (BB.out.below HB7.out BB.out.lt)
  replace BR := hide (BR.out.below HB7.out BR.out.lt)
  replace KB := hide (KB.out.below HB7.out KB.out.lt)
  rw [hb7] at K7 ⊢
  clear hb7 hwc HB7 hcb
  obtain ⟨lo, hlo⟩ : ∃ lo, la + lb = lo := ⟨_, rfl⟩
  obtain ⟨N, hN⟩ : ∃ N : Nat, n + m = N := ⟨_, rfl⟩
  have hN2 : N ≤ 100000 := by omega
  have hlo2 : lo.natAbs ≤ 100000 := by omega
  have hw1 : IntKind.i64.wrap (la + lb) = lo := by rw [IntKind.wrap_i64]; omega
  have hw2 : IntKind.i64.wrap (la + n + (lb + m)) = lo + N := by rw [IntKind.wrap_i64]; omega
  rw [hlo, hN] at HSU
  have HCL : Hid (∀ v, Below wc.heap.size wc v → AnsI Try.prog 75 [.pointer (some ⟨w.heap.size, 0, none⟩), .pointer (some ⟨b7, 0, none⟩)] v.heap.size v lo (lo + N) (LP.co (LP.of la xs * LP.of lb ys))) := hide (fun v hv => ⟨eMulX, fun w' hw' e h1 h2 => by
    have hv' : Below wc.heap.size wc w' := hv.trans (hw'.mono hv.size)
    exact mulX_any la A n c xs lb B m d ys _ b7 cb w' (HA.out.below hv') (HB.out.below hv') (by omega) pa1 (by omega) pb1 HXA.out HXB.out (BA.out.below hv' BA.out.lt) (K7.out.below hv' K7.out.lt) (KB.out.below hv' KB.out.lt) e (by omega)⟩)
  refine wp_region_noPanic ?_
  have hge : w.heap.size + 1 + 1 ≤ wc.heap.size := by have := BR.out.lt; omega
  have hS0 : Below wc.heap.size wc wc.drew := (Below.refl _ _).drew
  refine wp_region_held_drew (S := fun x => Below (w.heap.size + 1 + 1) wc x) (by kernel_rfl) (hS0.mono hge) (fun hT0 => ?_)
  refine wpAnyH_tk 0 (v := .pointer (some ⟨w.heap.size, 0, none⟩)) rfl (by kernel_rfl) (by kernel_rfl) (by kernel_rfl) (yi rfl fun w' hw' => gives_fld rfl Try.underlying36 rfl rfl rfl (fun w => rfl)) hT0 ?_
  go_frame
  refine wpAnyH_tk 1 (v := .int .i64 la) rfl (by kernel_rfl) (by kernel_rfl) (by kernel_rfl) (yi rfl fun w' hw' => gives_load1 rfl (by kernel_rfl) rfl (by have h := (BA.out.below hw' (by omega)).cell 0; simpa using h)) hT0 ?_
  go_frame
  refine wpAnyH_tk 2 (v := .pointer (some ⟨w.heap.size + 1, 0, none⟩)) rfl (by kernel_rfl) (by kernel_rfl) (by kernel_rfl) (yi rfl fun w' hw' => gives_fld rfl Try.underlying36 rfl rfl rfl (fun w => rfl)) hT0 ?_
  go_frame
  refine wpAnyH_tk 3 (v := .int .i64 lb) rfl (by kernel_rfl) (by kernel_rfl) (by kernel_rfl) (yi rfl fun w' hw' => gives_load1 rfl (by kernel_rfl) rfl (by have h := (BB.out.below hw' (by omega)).cell 0; simpa using h)) hT0 ?_
  go_frame
  refine wpAnyH_tk 4 (v := .int .i64 lo) rfl (by kernel_rfl) (by kernel_rfl) (by kernel_rfl) (yi rfl fun w' hw' => gives_add rfl rfl rfl hw1) hT0 ?_
  go_frame
  refine wpAnyH_tk 5 (v := PV la A n c) rfl (by kernel_rfl) (by kernel_rfl) (by kernel_rfl) (yi rfl fun x hx => gives_loadRow rfl rfl (BA.out.below hx (by omega)) Try.underlying36 (by kernel_rfl) (by kernel_rfl)) hT0 ?_
  go_frame
  refine wpAnyH_tk 7 (v := PV lb B m d) rfl (by kernel_rfl) (by kernel_rfl) (by kernel_rfl) (yi rfl fun x hx => gives_loadRow rfl rfl (BB.out.below hx (by omega)) Try.underlying36 (by kernel_rfl) (by kernel_rfl)) hT0 ?_
  go_frame
  refine wpAnyH_tk 10 (v := .func (.func 75) #[] #[.pointer (some ⟨w.heap.size, 0, none⟩), .pointer (some ⟨b7, 0, none⟩)]) rfl (by kernel_rfl) (by kernel_rfl) (by kernel_rfl) (yi rfl fun x hx => gives_makeFunc rfl rfl) hT0 ?_
  go_frame
  refine wpAnyH_1 6 rfl (by kernel_rfl) ?_
  refine wp_call [PV la A n c] rfl rfl eEndOf rfl ((endOf_b la A n c _ (by omega) (by omega)).mono ?_)
  rintro e v1 ⟨rfl, hb⟩
  have hS1 : Below wc.heap.size wc v1 := hS0.trans (hb.mono hS0.size)
  have hT1 : Below (w.heap.size + 1 + 1) wc v1 := hS1.mono hge
  refine ⟨_, rfl, hT1, ?_⟩
  clear hb
  go_frame
  refine wpAnyH_1 8 rfl (by kernel_rfl) ?_
  refine wp_call [PV lb B m d] rfl rfl eEndOf rfl ((endOf_b lb B m d _ (by omega) (by omega)).mono ?_)
  rintro e v2 ⟨rfl, hb⟩
  have hS2 : Below wc.heap.size wc v2 := hS1.trans (hb.mono hS1.size)
  have hT2 : Below (w.heap.size + 1 + 1) wc v2 := hS2.mono hge
  refine ⟨_, rfl, hT2, ?_⟩
  clear hb
  go_frame
  refine wpAnyH_tk 9 (v := .int .i64 (lo + N)) rfl (by kernel_rfl) (by kernel_rfl) (by kernel_rfl) (yi rfl fun w' hw' => gives_add rfl rfl rfl hw2) hT2 ?_
  go_frame
  refine wpAnyH_1 11 rfl (by kernel_rfl) ?_
  refine wp_call [.int .i64 lo, .int .i64 (lo + N), .func (.func 75) #[] #[.pointer (some ⟨w.heap.size, 0, none⟩), .pointer (some ⟨b7, 0, none⟩)]] rfl rfl eCollect rfl ((collect_any (caps := [.pointer (some ⟨w.heap.size, 0, none⟩), .pointer (some ⟨b7, 0, none⟩)]) lo N (LP.of la xs * LP.of lb ys) v2 (HCL.out v2 hS2) HSU.out hlo2 hN2).mono ?_)
  rintro e v3 ⟨R3, rn, rc, rfl, hsl, hnw, hb⟩
  have hS3 : Below wc.heap.size wc v3 := hS2.trans (hb.mono hS2.size)
  have hfar : 0 < rn → ∀ ad, R3 = some ad → wc.heap.size ≤ ad.block := fun h ad e => by have := hnw h ad e; have := hS2.size; omega
  have HSL := hide hsl
  clear hb hnw hsl
  have hT3 : Below (w.heap.size + 1 + 1) wc v3 := hS3.mono hge
  refine ⟨_, rfl, hT3, ?_⟩
  generalize LP.fit (LP.of la xs * LP.of lb ys) = Z at *
  go_frame
  refine wpAnyH_tk 12 (v := PV Z.2.1 R3 rn rc) rfl (by kernel_rfl) (by kernel_rfl) (by kernel_rfl) (yi rfl fun w' hw' => gives_extract rfl rfl rfl) hT3 ?_
  go_frame
  refine wpAnyH_tk 13 (v := .int .i64 Z.1) rfl (by kernel_rfl) (by kernel_rfl) (by kernel_rfl) (yi rfl fun w' hw' => gives_extract rfl rfl rfl) hT3 ?_
  go_frame
  have hbr := BR.out.below hS3 BR.out.lt
  have hlr := BR.out.lt
  refine wpAnyH_1 14 rfl (by kernel_rfl) ?_
  have HW9 : Below w.heap.size w (v3.setRow (w.heap.size + 1 + 1) #[.int .i64 Z.2.1, .slice R3 rn rc]) := Below.setRow_ (HW.out.trans (hS3.mono HW.out.size)) (by omega) _
  have hT4 : Below (w.heap.size + 1 + 1) wc (v3.setRow (w.heap.size + 1 + 1) #[.int .i64 Z.2.1, .slice R3 rn rc]) := Below.setRow_ hT3 (Nat.le_refl _) _
  have HSL9 := HSL.out.setRow_ (b := w.heap.size + 1 + 1) (fun h ad e => by have := hfar h ad e; omega) #[.int .i64 Z.2.1, .slice R3 rn rc]
  refine wp_storeRow rfl rfl rfl hbr (by kernel_rfl) rfl (by kernel_rfl) ⟨hT4, ?_⟩
  go_frame
  refine wpAnyH_tk 15 (v := .int .i64 Z.1) rfl (by kernel_rfl) (by kernel_rfl) (by kernel_rfl) (yi rfl fun w' hw' => gives_move (.inr rfl) rfl) hT4 ?_
  go_frame
  refine wpAnyH_done (by kernel_rfl) (noPanic_mk ?_) _
  have hbk9 : Blk (v3.setRow (w.heap.size + 1 + 1) #[.int .i64 Z.2.1, .slice R3 rn rc]) (w.heap.size + 1 + 1) 36 #[.int .i64 Z.2.1, .slice R3 rn rc] := setRow_heap _ _ _ _ _ _ hbr
  have HW10 := hide HW9
  have HSL10 := hide HSL9
  have HBK10 := hide hbk9
  have HFAR := hide hfar
  clear hS0 hS1 hS2 hS3 hT0 hT1 hT2 hT3 hT4 HW9 HSL9 hbk9 hbr hfar hlo hN hw1 hw2
  generalize v3.setRow (w.heap.size + 1 + 1) #[.int .i64 Z.2.1, .slice R3 rn rc] = v4 at *
  go_wp2_with fail
  refine bodyPost_ret (results_pe rfl _ rfl rfl HBK10.out) rfl ?_
  rw [HTE.out]
  exact ⟨R3, rn, rc, rfl, HSL10.out, fun h ad e => by have := HFAR.out h ad e; omega, HW10.out⟩
end Go.Proofs.Ytndgffiihbdppaa
/- Package laurent: Conjugate. -/
namespace Go.Proofs.Ytndgffiihbdppaa
set_option linter.unusedVariables false
set_option linter.unusedSimpArgs false
open Go.RowKit

theorem eConjX : ∀ args w, (callFunc 62 args).run Try.prog w = .ok (.enter 62 args) w := enters (fn := Try.f62) (by kernel_rfl) (by kernel_rfl) (by kernel_rfl)
set_option maxRecDepth 100000 in
set_option maxHeartbeats 4000000 in
theorem conjX_any (la : Int) (A : Option Addr) (n c : Nat) (xs : List Int) (b5 ca : Nat) (w : World) (ha : SL w A n c xs) (h1 : la.natAbs ≤ 1000000) (h2 : n ≤ 1000000)
    (k5 : Blk w b5 58 #[.func (.func 84) #[] #[.pointer (some ⟨ca, 0, none⟩)]]) (ka : Blk w ca 36 #[.int .i64 la, .slice A n c]) (e : Int) (he : e.natAbs ≤ 10000000) :
    Calls Try.prog 62 #[.int .i64 e, .pointer (some ⟨b5, 0, none⟩)] w fun r w' => r = .returned (.int .i64 (LP.co (LP.conj (LP.of la xs)) e)) ∧ Below w.heap.size w w' := by
  have HC := hide (coeff_any la A n c xs ca (-e) w ha ka h1 h2 (by omega))
  have HV : Hid (LP.co (LP.conj (LP.of la xs)) e = LP.co (LP.of la xs) (-e)) := hide (LP.co_conj _ _)
  have hq := k5.cell 0
  simp at hq
  have ec := eCoeff
  have hw : IntKind.i64.wrap (-e) = -e := by rw [IntKind.wrap_i64]; omega
  generalize LP.co (LP.of la xs) (-e) = y at *
  clear ha k5 ka
  go_enter Try.func62, Try.ntmps62
  go_wp2_with fail
  refine HC.out.mono ?_
  rintro r w1 ⟨rfl, hb⟩
  have HB := hide hb
  clear hb hq HC
  go_wp2_with fail
  go_ret
  rw [HV.out]
  exact ⟨rfl, HB.out⟩

set_option maxRecDepth 100000 in
set_option maxHeartbeats 8000000 in
theorem lconj_any (la : Int) (A : Option Addr) (n c : Nat) (xs : List Int) (w : World) (ha : SL w A n c xs) :
    Calls Try.prog 21 #[PV la A n c] w (GivesPE w (LP.conjR la xs)) := by
  have hla := ha.il.len
  have hbw : Below w.heap.size w ((w.alloc (.cells #[.int .i64 la, .slice A n c] 36)).alloc (.cells #[.int .i64 0, .slice none 0 0] 36)) := ((Below.refl _ _).alloc (Nat.le_refl _) _).alloc (by simp) _
  have hA := (Blk.new w 36 #[.int .i64 la, .slice A n c]).alloc (.cells #[.int .i64 0, .slice none 0 0] 36)
  have hR := Blk.new (w.alloc (.cells #[.int .i64 la, .slice A n c] 36)) 36 #[.int .i64 0, .slice none 0 0]
  simp only [World.size_alloc] at hR
  have HA := hide (ha.below hbw)
  have HW := hide hbw
  clear ha hbw
  have BA := hide hA
  have BR := hide hR
  clear hA hR
  obtain ⟨T, hT⟩ : ∃ T, LP.conjR la xs = T := ⟨_, rfl⟩
  have HT := hide hT
  rw [hT]
  clear hT
  go_enter Try.func21, Try.ntmps21
  go_upto_region 1 with fail
  obtain ⟨w0, hw0⟩ : ∃ x, ((w.alloc (.cells #[.int .i64 la, .slice A n c] 36)).alloc (.cells #[.int .i64 0, .slice none 0 0] 36)) = x := ⟨_, rfl⟩
  rw [hw0] at HA HW BA BR ⊢
  clear hw0
  have hq0 := BA.out.cell 0
  have hq1 := BA.out.cell 1
  simp at hq0 hq1
  go_wp2_with fail
  refine (lcheck_any la A n c xs _ HA.out).mono ?_
  rintro e w1 ⟨rfl, hb⟩
  replace HA := hide (HA.out.below hb)
  replace HW := hide (HW.out.trans (hb.mono HW.out.size))
  replace BA := hide (BA.out.below hb BA.out.lt)
  replace BR := hide (BR.out.below hb BR.out.lt)
  clear hb hq0 hq1
  obtain ⟨p, hp⟩ : ∃ p, LP.pfl la xs = p := ⟨_, rfl⟩
  rw [hp]
  have HP := hide hp
  clear hp
  by_cases hp0 : p = 0
  case neg =>
    have HTE : Hid (T = (p, 0, [])) := hide (by
      rw [← HT.out, ← HP.out]
      unfold LP.conjR LP.one1
      rw [if_neg (by rw [HP.out]; exact hp0)])
    have hne : (p != 0) = true := by simpa using hp0
    have hf0 := BR.out.frozen 0
    have hf1 := BR.out.frozen 1
    have hr0 := BR.out.cell 0
    have hr1 := BR.out.cell 1
    simp at hr0 hr1
    have hlt := BR.out.lt
    clear hp0
    go_wp2_with fail
    refine bodyPost_ret (results_pe rfl _ rfl rfl ((BR.out.set_ 0 (.int .i64 0)).set_ 1 (.slice none 0 0))) rfl ?_
    rw [HTE.out]
    refine ⟨none, 0, 0, rfl, SL.nil_ _, fun h => absurd h (by omega), ?_⟩
    exact (HW.out.setCell (p := ⟨w.heap.size + 1, 0, none⟩) (by show w.heap.size ≤ w.heap.size + 1; omega) _).setCell (p := ⟨w.heap.size + 1, 1, none⟩) (by show w.heap.size ≤ w.heap.size + 1; omega) _
  subst hp0
  have HTE : Hid (T = LP.fit (LP.conj (LP.of la xs))) := hide (by
    rw [← HT.out]
    unfold LP.conjR LP.one1
    rw [if_pos HP.out])
  obtain ⟨pa1, pa2, pa3, _, _⟩ := LP.pfl_zero HP.out
  clear HP HT
  rw [hla] at pa1
  have hr0 := BA.out.cell 0
  have hr1 := BA.out.cell 1
  simp at hr0 hr1
  go_wp2_with fail
  refine (coefficients_b la A n c _).mono ?_
  rintro e w2 ⟨ca, rfl, hcb, hkb, hb⟩
  replace HA := hide (HA.out.below hb)
  replace HW := hide (HW.out.trans (hb.mono HW.out.size))
  replace BA := hide (BA.out.below hb BA.out.lt)
  replace BR := hide (BR.out.below hb BR.out.lt)
  have KA := hide hkb
  clear hb hr0 hr1 hkb
  go_upto_region 5 with fail
  have HB7 : Hid (Below w2.heap.size w2 (w2.alloc (.cells #[.func (.func 84) #[] #[.pointer (some ⟨ca, 0, none⟩)]] 58))) := hide ((Below.refl _ _).alloc (Nat.le_refl _) _)
  have K7 := hide (Blk.new w2 58 #[.func (.func 84) #[] #[.pointer (some ⟨ca, 0, none⟩)]])
  obtain ⟨b7, hb7⟩ : ∃ b, w2.heap.size = b := ⟨_, rfl⟩
  obtain ⟨wc, hwc⟩ : ∃ x, w2.alloc (.cells #[.func (.func 84) #[] #[.pointer (some ⟨ca, 0, none⟩)]] 58) = x := ⟨_, rfl⟩
  rw [hwc] at HB7 K7 ⊢
  replace HA := hide (HA.out.below HB7.out)
  replace HW := hide (HW.out.trans (HB7.out.mono HW.out.size))
  replace BA := hide (BA.out.below HB7.out BA.out.lt)
  replace BR := hide (BR.out.below HB7.out BR.out.lt)
  replace KA := hide (KA.out.below HB7.out KA.out.lt)
  rw [hb7] at K7 ⊢
  clear hb7 hwc HB7 hcb
  obtain ⟨lo, hlo⟩ : ∃ lo, 1 - (la + n) = lo := ⟨_, rfl⟩
  have hlo2 : lo.natAbs ≤ 100000 := by omega
  have hw1 : IntKind.i64.wrap (1 - (la + n)) = lo := by rw [IntKind.wrap_i64]; omega
  have hw2 : IntKind.i64.wrap (1 - la) = lo + n := by rw [IntKind.wrap_i64]; omega
  have HSU : Hid (∀ k, LP.co (LP.conj (LP.of la xs)) k ≠ 0 → lo ≤ k ∧ k < lo + n) := hide (fun k hk => by
    rw [LP.co_conj] at hk
    have h := LP.co_of_some hk
    rw [hla] at h
    omega)
  have HCL : Hid (∀ v, Below wc.heap.size wc v → AnsI Try.prog 62 [.pointer (some ⟨b7, 0, none⟩)] v.heap.size v lo (lo + n) (LP.co (LP.conj (LP.of la xs)))) := hide (fun v hv => ⟨eConjX, fun w' hw' e h1 h2 => by
    have hv' : Below wc.heap.size wc w' := hv.trans (hw'.mono hv.size)
    exact conjX_any la A n c xs b7 ca w' (HA.out.below hv') (by omega) (by omega) (K7.out.below hv' K7.out.lt) (KA.out.below hv' KA.out.lt) e (by omega)⟩)
  refine wp_region_noPanic ?_
  have hge : w.heap.size + 1 ≤ wc.heap.size := by have := BR.out.lt; omega
  have hS0 : Below wc.heap.size wc wc.drew := (Below.refl _ _).drew
  refine wp_region_held_drew (S := fun x => Below (w.heap.size + 1) wc x) (by kernel_rfl) (hS0.mono hge) (fun hT0 => ?_)
  refine wpAnyH_tk 0 (v := PV la A n c) rfl (by kernel_rfl) (by kernel_rfl) (by kernel_rfl) (yi rfl fun x hx => gives_loadRow rfl rfl (BA.out.below hx (by omega)) Try.underlying36 (by kernel_rfl) (by kernel_rfl)) hT0 ?_
  go_frame
  refine wpAnyH_tk 3 (v := .pointer (some ⟨w.heap.size, 0, none⟩)) rfl (by kernel_rfl) (by kernel_rfl) (by kernel_rfl) (yi rfl fun w' hw' => gives_fld rfl Try.underlying36 rfl rfl rfl (fun w => rfl)) hT0 ?_
  go_frame
  refine wpAnyH_tk 4 (v := .int .i64 la) rfl (by kernel_rfl) (by kernel_rfl) (by kernel_rfl) (yi rfl fun w' hw' => gives_load1 rfl (by kernel_rfl) rfl (by have h := (BA.out.below hw' (by omega)).cell 0; simpa using h)) hT0 ?_
  go_frame
  refine wpAnyH_tk 5 (v := .int .i64 (lo + n)) rfl (by kernel_rfl) (by kernel_rfl) (by kernel_rfl) (yi rfl fun w' hw' => gives_sub rfl rfl rfl hw2) hT0 ?_
  go_frame
  refine wpAnyH_tk 6 (v := .func (.func 62) #[] #[.pointer (some ⟨b7, 0, none⟩)]) rfl (by kernel_rfl) (by kernel_rfl) (by kernel_rfl) (yi rfl fun x hx => gives_makeFunc rfl rfl) hT0 ?_
  go_frame
  refine wpAnyH_1 1 rfl (by kernel_rfl) ?_
  refine wp_call [PV la A n c] rfl rfl eEndOf rfl ((endOf_b la A n c _ (by omega) (by omega)).mono ?_)
  rintro e v1 ⟨rfl, hb⟩
  have hS1 : Below wc.heap.size wc v1 := hS0.trans (hb.mono hS0.size)
  have hT1 : Below (w.heap.size + 1) wc v1 := hS1.mono hge
  refine ⟨_, rfl, hT1, ?_⟩
  clear hb
  go_frame
  refine wpAnyH_tk 2 (v := .int .i64 lo) rfl (by kernel_rfl) (by kernel_rfl) (by kernel_rfl) (yi rfl fun w' hw' => gives_sub rfl rfl rfl hw1) hT1 ?_
  go_frame
  refine wpAnyH_1 7 rfl (by kernel_rfl) ?_
  refine wp_call [.int .i64 lo, .int .i64 (lo + n), .func (.func 62) #[] #[.pointer (some ⟨b7, 0, none⟩)]] rfl rfl eCollect rfl ((collect_any (caps := [.pointer (some ⟨b7, 0, none⟩)]) lo n (LP.conj (LP.of la xs)) v1 (HCL.out v1 hS1) HSU.out hlo2 (by omega)).mono ?_)
  rintro e v3 ⟨R3, rn, rc, rfl, hsl, hnw, hb⟩
  have hS3 : Below wc.heap.size wc v3 := hS1.trans (hb.mono hS1.size)
  have hfar : 0 < rn → ∀ ad, R3 = some ad → wc.heap.size ≤ ad.block := fun h ad e => by have := hnw h ad e; have := hS1.size; omega
  have HSL := hide hsl
  clear hb hnw hsl
  have hT3 : Below (w.heap.size + 1) wc v3 := hS3.mono hge
  refine ⟨_, rfl, hT3, ?_⟩
  generalize LP.fit (LP.conj (LP.of la xs)) = Z at *
  go_frame
  refine wpAnyH_tk 8 (v := PV Z.2.1 R3 rn rc) rfl (by kernel_rfl) (by kernel_rfl) (by kernel_rfl) (yi rfl fun w' hw' => gives_extract rfl rfl rfl) hT3 ?_
  go_frame
  refine wpAnyH_tk 9 (v := .int .i64 Z.1) rfl (by kernel_rfl) (by kernel_rfl) (by kernel_rfl) (yi rfl fun w' hw' => gives_extract rfl rfl rfl) hT3 ?_
  go_frame
  have hbr := BR.out.below hS3 BR.out.lt
  have hlr := BR.out.lt
  refine wpAnyH_1 10 rfl (by kernel_rfl) ?_
  have HW9 : Below w.heap.size w (v3.setRow (w.heap.size + 1) #[.int .i64 Z.2.1, .slice R3 rn rc]) := Below.setRow_ (HW.out.trans (hS3.mono HW.out.size)) (by omega) _
  have hT4 : Below (w.heap.size + 1) wc (v3.setRow (w.heap.size + 1) #[.int .i64 Z.2.1, .slice R3 rn rc]) := Below.setRow_ hT3 (Nat.le_refl _) _
  have HSL9 := HSL.out.setRow_ (b := w.heap.size + 1) (fun h ad e => by have := hfar h ad e; omega) #[.int .i64 Z.2.1, .slice R3 rn rc]
  refine wp_storeRow rfl rfl rfl hbr (by kernel_rfl) rfl (by kernel_rfl) ⟨hT4, ?_⟩
  go_frame
  refine wpAnyH_tk 11 (v := .int .i64 Z.1) rfl (by kernel_rfl) (by kernel_rfl) (by kernel_rfl) (yi rfl fun w' hw' => gives_move (.inr rfl) rfl) hT4 ?_
  go_frame
  refine wpAnyH_done (by kernel_rfl) (noPanic_mk ?_) _
  have hbk9 : Blk (v3.setRow (w.heap.size + 1) #[.int .i64 Z.2.1, .slice R3 rn rc]) (w.heap.size + 1) 36 #[.int .i64 Z.2.1, .slice R3 rn rc] := setRow_heap _ _ _ _ _ _ hbr
  have HW10 := hide HW9
  have HSL10 := hide HSL9
  have HBK10 := hide hbk9
  have HFAR := hide hfar
  clear hS0 hS1 hS3 hT0 hT1 hT3 hT4 HW9 HSL9 hbk9 hbr hfar hlo hw1 hw2
  generalize v3.setRow (w.heap.size + 1) #[.int .i64 Z.2.1, .slice R3 rn rc] = v4 at *
  go_wp2_with fail
  refine bodyPost_ret (results_pe rfl _ rfl rfl HBK10.out) rfl ?_
  rw [HTE.out]
  exact ⟨R3, rn, rc, rfl, HSL10.out, fun h ad e => by have := HFAR.out h ad e; omega, HW10.out⟩
end Go.Proofs.Ytndgffiihbdppaa
