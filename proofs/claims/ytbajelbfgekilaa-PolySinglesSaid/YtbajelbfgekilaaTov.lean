/- timbref1.Over. -/
import Derived.Test.YtbajelbfgekilaaTpo
import Derived.Test.YtbajelbfgekilaaTpf
namespace Go.Proofs.Ytbajelbfgekilaa
set_option linter.unusedVariables false
set_option linter.unusedSimpArgs false
open Go.RowKit Go.Maps

section
variable (w : World) {ops : Array Oper} {rest : List Oper} {o : Oper} {a : Act} {Q : Exit → Act → World → Prop}
theorem wpList_insI (hg : o.guard = none) (m x v : Operand) (t : TypeId) (hop : o.op = Op.insert t m x v) (ht : Try.prog.underlying t = some (.map 3 3)) (b : Nat) (T : List Tm) (y z : Int) (hm : a.eval m = .map (some b)) (h : MapI w b T) (hn : T.length < 1000000) (hx : a.eval x = .int .i64 y) (hv : a.eval v = .int .i64 z) (hy : (Lit.int .i64 y).wf = true)
    (hK : ∀ w', MapI w' b (putT T y z) → w.grownBy w' (some b) → w'.heap.size = w.heap.size → wpList Try.prog ops Q rest (a.put o.dst undef) w') : wpList Try.prog ops Q (o :: rest) a w := by
  refine wpList_plain hg fun K' hK' => ?_
  obtain ⟨w', hrun, r1, r2, r3⟩ := h.store ht hy (v := z) hn
  unfold Oper.wp
  simp [execOp, hop, hm, hx, hv, hrun, Result.andThen]
  exact hK' _ _ (hK w' r1 r2 r3)
end
theorem field_C (lo : Int) (A : Option Addr) (n c : Nat) (w : World) : (Instr.field 24 (.agg #[.int .i64 lo, .slice A n c]) 1).run Try.prog w = .ok (.slice A n c) w := by
  have hu := Try.underlying24
  unfold Instr.field
  simp [go_sem, hu, Result.andThen]
  rfl
theorem LP.neg_term_mul (y : LP) : LP.term 0 (-1) * y = -y := LP.ext fun k => by rw [LP.co_term_mul, LP.co_neg, Int.sub_zero]; omega
/-- The values of a map of terms. -/
theorem MapI.val_le {w : World} {b : Nat} {o : List Tm} (h : MapI w b o) {V : Nat} (hv : ∀ k, (LP.co (LP.mk o) k).natAbs ≤ V) : ∀ p ∈ o, p.2.natAbs ≤ V := fun p hp => by
  have := hv p.1
  rw [LP.co_mk, h.val (x := p.1) (c := p.2) hp] at this
  exact this
theorem LP.overR_zero {la lb : Int} {xs ys : List Int} (h : ys.length = 0) : LP.overR la xs lb ys = (6, 0, []) := by unfold LP.overR; rw [if_pos h]
theorem LP.overR_lead {la lb : Int} {xs ys : List Int} (h : ys.length ≠ 0) (h2 : ys.getD (ys.length - 1) 0 * ys.getD (ys.length - 1) 0 ≠ 1) : LP.overR la xs lb ys = (3, 0, []) := by unfold LP.overR; rw [if_neg h, if_pos h2]
theorem LP.overR_div {la lb : Int} {xs ys : List Int} (h : ys.length ≠ 0) (h2 : ys.getD (ys.length - 1) 0 * ys.getD (ys.length - 1) 0 = 1) {D : Int × LP × LP}
    (hD : LP.divS (LP.of lb ys) (lb + ys.length - 1) (ys.getD (ys.length - 1) 0) (xs.length + 1 - ys.length) (la + xs.length - ys.length - lb) (LP.of la xs) 0 = D) :
    LP.overR la xs lb ys = if D.1 ≠ 0 then (D.1, 0, []) else if (LP.canon D.2.1).2.length ≠ 0 then (7, 0, []) else LP.fit D.2.2 := by
  subst hD
  unfold LP.overR
  rw [if_neg h, if_neg (by rw [h2]; simp)]

set_option maxRecDepth 100000 in
set_option maxHeartbeats 8000000 in
theorem over_any (la : Int) (A : Option Addr) (n c : Nat) (xs : List Int) (lb : Int) (B : Option Addr) (m d : Nat) (ys : List Int) (w : World) (ha : SL w A n c xs) (hb : SL w B m d ys) (pa : LP.pfl la xs = 0) (pb : LP.pfl lb ys = 0) :
    Calls Try.prog 29 #[PV la A n c, PV lb B m d] w fun e w' => ∃ Q qn qc, e = .returned (.tuple #[PV (LP.overR la xs lb ys).2.1 Q qn qc, .int .i64 (LP.overR la xs lb ys).1]) ∧ SL w' Q qn qc (LP.overR la xs lb ys).2.2 ∧ NewA w Q qn ∧ Below w.heap.size w w' := by
  have hmm := @run_makeMap Try.prog
  obtain ⟨hxl, hla1, hla2, hcx, hxv⟩ := LP.pfl_zero pa
  obtain ⟨hyl, hlb1, hlb2, hcy, hyv⟩ := LP.pfl_zero pb
  have hln := ha.il.len
  have hlm := hb.il.len
  have hbw : Below w.heap.size w (((w.alloc (.cells #[.int .i64 la, .slice A n c] 24)).alloc (.cells #[.int .i64 lb, .slice B m d] 24)).alloc (.cells #[.int .i64 0, .slice none 0 0] 24)) := (((Below.refl _ _).alloc (Nat.le_refl _) _).alloc (by simp) _).alloc (by simp; omega) _
  have hb1 := ((Blk.new w 24 #[.int .i64 la, .slice A n c]).alloc (.cells #[.int .i64 lb, .slice B m d] 24)).alloc (.cells #[.int .i64 0, .slice none 0 0] 24)
  have hb2 := (Blk.new (w.alloc (.cells #[.int .i64 la, .slice A n c] 24)) 24 #[.int .i64 lb, .slice B m d]).alloc (.cells #[.int .i64 0, .slice none 0 0] 24)
  have hb3 := Blk.new ((w.alloc (.cells #[.int .i64 la, .slice A n c] 24)).alloc (.cells #[.int .i64 lb, .slice B m d] 24)) 24 #[.int .i64 0, .slice none 0 0]
  simp only [World.size_alloc] at hb2 hb3
  have HB00 := hide hb
  have HA := hide (ha.below hbw)
  have HB := hide (hb.below hbw)
  have HW := hide hbw
  have B1 := hide hb1
  have B2 := hide hb2
  have B3 := hide hb3
  have HXV := hide hxv
  have HYV := hide hyv
  clear hb1 hb2 hb3 hbw ha hb pa pb hcx hcy hxv hyv
  obtain ⟨g, hg⟩ : ∃ g, w.heap.size = g := ⟨_, rfl⟩
  have HG := hide hg
  clear hg
  go_enter Try.func29, Try.ntmps29
  go_upto_region 1 with fail
  obtain ⟨w0, hw0⟩ : ∃ x, (((w.alloc (.cells #[.int .i64 la, .slice A n c] 24)).alloc (.cells #[.int .i64 lb, .slice B m d] 24)).alloc (.cells #[.int .i64 0, .slice none 0 0] 24)) = x := ⟨_, rfl⟩
  have hg := HG.out
  rw [hw0] at HA HB HW B1 B2 B3 ⊢
  rw [hg] at HW B1 B2 B3 ⊢
  clear hw0 hg
  have l3 := B3.out.lt
  have p0 := B1.out.cell 0
  have p1 := B1.out.cell 1
  have q0 := B2.out.cell 0
  have q1 := B2.out.cell 1
  have z0 := B3.out.cell 0
  have z1 := B3.out.cell 1
  simp at p0 p1 q0 q1 z0 z1
  have f0 := B3.out.frozen 0
  have f1 := B3.out.frozen 1
  by_cases hm0 : m = 0
  · have HR := hide (LP.overR_zero (la := la) (lb := lb) (xs := xs) (ys := ys) (by omega))
    have e0 : ((m : Int) == 0) = true := by simp; omega
    clear hm0 hlm hln
    go_wp2_with fail
    refine bodyPost_ret (results_pe rfl _ rfl rfl ((B3.out.set_ 0 (.int .i64 0)).set_ 1 (.slice none 0 0))) rfl ?_
    rw [HR.out]
    refine ⟨none, 0, 0, rfl, SL.nil_ _, fun h => absurd h (by omega), ?_⟩
    rw [HG.out]
    exact (HW.out.setCell (p := ⟨g + 2, 0, none⟩) (by show g ≤ g + 2; omega) _).setCell (p := ⟨g + 2, 1, none⟩) (by show g ≤ g + 2; omega) _
  have e0 : ((m : Int) == 0) = false := by simp; omega
  obtain ⟨ad, hB, hal, hac⟩ := HB.out.il.mem (by omega)
  have cl := hac (m - 1) (by omega)
  subst hB
  obtain ⟨z, hz⟩ : ∃ z, ys.getD (m - 1) 0 = z := ⟨_, rfl⟩
  rw [hz] at cl
  have hw1 : IntKind.i64.wrap ((m : Int) - 1) = ((m - 1 : Nat) : Int) := by rw [IntKind.wrap_i64]; omega
  obtain ⟨k1, hk1⟩ : ∃ k, m - 1 = k := ⟨_, rfl⟩
  rw [hk1] at cl hw1 hz
  have hkn : k1 < m := by omega
  have hzl : ys.getD (ys.length - 1) 0 = z := by rw [hlm, hk1]; exact hz
  have hzv : z.natAbs ≤ 100000000 := by
    rw [← hz]
    have hl : k1 < ys.length := by omega
    rw [show ys.getD k1 0 = ys[k1] by simp [List.getD, List.getElem?_eq_getElem hl]]
    exact HYV.out _ (List.getElem_mem _)
  have hzz : (z * z).natAbs ≤ 100000000 * 100000000 := by rw [Int.natAbs_mul]; exact Nat.mul_le_mul hzv hzv
  have hwz : wrap64 (z * z) = z * z := wrap64_small (by omega)
  clear hac
  by_cases hl1 : z * z = 1
  · have HR : Hid (∀ D, LP.divS (LP.of lb ys) (lb + m - 1) z (n + 1 - m) (la + n - m - lb) (LP.of la xs) 0 = D → LP.overR la xs lb ys = if D.1 ≠ 0 then (D.1, 0, []) else if (LP.canon D.2.1).2.length ≠ 0 then (7, 0, []) else LP.fit D.2.2) := hide (fun D hD => LP.overR_div (by omega) (by rw [hzl]; exact hl1) (by rw [hzl, hlm, hln]; exact hD))
    have HXB := hide (fun k => LP.co_of_le (lo := la) HXV.out k)
    have HYB := hide (fun k => LP.co_of_le (lo := lb) HYV.out k)
    have HSY := hide (fun (w : World) (h : SL w (some ad) m d ys) => split_any lb (some ad) m d ys w h ⟨hlb1, hlb2⟩ (by omega))
    have HZ : Hid (z = 1 ∨ z = -1) := hide (by
      have h1 : z ∣ 1 := ⟨z, hl1.symm⟩
      have h2 : z.natAbs = 1 := Nat.dvd_one.1 (Int.natAbs_dvd_natAbs.2 h1)
      omega)
    have e1 : (z * z != 1) = false := by simpa using hl1
    have hn2 : n ≤ 200 := by omega
    have hm2 : m ≤ 200 := by omega
    clear hlm hln hz hzl hk1 hl1 hzz hzv hxl hyl
    go_wp2_with fail
    refine (split_any la A n c xs _ HA.out ⟨hla1, hla2⟩ hn2).mono ?_
    rintro e w1 ⟨br, orr, rfl, hbr, hmr, hor, hkr, hb⟩
    have hb7 : Below w0.heap.size w0 (w1.alloc (.map #[] 0)) := hb.alloc hb.size _
    have lbr : g + 1 + 1 < br := Nat.lt_of_lt_of_le l3 hbr
    have HMR := hide (hmr.below ((Below.refl _ _).alloc (Nat.le_refl _) (.map #[] 0)))
    have lqr : br < w1.heap.size := hmr.lt
    have HMQ := hide (MapI.made w1)
    have HORR := hide hor
    have HKR := hide hkr
    replace B1 := hide (B1.out.below hb7 (by omega))
    replace B2 := hide (B2.out.below hb7 (by omega))
    replace B3 := hide (B3.out.below hb7 l3)
    replace HW := hide (HW.out.trans (hb7.mono (by have := HW.out.size; rw [HG.out] at this; exact this)))
    clear hb hb7 hmr hor hkr hbr p0 p1 q0 q1 z0 z1 f0 f1 l3 cl HA HB hal
    go_upto_region 8 with fail
    obtain ⟨bq, hbq⟩ : ∃ b, w1.heap.size = b := ⟨_, rfl⟩
    obtain ⟨w2, hw2⟩ : ∃ x, w1.alloc (.map #[] 0) = x := ⟨_, rfl⟩
    rw [hw2] at HMR HMQ B1 B2 B3 HW ⊢
    rw [hbq] at HMQ lqr ⊢
    clear hw2 hbq
    have p0 := B1.out.cell 0
    have p1 := B1.out.cell 1
    have q0 := B2.out.cell 0
    have q1 := B2.out.cell 1
    simp at p0 p1 q0 q1
    go_wp2_with fail
    obtain ⟨D, hD⟩ : ∃ D, LP.divS (LP.of lb ys) (lb + m - 1) z (n + 1 - m) (la + n - m - lb) (LP.of la xs) 0 = D := ⟨_, rfl⟩
    have HRD := hide (HR.out D hD)
    have HD := hide hD
    clear hD HR p0 p1 q0 q1
    go_loopw [8, 10] (fun v8 v10 wr => ∃ (k br : Nat) (e : Int) (orr oq : List Tm), v8 = .map (some br) ∧ v10 = .int .i64 e ∧ k ≤ 200 ∧ (0 < k → e = la - lb + k - 1) ∧ (k = 0 → e < la - lb) ∧ -2500 ≤ e ∧ MapI wr br orr ∧ MapI wr bq oq ∧ br ≠ bq ∧ (∀ p ∈ orr, p.1.natAbs ≤ 3400) ∧ (∀ p ∈ oq, p.1.natAbs ≤ 3400 ∧ e < p.1) ∧ (∀ x, (LP.co (LP.mk orr) x).natAbs ≤ 100000000 + (200 - k) * 10000000000000000) ∧ LP.divS (LP.of lb ys) (lb + m - 1) z k e (LP.mk orr) (LP.mk oq) = D ∧ Blk wr g 24 #[.int .i64 la, .slice A n c] ∧ Blk wr (g + 1) 24 #[.int .i64 lb, .slice (some ad) m d] ∧ Blk wr (g + 1 + 1) 24 #[.int .i64 0, .slice none 0 0] ∧ Below g w wr ∧ g + 1 + 1 < bq) (fun _ v10 _ => (intOf v10 + 3000).toNat)
    case atStart => exact ⟨n + 1 - m, br, _, orr, [], rfl, rfl, by omega, by omega, by omega, by omega, HMR.out, HMQ.out, by omega, fun p hp => Nat.le_trans (HKR.out p hp) (by omega), by simp, fun x => by rw [HORR.out]; exact Nat.le_trans (HXB.out x) (by omega), by rw [HORR.out, ← HD.out]; congr 1 <;> omega, B1.out, B2.out, B3.out, HW.out, by omega⟩
    case round =>
      clear HMR HMQ HORR HKR B1 B2 B3 HW HD lqr lbr
      obtain ⟨k, br, e, orr, oq, rfl, rfl, hk, hke, hk0, he, hmr, hmq, hne, hkr, hkq, hvr, hdd, b1, b2, b3, hw, lbq⟩ := hrel
      have HMR := hide hmr
      have HMQ := hide hmq
      have HKR := hide hkr
      have HKQ := hide hkq
      have HVR := hide hvr
      have HDD := hide hdd
      have B1 := hide b1
      have B2 := hide b2
      have B3 := hide b3
      have HW := hide hw
      have l3 := b3.lt
      have p0 := b1.cell 0
      have p1 := b1.cell 1
      have q0 := b2.cell 0
      have q1 := b2.cell 1
      have z0 := b3.cell 0
      have z1 := b3.cell 1
      simp at p0 p1 q0 q1 z0 z1
      have f0 := b3.frozen 0
      have f1 := b3.frozen 1
      clear hmr hmq hkr hkq hvr hdd b1 b2 b3 hw
      by_cases hk1 : k = 0
      · have hcond : decide (la - lb ≤ e) = false := by have := hk0 hk1; simp; omega
        subst hk1
        have hD : D = (0, LP.mk orr, LP.mk oq) := HDD.out.symm
        subst hD
        have HRR : Hid (LP.overR la xs lb ys = if (LP.canon (LP.mk orr)).2.length ≠ 0 then (7, 0, []) else LP.fitL (LP.canon (LP.mk oq)).1 (LP.canon (LP.mk oq)).2) := hide (by rw [HRD.out, if_neg (by simp)]; rfl)
        have HKQ2 := hide (fun p hp => (HKQ.out p hp).1)
        clear HRD HDD HVR HKQ hk hke hk0
        go_wp2_with fail
        refine (tpoly_any br orr 3400 (by omega) _ HMR.out HKR.out).mono ?_
        rintro e7 w3 ⟨R, rn, rc, rfl, hs, _, hb⟩
        have hrl := hs.il.len
        rw [hrl] at HRR
        have HMQ3 := hide (HMQ.out.below hb)
        have B33 := hide (B3.out.below hb l3)
        have hgw : g ≤ wr.heap.size := by omega
        have HW3 := hide (HW.out.trans (hb.mono hgw))
        have l33 := B33.out.lt
        have z0 := B33.out.cell 0
        have z1 := B33.out.cell 1
        simp at z0 z1
        have f0 := B33.out.frozen 0
        have f1 := B33.out.frozen 1
        clear hs hb hrl
        have hfl := field_C (LP.canon (LP.mk orr)).1 R rn rc w3
        by_cases hrn : rn = 0
        · rw [if_neg (by omega)] at HRR
          subst hrn
          go_wp2_with fail
          refine (tpoly_any bq oq 3400 (by omega) _ HMQ3.out HKQ2.out).mono ?_
          rintro e8 w4 ⟨R2, rn2, rc2, rfl, hs, hnw, hb⟩
          have B34 := hide (B33.out.below hb l33)
          have HW4 := hide (HW3.out.trans (hb.mono (by omega)))
          have HS := hide hs
          have HNW : Hid (0 < rn2 → ∀ ad, R2 = some ad → g + 1 + 1 < ad.block) := hide (fun h ad e => by have := hnw h ad e; omega)
          have l34 := B34.out.lt
          clear hs hb hnw z0 z1 f0 f1
          go_wp2_with fail
          refine (fits_any _ R2 rn2 rc2 _ _ HS.out).mono ?_
          rintro e9 w5 ⟨R3, rn3, rc3, rfl, hs, hnw, hb⟩
          have B35 := hide (B34.out.below hb l34)
          have HW5 := hide (HW4.out.trans (hb.mono (by omega)))
          have HS5 := hide hs
          have HNW5 := hide hnw
          have z0 := B35.out.cell 0
          have z1 := B35.out.cell 1
          simp at z0 z1
          have f0 := B35.out.frozen 0
          have f1 := B35.out.frozen 1
          have l35 := B35.out.lt
          clear hs hb hnw B1 B2 B3 p0 p1 q0 q1 HMR HMQ HKR HKQ2 HMQ3
          obtain ⟨r, hr⟩ : ∃ r, LP.fitL (LP.canon (LP.mk oq)).1 (LP.canon (LP.mk oq)).2 = r := ⟨_, rfl⟩
          rw [hr] at HRR HS5 ⊢
          clear hr
          go_wp2_with fail
          refine bodyPost_ret (results_pe rfl _ rfl rfl ((B35.out.set_ 0 (.int .i64 r.2.1)).set_ 1 (.slice R3 rn3 rc3))) rfl ?_
          have HFAR : 0 < rn3 → ∀ ad, R3 = some ad → g + 1 + 1 < ad.block := fun h ad e => by
            obtain ⟨h1, h2⟩ := HNW5.out h
            exact HNW.out (by omega) ad (by rw [← h1]; exact e)
          rw [HRR.out]
          refine ⟨R3, rn3, rc3, rfl, ?_, fun h ad e => by have := HFAR h ad e; rw [HG.out]; omega, ?_⟩
          · exact (HS5.out.setCell (fun h ad e => by have := HFAR h ad e; omega) 0 _).setCell (fun h ad e => by have := HFAR h ad e; omega) 1 _
          · rw [HG.out]
            exact (HW5.out.setCell (p := ⟨g + 2, 0, none⟩) (by show g ≤ g + 2; omega) _).setCell (p := ⟨g + 2, 1, none⟩) (by show g ≤ g + 2; omega) _
        · have hf : decide ((0 : Int) < rn) = true := by simp; omega
          rw [if_pos hrn] at HRR
          go_wp2_with fail
          refine bodyPost_ret (results_pe rfl _ rfl rfl ((B33.out.set_ 0 (.int .i64 0)).set_ 1 (.slice none 0 0))) rfl ?_
          rw [HRR.out]
          refine ⟨none, 0, 0, rfl, SL.nil_ _, fun h => absurd h (by omega), ?_⟩
          rw [HG.out]
          exact (HW3.out.setCell (p := ⟨g + 2, 0, none⟩) (by show g ≤ g + 2; omega) _).setCell (p := ⟨g + 2, 1, none⟩) (by show g ≤ g + 2; omega) _
      · obtain ⟨k2, hk2⟩ : ∃ k2, k = k2 + 1 := ⟨k - 1, by omega⟩
        have he2 : e = la - lb + k2 := by have := hke (by omega); omega
        subst hk2
        have hcond : decide (la - lb ≤ e) = true := by simp; omega
        have heu : e ≤ 2200 := by omega
        have hel : -2000 ≤ e := by omega
        have HE := hide he2
        have HWF := hide (wfI (x := e + lb + m - 1) (by omega))
        obtain ⟨c0, hc0⟩ : ∃ c0, coefT orr (e + lb + m - 1) = c0 := ⟨_, rfl⟩
        have hcv : c0.natAbs ≤ 2100000000000000000 := by
          have := HVR.out (e + lb + m - 1)
          rw [LP.co_mk, hc0] at this
          omega
        obtain ⟨kk, hkk⟩ : ∃ kk, c0 * z = kk := ⟨_, rfl⟩
        have hkv : kk.natAbs ≤ 2100000000000000000 := by
          rw [← hkk]
          rcases HZ.out with h | h <;> rw [h] <;> omega
        have hwk : wrap64 (c0 * z) = kk := by rw [hkk]; exact wrap64_small (by omega)
        have HCO := hide hc0
        have HD2 : Hid ((if 100000000 < kk.natAbs then ((2, 0, 0) : Int × LP × LP) else LP.divS (LP.of lb ys) (lb + m - 1) z k2 (e - 1) (LP.mk orr + -(LP.term e kk * LP.of lb ys)) (LP.mk oq + LP.term e kk)) = D) := hide (by
          have h := HDD.out
          unfold LP.divS at h
          rw [show e + (lb + m - 1) = e + lb + m - 1 by omega, LP.co_mk, hc0, hkk] at h
          exact h)
        clear hke hk0 hk1 hc0 hcv hkk HDD he2
        by_cases hbig : 100000000 < kk
        · have hD := HD2.out
          rw [if_pos (by omega)] at hD
          have HRR : Hid (LP.overR la xs lb ys = (2, 0, [])) := hide (by rw [HRD.out, ← hD]; rfl)
          clear hD HD2 HRD
          go_wp2_with ((with_reducible show wpList _ _ _ (Oper.mk _ (.lookup _ _ _ _) _ _ _ _ :: _) _ _); refine wpList_lookI _ rfl _ _ _ rfl ut br orr (e + lb + m - 1) rfl HMR.out rfl HWF.out ?_; rw [HCO.out])
          refine bodyPost_ret (results_pe rfl _ rfl rfl ((B3.out.set_ 0 (.int .i64 0)).set_ 1 (.slice none 0 0))) rfl ?_
          rw [HRR.out]
          refine ⟨none, 0, 0, rfl, SL.nil_ _, fun h => absurd h (by omega), ?_⟩
          rw [HG.out]
          exact (HW.out.setCell (p := ⟨g + 2, 0, none⟩) (by show g ≤ g + 2; omega) _).setCell (p := ⟨g + 2, 1, none⟩) (by show g ≤ g + 2; omega) _
        by_cases hsml : kk < -100000000
        · have hD := HD2.out
          rw [if_pos (by omega)] at hD
          have HRR : Hid (LP.overR la xs lb ys = (2, 0, [])) := hide (by rw [HRD.out, ← hD]; rfl)
          clear hD HD2 HRD
          go_wp2_with ((with_reducible show wpList _ _ _ (Oper.mk _ (.lookup _ _ _ _) _ _ _ _ :: _) _ _); refine wpList_lookI _ rfl _ _ _ rfl ut br orr (e + lb + m - 1) rfl HMR.out rfl HWF.out ?_; rw [HCO.out])
          refine bodyPost_ret (results_pe rfl _ rfl rfl ((B3.out.set_ 0 (.int .i64 0)).set_ 1 (.slice none 0 0))) rfl ?_
          rw [HRR.out]
          refine ⟨none, 0, 0, rfl, SL.nil_ _, fun h => absurd h (by omega), ?_⟩
          rw [HG.out]
          exact (HW.out.setCell (p := ⟨g + 2, 0, none⟩) (by show g ≤ g + 2; omega) _).setCell (p := ⟨g + 2, 1, none⟩) (by show g ≤ g + 2; omega) _
        have hk8 : kk.natAbs ≤ 100000000 := by omega
        have HD3 := hide (show LP.divS (LP.of lb ys) (lb + m - 1) z k2 (e - 1) (LP.mk orr + -(LP.term e kk * LP.of lb ys)) (LP.mk oq + LP.term e kk) = D by have h := HD2.out; rw [if_neg (by omega)] at h; exact h)
        clear HD2
        have HWFE := hide (wfI (x := e) (by omega))
        have hleq : oq.length < 1000000 := Nat.lt_of_le_of_lt (nodup_leT HMQ.out.nodup (fun p hp => (HKQ.out p hp).1)) (by omega)
        go_upto_region 15 with (first
          | ((with_reducible show wpList _ _ _ (Oper.mk _ (.lookup _ _ _ _) _ _ _ _ :: _) _ _); refine wpList_lookI _ rfl _ _ _ rfl ut br orr (e + lb + m - 1) rfl HMR.out rfl HWF.out ?_; rw [HCO.out])
          | ((with_reducible show wpList _ _ _ (Oper.mk _ (.mapUpdate _ _ _ _) _ _ _ _ :: _) _ _); refine wpList_putI _ rfl _ _ _ _ rfl ut bq oq e _ rfl HMQ.out hleq rfl rfl HWFE.out ?_; intro w9 hm9 hg9 hs9; try simp only [hwk] at hm9))
        have hgw : g ≤ wr.heap.size := by omega
        have HM9 := hide hm9
        have HMR9 := hide (HMR.out.kept hg9 (by intro e; injection e with e; omega))
        have B19 := hide (B1.out.grown hg9 (by intro e; injection e with e; omega))
        have B29 := hide (B2.out.grown hg9 (by intro e; injection e with e; omega))
        have B39 := hide (B3.out.grown hg9 (by intro e; injection e with e; omega))
        have HW9 := hide (HW.out.grown hg9 hgw (fun j hj => by injection hj with hj; omega))
        have lq9 : bq < w9.heap.size := hm9.lt
        have lr9 : br < w9.heap.size := HMR9.out.lt
        have HQE : Hid (LP.mk (putT oq e kk) = LP.mk oq + LP.term e kk) := hide (putT_mk HMQ.out.nodup rfl _ _ _ (by
          rw [coefT_not fun p hp h => by have := (HKQ.out p hp).2; omega, Int.zero_add]))
        have HKQ9 := hide (show ∀ p ∈ putT oq e kk, p.1.natAbs ≤ 3400 ∧ e - 1 < p.1 from fun p hp => by
          rcases putT_keys _ _ _ p hp with h | h
          · have := HKQ.out p h; omega
          · rw [h]; show e.natAbs ≤ 3400 ∧ e - 1 < e; omega)
        have HT9 := hide (MapI.made w9)
        clear hg9 hs9 hm9 p0 p1 q0 q1 z0 z1 f0 f1 B1 B2 B3 HMR HMQ HW HKQ hleq l3 HCO HWF
        go_wp2_with ((with_reducible show wpList _ _ _ (Oper.mk _ (.insert _ _ _ _) _ _ _ _ :: _) _ _); refine wpList_insI _ rfl _ _ _ _ rfl ut w9.heap.size [] e _ rfl HT9.out (by simp) rfl rfl HWFE.out ?_; intro w11 hm11 hg11 hs11; (try simp only [hwk] at hm11); have B2b := hide ((B29.out.alloc (.map #[] 0)).grown hg11 (by intro e; injection e with e; omega)); have q0 := B2b.out.cell 0; have q1 := B2b.out.cell 1; simp at q0 q1)
        obtain ⟨bt, hbt⟩ : ∃ b, w9.heap.size = b := ⟨_, rfl⟩
        rw [hbt] at hm11 hg11 lq9 lr9 ⊢
        have HT11 := hide hm11
        have HM11 := hide ((HM9.out.below ((Below.refl _ _).alloc (Nat.le_refl _) (.map #[] 0))).kept hg11 (by intro e; injection e with e; omega))
        have HMR11 := hide ((HMR9.out.below ((Below.refl _ _).alloc (Nat.le_refl _) (.map #[] 0))).kept hg11 (by intro e; injection e with e; omega))
        have B111 := hide ((B19.out.alloc (.map #[] 0)).grown hg11 (by intro e; injection e with e; omega))
        have B311 := hide ((B39.out.alloc (.map #[] 0)).grown hg11 (by intro e; injection e with e; omega))
        have B211 := hide B2b.out
        have HW11 := hide ((HW9.out.alloc (by omega) (.map #[] 0)).grown hg11 (by simp; omega) (fun j hj => by injection hj with hj; omega))
        clear hm11 hg11 hs11 B2b q0 q1 HM9 HMR9 B19 B29 B39 HW9 HT9
        refine (HSY.out _ (HB00.out.below (by rw [HG.out]; exact HW11.out))).mono ?_
        rintro e3 w12 ⟨bs, os, rfl, hbs, hms, hos, hks, hb⟩
        have l11 : g ≤ w11.heap.size := by have := HT11.out.lt; omega
        have HT12 := hide (HT11.out.below hb)
        have HM12 := hide (HM11.out.below hb)
        have HMR12 := hide (HMR11.out.below hb)
        have B112 := hide (B111.out.below hb B111.out.lt)
        have B212 := hide (B211.out.below hb B211.out.lt)
        have B312 := hide (B311.out.below hb B311.out.lt)
        have HW12 := hide (HW11.out.trans (hb.mono l11))
        have HMS := hide hms
        have HOS := hide hos
        have HKS := hide hks
        have HVS := hide (hms.val_le (V := 100000000) (fun k => by rw [hos]; exact HYB.out k))
        have l12 : g ≤ w12.heap.size := Nat.le_trans l11 hb.size
        clear hb hbs hms hos hks HT11 HM11 HMR11 B111 B211 B311 HW11
        go_wp2_with fail
        refine (tmul_any bt bs [(e, kk)] os 2200 1200 3400 100000000 100000000 (by omega) (by omega) (by simp) _ HT12.out HMS.out (by simp; omega) HKS.out (by simp; omega) HVS.out).mono ?_
        rintro e4 w13 ⟨bo, oo, rfl, hbo, hmo, hoo, hko, hb⟩
        have HM13 := hide (HM12.out.below hb)
        have HMR13 := hide (HMR12.out.below hb)
        have B113 := hide (B112.out.below hb B112.out.lt)
        have B213 := hide (B212.out.below hb B212.out.lt)
        have B313 := hide (B312.out.below hb B312.out.lt)
        have HW13 := hide (HW12.out.trans (hb.mono l12))
        have l13 : g ≤ w13.heap.size := Nat.le_trans l12 hb.size
        have HOO : Hid (LP.mk oo = LP.term e kk * LP.of lb ys) := hide (by rw [hoo, HOS.out]; rfl)
        have HPV : Hid (∀ x, (LP.co (LP.term e kk * LP.of lb ys) x).natAbs ≤ 10000000000000000) := hide (fun x => by
          rw [LP.co_term_mul, Int.natAbs_mul]
          exact Nat.le_trans (Nat.mul_le_mul hk8 (HYB.out (x - e))) (by decide))
        have HVO := hide (hmo.val_le (V := 10000000000000000) (fun k => by rw [HOO.out]; exact HPV.out k))
        have HMO := hide hmo
        have HKO := hide hko
        have HVRR := hide (HMR13.out.val_le (V := 100000000 + (200 - (k2 + 1)) * 10000000000000000) HVR.out)
        clear hb hbo hmo hoo hko HT12 HM12 HMR12 B112 B212 B312 HW12 HMS HOS HKS HVS
        go_wp2_with fail
        refine (plus_any br bo orr oo (-1) (.inr rfl) 3400 (by omega) _ HMR13.out HMO.out HKR.out HKO.out (fun p hp => Nat.le_trans (HVRR.out p hp) (by omega)) (fun p hp => Nat.le_trans (HVO.out p hp) (by omega))).mono ?_
        rintro e5 w14 ⟨bn, on, rfl, hbn, hmn, hon, hkn2, hb⟩
        have HM14 := hide (HM13.out.below hb)
        have lq14 := HM13.out.lt
        have B114 := hide (B113.out.below hb B113.out.lt)
        have B214 := hide (B213.out.below hb B213.out.lt)
        have B314 := hide (B313.out.below hb B313.out.lt)
        have HW14 := hide (HW13.out.trans (hb.mono l13))
        have HON : Hid (LP.mk on = LP.mk orr + -(LP.term e kk * LP.of lb ys)) := hide (by rw [hon, HOO.out, LP.neg_term_mul])
        have HVN : Hid (∀ x, (LP.co (LP.mk on) x).natAbs ≤ 100000000 + (200 - k2) * 10000000000000000) := hide (fun x => by
          rw [HON.out, LP.co_add, LP.co_neg]
          have h1 := HVR.out x
          have h2 := HPV.out x
          have h3 : 200 - k2 = 200 - (k2 + 1) + 1 := by omega
          rw [h3, Nat.succ_mul]
          generalize (200 - (k2 + 1)) * 10000000000000000 = q at *
          omega)
        have HMN := hide hmn
        have HKN := hide hkn2
        have hbn2 : bn ≠ bq := by omega
        clear hb hbn hmn hon hkn2 HM13 HMR13 B113 B213 B313 HW13 HMO HKO HVRR HVO HPV HOO
        go_wp2_with fail
        go_roundw
        case rel => exact ⟨k2, bn, e - 1, on, _, rfl, by congr 1, by omega, fun h => by have := HE.out; omega, fun h => by have := HE.out; omega, by omega, HMN.out, HM14.out, hbn2, HKN.out, HKQ9.out, HVN.out, by rw [HON.out, HQE.out]; exact HD3.out, B114.out, B214.out, B314.out, HW14.out, lbq⟩
        case measure => simp [intOf]; omega
  · have HR := hide (LP.overR_lead (la := la) (lb := lb) (xs := xs) (ys := ys) (by omega) (by rw [hzl]; exact hl1))
    have e1 : (z * z != 1) = true := by simpa using hl1
    clear hlm hln hz hzl hk1 hl1 hzz hzv
    go_wp2_with fail
    refine bodyPost_ret (results_pe rfl _ rfl rfl ((B3.out.set_ 0 (.int .i64 0)).set_ 1 (.slice none 0 0))) rfl ?_
    rw [HR.out]
    refine ⟨none, 0, 0, rfl, SL.nil_ _, fun h => absurd h (by omega), ?_⟩
    rw [HG.out]
    exact (HW.out.setCell (p := ⟨g + 2, 0, none⟩) (by show g ≤ g + 2; omega) _).setCell (p := ⟨g + 2, 1, none⟩) (by show g ≤ g + 2; omega) _
end Go.Proofs.Ytbajelbfgekilaa
