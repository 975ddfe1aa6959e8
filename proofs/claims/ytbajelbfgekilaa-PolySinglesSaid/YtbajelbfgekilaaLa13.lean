/- Package laurent: Div. -/
import Derived.Test.YtbajelbfgekilaaLa12
import Derived.Test.YtbajelbfgekilaaLa3
import Derived.Test.YtbajelbfgekilaaSetRow
import Derived.Test.YtbajelbfgekilaaTov
import Derived.Test.YtbajelbfgekilaaLa8
namespace Go.Proofs.Ytbajelbfgekilaa
set_option linter.unusedVariables false
set_option linter.unusedSimpArgs false
open Go.RowKit

theorem LP.canon_any (la : Int) (rs : List Int) : (canon (of la rs)).2.length = 0 ↔ rs.any (fun x => x != 0) = false := by
  constructor
  · intro h
    have h1 : of la rs = 0 := by
      rw [← of_canon (of la rs), List.eq_nil_of_length_eq_zero h]
      rfl
    rw [List.any_eq_false]
    intro x hx
    obtain ⟨j, hj, rfl⟩ := List.mem_iff_getElem.1 hx
    have h2 : co (of la rs) (la + j) = 0 := by rw [h1, co_zero]
    rw [co_of_at hj, List.getD_eq_getElem?_getD, List.getElem?_eq_getElem hj] at h2
    simpa using h2
  · intro h
    rw [List.any_eq_false] at h
    have h1 : canon (of la rs) = (0, []) := canon_eq (.inl ⟨rfl, rfl⟩) (of_zeros la fun j hj => by
      have := h rs[j] (List.getElem_mem _)
      rw [List.getD_eq_getElem?_getD, List.getElem?_eq_getElem hj]
      simpa using this)
    rw [h1]; rfl
/-- What comes of a division is what the document says. -/
theorem over_of_out {la lb lead : Int} {xs ys : List Int} {E : Int} {qs : List Int} (h0 : 0 < ys.length) (hl : ys.getD (ys.length - 1) 0 = lead) (hu : lead = 1 ∨ lead = -1) (h : DvOut xs ys lead (xs.length + 1 - ys.length) E qs) :
    (E ≠ 0 → LP.overR la xs lb ys = (E, 0, [])) ∧ (E = 0 → LP.overR la xs lb ys = LP.fit (LP.of (la - lb) qs)) := by
  have hsq : lead * lead = 1 := by rcases hu with e | e <;> rw [e] <;> rfl
  have he : LP.divS (LP.of lb ys) (lb + ys.length - 1) lead (xs.length + 1 - ys.length) (la + xs.length - ys.length - lb) (LP.of la xs) 0 = LP.divS (LP.of lb ys) (lb + ys.length - 1) lead (xs.length + 1 - ys.length) (la - lb + ((xs.length + 1 - ys.length : Nat) : Int) - 1) (LP.of la xs) 0 := by
    cases hn : xs.length + 1 - ys.length with
    | zero => rfl
    | succ k => rw [show la + (xs.length : Int) - ys.length - lb = la - lb + ((k + 1 : Nat) : Int) - 1 by omega]
  unfold LP.overR
  simp only [hl]
  rw [if_neg (by omega), hsq, if_neg (fun h => h rfl), he]
  rcases h with ⟨rfl, rfl, h⟩ | ⟨s, hk, h⟩
  · rw [h la lb, if_pos (by decide)]
    exact ⟨fun _ => rfl, fun h => absurd h (by decide)⟩
  · have e := (hk la lb).eq
    rw [Nat.sub_self] at e
    rw [← e]
    show (_ → (if (0 : Int) ≠ 0 then _ else if (LP.canon (LP.of la s.1)).2.length ≠ 0 then (7, 0, []) else LP.fit (LP.of (la - lb) s.2.1)) = _) ∧ (_ → (if (0 : Int) ≠ 0 then _ else if (LP.canon (LP.of la s.1)).2.length ≠ 0 then (7, 0, []) else LP.fit (LP.of (la - lb) s.2.1)) = _)
    rw [if_neg (by decide)]
    have hc := LP.canon_any la s.1
    rcases h with ⟨h1, rfl, rfl⟩ | ⟨h1, rfl, rfl⟩
    · rw [if_pos (by rw [Ne, hc, h1]; decide)]
      exact ⟨fun _ => rfl, fun h => absurd h (by decide)⟩
    · rw [if_neg (by rw [Ne, hc, h1]; simp)]
      exact ⟨fun h => absurd rfl h, fun _ => rfl⟩
theorem LP.two2_ok {la lb : Int} {xs ys : List Int} {r : PR} (h1 : pfl la xs = 0) (h2 : pfl lb ys = 0) : two2 la xs lb ys r = r := by unfold two2; rw [if_pos h1, if_pos h2]

set_option maxRecDepth 100000 in
set_option maxHeartbeats 8000000 in
theorem ldiv_any (la : Int) (A : Option Addr) (n c : Nat) (xs : List Int) (lb : Int) (B : Option Addr) (m d : Nat) (ys : List Int) (w : World) (ha : SL w A n c xs) (hb : SL w B m d ys) :
    Calls Try.prog 28 #[PV la A n c, PV lb B m d] w (GivesPE w (LP.divR la xs lb ys)) := by
  have hla := ha.il.len
  have hlb := hb.il.len
  have hbw : Below w.heap.size w (((w.alloc (.cells #[.int .i64 la, .slice A n c] 24)).alloc (.cells #[.int .i64 lb, .slice B m d] 24)).alloc (.cells #[.int .i64 0, .slice none 0 0] 24)) := (((Below.refl _ _).alloc (Nat.le_refl _) _).alloc (by simp) _).alloc (by simp; omega) _
  have hA := ((Blk.new w 24 #[.int .i64 la, .slice A n c]).alloc (.cells #[.int .i64 lb, .slice B m d] 24)).alloc (.cells #[.int .i64 0, .slice none 0 0] 24)
  have hB := (Blk.new (w.alloc (.cells #[.int .i64 la, .slice A n c] 24)) 24 #[.int .i64 lb, .slice B m d]).alloc (.cells #[.int .i64 0, .slice none 0 0] 24)
  have hR := Blk.new ((w.alloc (.cells #[.int .i64 la, .slice A n c] 24)).alloc (.cells #[.int .i64 lb, .slice B m d] 24)) 24 #[.int .i64 0, .slice none 0 0]
  simp only [World.size_alloc] at hB hR
  have HA := hide (ha.below hbw)
  have HB := hide (hb.below hbw)
  have HW := hide hbw
  clear ha hb hbw
  have BA := hide hA
  have BB := hide hB
  have BR := hide hR
  clear hA hB hR
  obtain ⟨T, hT⟩ : ∃ T, LP.divR la xs lb ys = T := ⟨_, rfl⟩
  have HT := hide hT
  rw [hT]
  clear hT
  go_enter Try.func28, Try.ntmps28
  go_upto_region 1 with fail
  obtain ⟨w0, hw0⟩ : ∃ x, (((w.alloc (.cells #[.int .i64 la, .slice A n c] 24)).alloc (.cells #[.int .i64 lb, .slice B m d] 24)).alloc (.cells #[.int .i64 0, .slice none 0 0] 24)) = x := ⟨_, rfl⟩
  rw [hw0] at HA HB HW BA BB BR ⊢
  clear hw0
  have hq0 := BA.out.cell 0
  have hq1 := BA.out.cell 1
  have hr0 := BB.out.cell 0
  have hr1 := BB.out.cell 1
  simp at hq0 hq1 hr0 hr1
  go_wp2_with fail
  refine (checkBoth_any la A n c xs lb B m d ys _ HA.out HB.out).mono ?_
  rintro e w1 ⟨rfl, hb⟩
  replace HA := hide (HA.out.below hb)
  replace HB := hide (HB.out.below hb)
  replace HW := hide (HW.out.trans (hb.mono HW.out.size))
  replace BA := hide (BA.out.below hb BA.out.lt)
  replace BB := hide (BB.out.below hb BB.out.lt)
  replace BR := hide (BR.out.below hb BR.out.lt)
  clear hb hq0 hq1 hr0 hr1
  have hf0 := BR.out.frozen 0
  have hf1 := BR.out.frozen 1
  have hc0 := BR.out.cell 0
  have hc1 := BR.out.cell 1
  simp at hc0 hc1
  have hlt := BR.out.lt
  have HOUT : Hid (∀ p : Int, GivesPE w (p, 0, []) (.returned (.tuple #[PV 0 none 0 0, .int .i64 p])) ((w1.setCell ⟨w.heap.size + 1 + 1, 0, none⟩ (.int .i64 0)).setCell ⟨w.heap.size + 1 + 1, 1, none⟩ (.slice none 0 0))) := hide (fun p => ⟨none, 0, 0, rfl, SL.nil_ _, fun h => absurd h (by omega), (HW.out.setCell (p := ⟨w.heap.size + 1 + 1, 0, none⟩) (by show w.heap.size ≤ w.heap.size + 1 + 1; omega) _).setCell (p := ⟨w.heap.size + 1 + 1, 1, none⟩) (by show w.heap.size ≤ w.heap.size + 1 + 1; omega) _⟩)
  obtain ⟨p, hp⟩ : ∃ p, LP.pfl2 la xs lb ys = p := ⟨_, rfl⟩
  rw [hp]
  have HP := hide hp
  clear hp
  by_cases hp0 : p = 0
  case neg =>
    have HTE : Hid (T = (p, 0, [])) := hide (by
      rw [← HT.out, ← HP.out]
      have hp2 : LP.pfl2 la xs lb ys ≠ 0 := by rw [HP.out]; exact hp0
      unfold LP.divR LP.two2
      unfold LP.pfl2 at hp2 ⊢
      by_cases h : LP.pfl la xs = 0
      · rw [if_pos h, if_pos h] at *; rw [if_neg hp2]
      · rw [if_neg h, if_neg h])
    have hne : (p != 0) = true := by simpa using hp0
    clear hp0
    go_wp2_with fail
    refine bodyPost_ret (results_pe rfl _ rfl rfl ((BR.out.set_ 0 (.int .i64 0)).set_ 1 (.slice none 0 0))) rfl ?_
    rw [HTE.out]
    exact HOUT.out p
  subst hp0
  have hpf : LP.pfl la xs = 0 ∧ LP.pfl lb ys = 0 := by
    have h := HP.out
    unfold LP.pfl2 at h
    by_cases h1 : LP.pfl la xs = 0
    · rw [if_pos h1] at h; exact ⟨h1, h⟩
    · rw [if_neg h1] at h; exact absurd h h1
  have HTO : Hid (T = LP.overR la xs lb ys) := hide (by
    rw [← HT.out]
    unfold LP.divR
    rw [LP.two2_ok hpf.1 hpf.2])
  obtain ⟨pa1, pa2, pa3, _, _⟩ := LP.pfl_zero hpf.1
  obtain ⟨pb1, pb2, pb3, _, _⟩ := LP.pfl_zero hpf.2
  have HXA := hide (LP.getD_pfl hpf.1)
  have HXB := hide (LP.getD_pfl hpf.2)
  clear hpf HP HT
  rw [hla] at pa1
  rw [hlb] at pb1
  have hq0 := BA.out.cell 0
  have hq1 := BA.out.cell 1
  have hr0 := BB.out.cell 0
  have hr1 := BB.out.cell 1
  simp at hq0 hq1 hr0 hr1
  by_cases hm0 : m = 0
  · have HTE : Hid (T = (6, 0, [])) := hide (by rw [HTO.out]; unfold LP.overR; rw [if_pos (by omega)])
    subst hm0
    go_wp2_with fail
    refine bodyPost_ret (results_pe rfl _ rfl rfl ((BR.out.set_ 0 (.int .i64 0)).set_ 1 (.slice none 0 0))) rfl ?_
    rw [HTE.out]
    exact HOUT.out 6
  have b4 : ((m : Int) == 0) = false := by simp; omega
  have hw1 : IntKind.i64.wrap ((m : Int) - 1) = ((m - 1 : Nat) : Int) := by rw [IntKind.wrap_i64]; omega
  obtain ⟨ad, hB, hcl⟩ := HB.out.il.at_ (k := m - 1) (by omega)
  subst hB
  obtain ⟨lead, hlead⟩ : ∃ x, ys.getD (m - 1) 0 = x := ⟨_, rfl⟩
  rw [hlead] at hcl
  have HL := hide hlead
  obtain ⟨m1, hm1⟩ : ∃ k, m - 1 = k := ⟨_, rfl⟩
  rw [hm1] at hcl hw1
  have hm1m : m1 < m := by omega
  by_cases hlu : lead = 1 ∨ lead = -1
  case neg =>
    have HTE : Hid (T = (3, 0, [])) := hide (by
      rw [HTO.out]
      refine LP.overR_lead (by omega) ?_
      rw [hlb, hlead]
      intro h
      have h2 : (lead - 1) * (lead + 1) = 0 := by
        rw [Int.sub_mul, Int.mul_add, Int.one_mul, h]; omega
      rcases Int.mul_eq_zero.1 h2 with h | h <;> omega)
    have h1 : (lead != 1) = true := by simp; omega
    have h2 : (lead != -1) = true := by simp; omega
    clear hlu hlead hm1
    go_wp2_with fail
    refine bodyPost_ret (results_pe rfl _ rfl rfl ((BR.out.set_ 0 (.int .i64 0)).set_ 1 (.slice none 0 0))) rfl ?_
    rw [HTE.out]
    exact HOUT.out 3
  go_upto_region 7 with fail
  go_cut [30, 31, 32, 33, 34, 35] (fun _ _ _ _ _ v wx => v = .bool false ∧ w1 = wx)
  case first =>
    rcases hlu with rfl | rfl
    · go_wp2_with fail
      go_meet
      exact ⟨rfl, rfl⟩
    · go_wp2_with fail
      go_meet
      exact ⟨rfl, rfl⟩
  case rest =>
    obtain ⟨rfl, rfl⟩ := hcut
    have HDV := hide (divide_any A n c xs (some ad) m d ys lead w1 HA.out HB.out (by omega) pa1 pb1 hlead hlu HXA.out HXB.out)
    have HOV : Hid (∀ E qs, DvOut xs ys lead (n + 1 - m) E qs → (E ≠ 0 → T = (E, 0, [])) ∧ (E = 0 → T = LP.fit (LP.of (la - lb) qs))) := hide (fun E qs h => by
      rw [HTO.out]
      exact over_of_out (by omega) (by rw [hlb]; exact hlead) hlu (by rw [hla, hlb]; exact h))
    clear hlead hm1 hm1m hw1 hcl hlu HXA HXB HTO HL
    go_wp2_with fail
    refine HDV.out.mono ?_
    rintro e w2 ⟨Q, qn, qc, qs, E, rfl, hsl, hnw, hb, hout⟩
    have HSL := hide hsl
    have HFAR := hide (show 0 < qn → ∀ ad, Q = some ad → w.heap.size + 1 + 1 < ad.block from fun h ad e => by have := hnw h ad e; omega)
    replace HW := hide (HW.out.trans (hb.mono HW.out.size))
    replace BA := hide (BA.out.below hb BA.out.lt)
    replace BB := hide (BB.out.below hb BB.out.lt)
    replace BR := hide (BR.out.below hb BR.out.lt)
    obtain ⟨HO1, HO2⟩ := HOV.out E qs hout
    have HO1 := hide HO1
    have HO2 := hide HO2
    have HQL : Hid (E = 0 → qs.length ≤ 200) := hide (fun h0 => by
      rcases hout with ⟨h, _⟩ | ⟨s, hk, ⟨_, h, _⟩ | ⟨_, _, rfl⟩⟩
      · rw [h0] at h; cases h
      · rw [h0] at h; cases h
      · rw [(hk la lb).lenq]; omega)
    clear hsl hnw hb hout hq0 hq1 hr0 hr1 hf0 hf1 hc0 hc1 hlt HOUT HDV HOV
    have hf0 := BR.out.frozen 0
    have hf1 := BR.out.frozen 1
    have hc0 := BR.out.cell 0
    have hc1 := BR.out.cell 1
    have hq0 := BA.out.cell 0
    have hr0 := BB.out.cell 0
    simp at hc0 hc1 hq0 hr0
    have hlt := BR.out.lt
    by_cases hE : E = 0
    case neg =>
      have HTE := hide (HO1.out hE)
      have hne : (E != 0) = true := by simpa using hE
      clear hE HO1 HO2
      go_wp2_with fail
      refine bodyPost_ret (results_pe rfl _ rfl rfl ((BR.out.set_ 0 (.int .i64 0)).set_ 1 (.slice none 0 0))) rfl ?_
      rw [HTE.out]
      exact ⟨none, 0, 0, rfl, SL.nil_ _, fun h => absurd h (by omega), (HW.out.setCell (p := ⟨w.heap.size + 1 + 1, 0, none⟩) (by show w.heap.size ≤ w.heap.size + 1 + 1; omega) _).setCell (p := ⟨w.heap.size + 1 + 1, 1, none⟩) (by show w.heap.size ≤ w.heap.size + 1 + 1; omega) _⟩
    have HTE := hide (HO2.out hE)
    subst hE
    clear HO1 HO2
    have hqn : qn ≤ 1000000 := by have h := HQL.out rfl; rw [HSL.out.il.len] at h; omega
    have HQ0 : Hid (qn = 0 → (LP.canon (LP.of (la - lb) qs)).2 = []) := hide (fun h => by
      have h1 := HSL.out.il.len
      rw [List.eq_nil_of_length_eq_zero (show qs.length = 0 by omega)]
      have h2 : LP.canon (LP.of (la - lb) []) = (0, []) := LP.canon_eq (.inl ⟨rfl, rfl⟩) rfl
      rw [h2])
    clear HQL
    have HT := hide (trimmed_any (la - lb) Q qn qc qs w2 HSL.out (by omega) hqn)
    have hwl : IntKind.i64.wrap (la - lb) = la - lb := by rw [IntKind.wrap_i64]; omega
    have HF : Hid (T = LP.fitL (LP.canon (LP.of (la - lb) qs)).1 (LP.canon (LP.of (la - lb) qs)).2) := hide (by rw [HTE.out]; rfl)
    generalize LP.canon (LP.of (la - lb) qs) = C at *
    clear HTE
    go_wp2_with fail
    refine HT.out.mono ?_
    rintro e w3 ⟨B3, m3, d3, rfl, hsl, hbl, hb⟩
    have HSL1 := hide hsl
    have HM3 := hide hsl.il.len
    have HBL := hide hbl
    have HB1 := hide (HW.out.trans (hb.mono HW.out.size))
    have HK1 := hide (BR.out.below hb BR.out.lt)
    clear hsl hbl hb HW BR BA BB HT hf0 hf1 hc0 hc1 hlt HSL hq0 hr0
    go_wp2_with fail
    refine (accepted_any C.1 B3 m3 d3 C.2 w3 HSL1.out).mono ?_
    rintro e w4 ⟨B2, m2, d2, rfl, hsl, hbl, hb⟩
    rw [← HF.out] at hsl ⊢
    have HSL2 := hide hsl
    have HBL2 := hide hbl
    have HB2 := hide (HB1.out.trans (hb.mono HB1.out.size))
    have HK2 := hide (HK1.out.below hb HK1.out.lt)
    clear hsl hbl hb HB1 HK1 HSL1
    have hf0 := HK2.out.frozen 0
    have hf1 := HK2.out.frozen 1
    have hc0 := HK2.out.cell 0
    have hc1 := HK2.out.cell 1
    simp at hc0 hc1
    have hbw := HK2.out.lt
    have HFAR2 : Hid (0 < m2 → ∀ ad, B2 = some ad → w.heap.size + 1 + 1 < ad.block) := hide (fun h ad e => by
      obtain ⟨h1, h2⟩ := HBL2.out h
      obtain ⟨a, b, e1, e2, e3⟩ := HBL.out (by omega)
      rw [h1, e2] at e
      injection e with e
      rw [← e, e3]
      refine HFAR.out ?_ a e1
      by_cases hz : qn = 0
      · have h5 := HM3.out
        rw [HQ0.out hz] at h5
        simp at h5
        omega
      · omega)
    clear HBL HBL2
    obtain ⟨e0, l0, c0⟩ := T
    go_wp2_with fail
    refine bodyPost_ret (results_pe rfl _ rfl rfl ((HK2.out.set_ 0 (.int .i64 l0)).set_ 1 (.slice B2 m2 d2))) rfl ?_
    refine ⟨B2, m2, d2, rfl, ?_, fun h ad e => by have := HFAR2.out h ad e; omega, ?_⟩
    · exact (HSL2.out.setCell (fun h ad e => by have := HFAR2.out h ad e; omega) 0 _).setCell (fun h ad e => by have := HFAR2.out h ad e; omega) 1 _
    · exact (HB2.out.setCell (p := ⟨w.heap.size + 1 + 1, 0, none⟩) (by show w.heap.size ≤ w.heap.size + 1 + 1; omega) _).setCell (p := ⟨w.heap.size + 1 + 1, 1, none⟩) (by show w.heap.size ≤ w.heap.size + 1 + 1; omega) _
end Go.Proofs.Ytbajelbfgekilaa
