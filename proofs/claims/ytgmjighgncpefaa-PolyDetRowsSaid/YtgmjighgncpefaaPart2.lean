/- Several texts of the walk in one. -/
import Derived.Test.YtgmjighgncpefaaPart1
import Derived.Test.YtgmjighgncpefaaBase
import Derived.Deep.DeepCutAuto
/- timbref1.PolyFault and Fits. -/
namespace Go.Proofs.Ytgmjighgncpefaa
set_option linter.unusedVariables false
set_option linter.unusedSimpArgs false
open Go.RowKit

theorem LP.pfl_big {lo : Int} {xs : List Int} (h : 200 < xs.length ∨ 1000 < lo ∨ lo < -1000) : LP.pfl lo xs = 2 := by unfold LP.pfl; rw [if_pos h]
theorem LP.pfl_bad {lo : Int} {xs : List Int} (h : ¬ (200 < xs.length ∨ 1000 < lo ∨ lo < -1000)) (h2 : (xs.length = 0 ∧ lo ≠ 0) ∨ (0 < xs.length ∧ (xs.getD 0 0 = 0 ∨ xs.getD (xs.length - 1) 0 = 0))) : LP.pfl lo xs = 3 := by unfold LP.pfl; rw [if_neg h, if_pos h2]
theorem LP.pfl_loop {lo : Int} {xs : List Int} (h : ¬ (200 < xs.length ∨ 1000 < lo ∨ lo < -1000)) (h2 : ¬ ((xs.length = 0 ∧ lo ≠ 0) ∨ (0 < xs.length ∧ (xs.getD 0 0 = 0 ∨ xs.getD (xs.length - 1) 0 = 0)))) : LP.pfl lo xs = if xs.all LP.okC then 0 else 1 := by unfold LP.pfl; rw [if_neg h, if_neg h2]
theorem okC_take {w : List Int} {k : Nat} (hk : k < w.length) : (w.take (k + 1)).all LP.okC = ((w.take k).all LP.okC && LP.okC (w.getD k 0)) := by
  rw [List.take_succ_eq_append_getElem hk, List.all_append]
  simp [List.getD, List.getElem?_eq_getElem hk]

set_option maxRecDepth 100000 in
set_option maxHeartbeats 2000000 in
theorem pfault_any (la : Int) (A : Option Addr) (n c : Nat) (xs : List Int) (w : World) (ha : SL w A n c xs) :
    Calls Try.prog 23 #[PV la A n c] w fun e w' => e = .returned (.int .i64 (LP.pfl la xs)) ∧ Below w.heap.size w w' := by
  have hl := ha.il.len
  have hns := ha.il.small
  have hb0 : Below w.heap.size w (w.alloc (.cells #[.int .i64 la, .slice A n c] 25)) := (Below.refl _ _).alloc (Nat.le_refl _) _
  have HW := hide hb0
  have HA := hide (ha.below hb0)
  have HL := hide hl
  by_cases h1 : 200 < n
  · have HP := hide (LP.pfl_big (lo := la) (xs := xs) (by omega))
    clear ha hl hb0
    go_enter Try.func23, Try.ntmps23
    go_wp2_with fail
    go_ret
    rw [HP.out]
    exact ⟨rfl, HW.out⟩
  by_cases h2 : 1000 < la
  · have HP := hide (LP.pfl_big (lo := la) (xs := xs) (by omega))
    clear ha hl hb0
    go_enter Try.func23, Try.ntmps23
    go_wp2_with fail
    go_ret
    rw [HP.out]
    exact ⟨rfl, HW.out⟩
  by_cases h3 : la < -1000
  · have HP := hide (LP.pfl_big (lo := la) (xs := xs) (by omega))
    clear ha hl hb0
    go_enter Try.func23, Try.ntmps23
    go_wp2_with fail
    go_ret
    rw [HP.out]
    exact ⟨rfl, HW.out⟩
  have hN : ¬ (200 < xs.length ∨ 1000 < la ∨ la < -1000) := by omega
  by_cases h4 : n = 0
  · by_cases h5 : la = 0
    · have HP := hide (LP.pfl_loop hN (by omega))
      have hx : xs = [] := List.eq_nil_of_length_eq_zero (by omega)
      have HP2 : Hid (LP.pfl la xs = 0) := hide (by rw [HP.out, hx]; rfl)
      clear ha hl hb0 HP hx HL HA hN
      subst h4 h5
      go_enter Try.func23, Try.ntmps23
      go_wp2_with fail
      generalize w.alloc (.cells #[.int .i64 0, .slice A 0 c] 25) = w0 at *
      go_loopw [49] (fun iv wr => iv = .int .i64 0 ∧ Below w.heap.size w wr) (fun iv _ => 0)
      case atStart => exact ⟨rfl, HW.out⟩
      case round =>
        obtain ⟨rfl, hbw⟩ := hrel
        have HBW := hide hbw
        clear hbw
        go_wp2_with fail
        go_ret
        rw [HP2.out]
        exact ⟨rfl, HBW.out⟩
    · have HP := hide (LP.pfl_bad hN (by omega))
      have hb : (la != 0) = true := by simpa using h5
      clear ha hl hb0 HL HA hN h5
      subst h4
      go_enter Try.func23, Try.ntmps23
      go_wp2_with fail
      go_ret
      rw [HP.out]
      exact ⟨rfl, HW.out⟩
  · have b4 : ((n : Int) == 0) = false := by simp; omega
    have hpos : 0 < n := by omega
    obtain ⟨ad, hA, hal, hac⟩ := HA.out.il.mem hpos
    have hA2 := hA
    subst hA
    have c0 := hac 0 hpos
    have cl := hac (n - 1) (by omega)
    obtain ⟨x0, hx0⟩ : ∃ x, xs.getD 0 0 = x := ⟨_, rfl⟩
    obtain ⟨xl, hxl⟩ : ∃ x, xs.getD (n - 1) 0 = x := ⟨_, rfl⟩
    rw [hx0] at c0
    have c0 : (w.alloc (.cells #[.int .i64 la, .slice (some ad) n c] 25)).cell? ad = some (.int .i64 x0) := by
      have e : ad.add 0 = ad := by cases ad; simp [Addr.add]
      rw [e] at c0; exact c0
    rw [hxl] at cl
    have hw1 : IntKind.i64.wrap ((n : Int) - 1) = ((n - 1 : Nat) : Int) := by rw [IntKind.wrap_i64]; omega
    obtain ⟨k1, hk1⟩ : ∃ k, n - 1 = k := ⟨_, rfl⟩
    rw [hk1] at cl hw1 hxl
    have hkn : k1 < n := by omega
    have hb1 := Blk.new w 25 #[.int .i64 la, .slice (some ad) n c]
    obtain ⟨w0, hw0⟩ : ∃ x, w.alloc (.cells #[.int .i64 la, .slice (some ad) n c] 25) = x := ⟨_, rfl⟩
    have HW0 := hide hw0
    rw [hw0] at hb1
    have B0 := hide hb1
    have hq0 := hb1.cell 0
    have hq1 := hb1.cell 1
    simp at hq0 hq1
    rw [hw0] at c0 cl hac hal HA HW
    by_cases h6 : x0 = 0
    · have HP := hide (LP.pfl_bad hN (.inr ⟨by omega, .inl (by rw [hx0]; exact h6)⟩))
      subst h6
      clear ha hl hb0 HL HA hN hac hx0 hxl hk1 hb1 h4 hw0
      go_enter Try.func23, Try.ntmps23
      go_upto_region 1 with fail
      rw [HW0.out]
      go_wp2_with fail
      go_ret
      rw [HP.out]
      exact ⟨rfl, HW.out⟩
    by_cases h7 : xl = 0
    · have HP := hide (LP.pfl_bad hN (.inr ⟨by omega, .inr (by rw [hl, hk1, hxl]; exact h7)⟩))
      have f6 : (x0 == 0) = false := by simpa using h6
      subst h7
      clear ha hl hb0 HL HA hN hac hx0 hxl hk1 hb1 h4 h6 hw0
      go_enter Try.func23, Try.ntmps23
      go_upto_region 1 with fail
      rw [HW0.out]
      go_wp2_with fail
      go_ret
      rw [HP.out]
      exact ⟨rfl, HW.out⟩
    have f6 : (x0 == 0) = false := by simpa using h6
    have f7 : (xl == 0) = false := by simpa using h7
    have HP := hide (LP.pfl_loop hN (by rw [hl, hk1, hxl, hx0]; omega))
    clear ha hl hb0 hN hx0 hxl hk1 hb1 h4 h6 h7 hw0 hac
    go_enter Try.func23, Try.ntmps23
    go_upto_region 1 with fail
    rw [HW0.out]
    go_wp2_with fail
    clear c0 cl hq0 hq1 HW0 B0 f6 f7 hkn hw1
    go_loopw [49] (fun iv wr => ∃ k : Nat, k ≤ n ∧ iv = .int .i64 k ∧ Hid ((xs.take k).all LP.okC = true) ∧ wr = w0) (fun iv _ => n - (intOf iv).toNat)
    case atStart => exact ⟨0, Nat.zero_le _, rfl, by rw [List.take_zero]; exact rfl, rfl⟩
    case round =>
      obtain ⟨k, hk, rfl, HK, rfl⟩ := hrel
      by_cases hlt : k < n
      · obtain ⟨ad2, hA3, hal2, hac2⟩ := HA.out.il.mem hpos
        cases hA3
        have ck := hac2 k hlt
        have HT := hide (okC_take (w := xs) (k := k) (by rw [HL.out]; exact hlt))
        have HM : Hid (xs.getD k 0 ∈ xs) := hide (by
          have hkl : k < xs.length := by rw [HL.out]; exact hlt
          rw [show xs.getD k 0 = xs[k] by simp [List.getD, List.getElem?_eq_getElem hkl]]
          exact List.getElem_mem _)
        obtain ⟨x, hx⟩ : ∃ x, xs.getD k 0 = x := ⟨_, rfl⟩
        rw [hx] at ck HT HM
        clear hx hac2
        by_cases hgt : 100000000 < x
        · have HN : Hid (xs.all LP.okC = false) := hide (by
            rw [Bool.eq_false_iff]
            intro h
            have := List.all_eq_true.1 h x HM.out
            simp [LP.okC] at this
            omega)
          rw [HN.out] at HP
          go_wp2_with fail
          go_ret
          rw [HP.out]
          exact ⟨rfl, HW.out⟩
        by_cases hls : x < -100000000
        · have HN : Hid (xs.all LP.okC = false) := hide (by
            rw [Bool.eq_false_iff]
            intro h
            have := List.all_eq_true.1 h x HM.out
            simp [LP.okC] at this
            omega)
          rw [HN.out] at HP
          go_wp2_with fail
          go_ret
          rw [HP.out]
          exact ⟨rfl, HW.out⟩
        have HN : Hid ((xs.take (k + 1)).all LP.okC = true) := hide (by rw [HT.out, HK.out]; simp [LP.okC]; omega)
        go_wp2_with fail
        go_roundw
        case rel => exact ⟨k + 1, by omega, by go_num, HN.out, trivial⟩
        case measure => simp [intOf]; omega
      · have hkn : k = n := by omega
        have HN : Hid (xs.all LP.okC = true) := hide (by have := HK.out; rw [List.take_of_length_le (by rw [HL.out]; omega)] at this; exact this)
        rw [HN.out] at HP
        clear HK HN
        subst hkn
        go_wp2_with fail
        go_ret
        rw [HP.out]
        exact ⟨rfl, HW.out⟩

/-- The results of a function that returns a polynomial out of a block and an error. -/
theorem results_pe {fn : Func} {t u : Tmp} {b : Nat} {v0 v1 e : Value} {w : World} (h : fn.results = #[.cell t 25, .tmp u]) (tmps : Array Value) (ht : tmps.getD t undef = .pointer (some ⟨b, 0, none⟩)) (hu : tmps.getD u undef = e) (hb : Blk w b 25 #[v0, v1]) :
    (results fn tmps).run Try.prog w = .ok (.tuple #[.agg #[v0, v1], e]) w := by
  have h0 := hb.cell 0
  have h1 := hb.cell 1
  simp at h0 h1
  have ht2 : tmps[t]?.getD undef = .pointer (some ⟨b, 0, none⟩) := by simpa using ht
  have hu2 : tmps[u]?.getD undef = e := by simpa using hu
  simp [results, h, ht2, hu2, go_sem, h0, h1, Result.andThen]
/-- What Fits makes of a polynomial. -/
def LP.fitL (lo : Int) (cs : List Int) : PR := if pfl lo cs = 0 then (0, lo, cs) else (2, 0, [])
set_option maxRecDepth 100000 in
set_option maxHeartbeats 2000000 in
theorem fits_any (la : Int) (A : Option Addr) (n c : Nat) (xs : List Int) (w : World) (ha : SL w A n c xs) :
    Calls Try.prog 10 #[PV la A n c] w fun e w' => ∃ B m d, e = .returned (.tuple #[PV (LP.fitL la xs).2.1 B m d, .int .i64 (LP.fitL la xs).1]) ∧ SL w' B m d (LP.fitL la xs).2.2 ∧ (0 < m → B = A ∧ m = n) ∧ Below w.heap.size w w' := by
  have hb1 := (Blk.new w 25 #[.int .i64 la, .slice A n c]).alloc (.cells #[.int .i64 0, .slice none 0 0] 25)
  have hb2 := Blk.new (w.alloc (.cells #[.int .i64 la, .slice A n c] 25)) 25 #[.int .i64 0, .slice none 0 0]
  have hbw : Below w.heap.size w ((w.alloc (.cells #[.int .i64 la, .slice A n c] 25)).alloc (.cells #[.int .i64 0, .slice none 0 0] 25)) := ((Below.refl _ _).alloc (Nat.le_refl _) _).alloc (by simp) _
  have HA := hide (ha.below hbw)
  have HW := hide hbw
  simp only [World.size_alloc] at hb2
  have B1 := hide hb1
  have B2 := hide hb2
  have hin := ha.inside
  clear hb1 hb2 hbw ha
  have HI := hide hin
  clear hin
  go_enter Try.func10, Try.ntmps10
  go_upto_region 1 with fail
  obtain ⟨w0, hw0⟩ : ∃ x, ((w.alloc (.cells #[.int .i64 la, .slice A n c] 25)).alloc (.cells #[.int .i64 0, .slice none 0 0] 25)) = x := ⟨_, rfl⟩
  rw [hw0] at HA HW B1 B2 ⊢
  clear hw0
  have l1 := B1.out.lt
  have l2 := B2.out.lt
  have hq0 := B1.out.cell 0
  have hq1 := B1.out.cell 1
  simp at hq0 hq1
  go_wp2_with fail
  refine (pfault_any la A n c xs _ HA.out).mono ?_
  rintro e w1 ⟨rfl, hb⟩
  replace HA := hide (HA.out.below hb)
  replace HW := hide (HW.out.trans (hb.mono HW.out.size))
  replace B1 := hide (B1.out.below hb l1)
  replace B2 := hide (B2.out.below hb l2)
  clear hb hq0 hq1 l1 l2
  have l1 := B1.out.lt
  have l2 := B2.out.lt
  have hq0 := B1.out.cell 0
  have hq1 := B1.out.cell 1
  simp at hq0 hq1
  have hr0 := B2.out.cell 0
  have hr1 := B2.out.cell 1
  simp at hr0 hr1
  have hf0 := B2.out.frozen 0
  have hf1 := B2.out.frozen 1
  have HB0 := hide (Below.refl w.heap.size w)
  by_cases hp : LP.pfl la xs = 0
  · have HR : Hid (LP.fitL la xs = (0, la, xs)) := hide (by unfold LP.fitL; rw [if_pos hp])
    rw [hp]
    go_wp2_with fail
    refine bodyPost_ret (results_pe rfl _ rfl rfl ((B2.out.set_ 0 (.int .i64 la)).set_ 1 (.slice A n c))) rfl ?_
    rw [HR.out]
    refine ⟨A, n, c, rfl, ?_, fun _ => ⟨rfl, rfl⟩, ?_⟩
    · exact (HA.out.setCell (fun h ad e => by have := HI.out h ad e; omega) 0 _).setCell (fun h ad e => by have := HI.out h ad e; omega) 1 _
    · exact (HW.out.setCell (p := ⟨w.heap.size + 1, 0, none⟩) (by show w.heap.size ≤ w.heap.size + 1; omega) _).setCell (p := ⟨w.heap.size + 1, 1, none⟩) (by show w.heap.size ≤ w.heap.size + 1; omega) _
  · have HR : Hid (LP.fitL la xs = (2, 0, [])) := hide (by unfold LP.fitL; rw [if_neg hp])
    have hne : (LP.pfl la xs != 0) = true := by simpa using hp
    clear hp
    go_wp2_with fail
    refine bodyPost_ret (results_pe rfl _ rfl rfl ((B2.out.set_ 0 (.int .i64 0)).set_ 1 (.slice none 0 0))) rfl ?_
    rw [HR.out]
    refine ⟨none, 0, 0, rfl, SL.nil_ _, fun h => absurd h (by omega), ?_⟩
    exact (HW.out.setCell (p := ⟨w.heap.size + 1, 0, none⟩) (by show w.heap.size ≤ w.heap.size + 1; omega) _).setCell (p := ⟨w.heap.size + 1, 1, none⟩) (by show w.heap.size ≤ w.heap.size + 1; omega) _
end Go.Proofs.Ytgmjighgncpefaa
/- timbref1.SquareFault. -/
namespace Go.Proofs.Ytgmjighgncpefaa
set_option linter.unusedVariables false
set_option linter.unusedSimpArgs false
open Go.RowKit

/-- What is wrong with an element. -/
def polyE (p : Po) : Int := if LP.pfl p.1 p.2 ≠ 0 then LP.pfl p.1 p.2 else if 20 < p.2.length ∨ 20 < p.1 ∨ p.1 < -20 then 2 else if p.2.any (fun c => decide (1000 < c) || decide (c < -1000)) then 1 else 0
def rowE (n : Nat) : List Po → Int
  | [] => 0
  | p :: r => if polyE p ≠ 0 then polyE p else rowE n r
def rowsE (n : Nat) : List (List Po) → Int
  | [] => 0
  | r :: m => if r.length ≠ n then 3 else if rowE n r ≠ 0 then rowE n r else rowsE n m
def sqE (m : List (List Po)) : Int := if 4 < m.length then 2 else rowsE m.length m
theorem rowE_drop {n k : Nat} {ps : List Po} (h : k < ps.length) : rowE n (ps.drop k) = if polyE (ps.getD k (0, [])) ≠ 0 then polyE (ps.getD k (0, [])) else rowE n (ps.drop (k + 1)) := by
  rw [List.drop_eq_getElem_cons h, show ps.getD k (0, []) = ps[k] by simp [List.getD, List.getElem?_eq_getElem h]]
  rfl
theorem rowsE_drop {n k : Nat} {pss : List (List Po)} (h : k < pss.length) : rowsE n (pss.drop k) = if (pss.getD k []).length ≠ n then 3 else if rowE n (pss.getD k []) ≠ 0 then rowE n (pss.getD k []) else rowsE n (pss.drop (k + 1)) := by
  rw [List.drop_eq_getElem_cons h, show pss.getD k [] = pss[k] by simp [List.getD, List.getElem?_eq_getElem h]]
  rfl

set_option maxRecDepth 100000 in
set_option maxHeartbeats 4000000 in
theorem squareFault_any (A : Option Addr) (n c : Nat) (pss : List (List Po)) (w : World) (ha : SPP w A n c pss) :
    Calls Try.prog 6 #[.slice A n c] w fun e w' => e = .returned (.int .i64 (sqE pss)) ∧ Below w.heap.size w w' := by
  have HA := hide ha
  have HL := hide ha.len
  clear ha
  by_cases h4 : 4 < n
  · have HS : Hid (sqE pss = 2) := hide (by unfold sqE; rw [if_pos (by rw [HL.out]; exact h4)])
    go_enter Try.func6, Try.ntmps6
    go_wp2_with fail
    go_ret
    exact ⟨by rw [HS.out]; rfl, Below.refl _ _⟩
  · have HS : Hid (sqE pss = rowsE n (pss.drop 0)) := hide (by unfold sqE; rw [if_neg (by rw [HL.out]; exact h4), HL.out, List.drop_zero])
    have HW := hide (Below.refl w.heap.size w)
    go_enter Try.func6, Try.ntmps6
    go_wp2_with fail
    go_loopw [15] (fun iv wr => ∃ k : Nat, k ≤ n ∧ iv = .int .i64 k ∧ Hid (sqE pss = rowsE n (pss.drop k)) ∧ Hid (Below w.heap.size w wr)) (fun iv _ => n - (intOf iv).toNat)
    case atStart => exact ⟨0, Nat.zero_le _, rfl, HS, HW⟩
    case round =>
      clear HS HW
      obtain ⟨k, hk, rfl, HS, HW⟩ := hrel
      by_cases hlt : k < n
      · obtain ⟨ad, B, m, d, rfl, hcl, hr⟩ := (HA.out.below HW.out).at_ hlt
        have HR := hide hr
        have HRL := hide hr.len
        have hstep := rowsE_drop (n := n) (k := k) (pss := pss) (by rw [HL.out]; exact hlt)
        clear hr
        generalize pss.getD k [] = ps at *
        rw [HRL.out] at hstep
        by_cases hmn : m = n
        · subst hmn
          rw [if_neg (by simp)] at hstep
          have HST := hide hstep
          clear hstep
          rename World => wo
          have HWO := hide (Below.refl wo.heap.size wo)
          have HR0 : Hid (rowE m ps = rowE m (ps.drop 0)) := hide (by rw [List.drop_zero])
          have HLT := hide hlt
          have HKN := hide hk
          have hne : ((m : Int) != (m : Int)) = false := by simp
          clear hk
          go_wp2_with fail
          clear hlt hcl hne
          go_loopw [26] (fun jv wx => ∃ j : Nat, j ≤ m ∧ jv = .int .i64 j ∧ Hid (rowE m ps = rowE m (ps.drop j)) ∧ Hid (Below wo.heap.size wo wx)) (fun jv _ => m - (intOf jv).toNat)
          case atStart => exact ⟨0, Nat.zero_le _, rfl, HR0, HWO⟩
          case round =>
            clear HR0 HWO
            obtain ⟨j, hj, rfl, HR0, HWO⟩ := hrel
            by_cases hjm : j < m
            · obtain ⟨ad2, B2, m2, d2, rfl, hq0, hq1, hs, hwf⟩ := (HR.out.below HWO.out).at_ hjm
              have hst2 := rowE_drop (n := m) (k := j) (ps := ps) (by rw [HRL.out]; exact hjm)
              obtain ⟨lo, xs, hp⟩ : ∃ lo xs, ps.getD j (0, []) = (lo, xs) := ⟨_, _, rfl⟩
              rw [hp] at hq0 hs hst2 hwf
              dsimp only at hq0 hs hwf
              have HSX := hide hs
              have HXL := hide hs.il.len
              have HJ : Hid (∀ v, polyE (lo, xs) = v → v ≠ 0 → sqE pss = v) := hide (fun v hv h0 => by rw [HS.out, HST.out, HR0.out, hst2, hv, if_pos h0, if_pos h0])
              have HN : Hid (polyE (lo, xs) = 0 → rowE m ps = rowE m (ps.drop (j + 1))) := hide (fun h0 => by rw [HR0.out, hst2, if_neg (by rw [h0]; decide)])
              have HJM := hide hjm
              have HJ2 := hide hj
              clear hst2 hp hs hwf hjm hj
              go_upto_region 11 with fail
              have hb : Below wr.heap.size wr (wr.alloc (.cells #[.int .i64 lo, .slice B2 m2 d2] 25)) := (Below.refl _ _).alloc (Nat.le_refl _) _
              have BP := hide (Blk.new wr 25 #[.int .i64 lo, .slice B2 m2 d2])
              replace HSX := hide (HSX.out.below hb)
              replace HWO := hide (HWO.out.trans (hb.mono HWO.out.size))
              obtain ⟨b6, hq⟩ : ∃ q, wr.heap.size = q := ⟨_, rfl⟩
              obtain ⟨w1, hw⟩ : ∃ q, wr.alloc (.cells #[.int .i64 lo, .slice B2 m2 d2] 25) = q := ⟨_, rfl⟩
              rw [hw] at BP HSX HWO ⊢
              rw [hq] at BP ⊢
              clear hb hq hw hq0 hq1
              have hz0 := BP.out.cell 0
              have hz1 := BP.out.cell 1
              simp at hz0 hz1
              go_wp2_with fail
              refine (pfault_any lo B2 m2 d2 xs _ HSX.out).mono ?_
              rintro e w2 ⟨rfl, hb⟩
              replace HSX := hide (HSX.out.below hb)
              replace HWO := hide (HWO.out.trans (hb.mono HWO.out.size))
              replace BP := hide (BP.out.below hb BP.out.lt)
              clear hb hz0 hz1
              obtain ⟨fx, hfx⟩ : ∃ q, LP.pfl lo xs = q := ⟨_, rfl⟩
              rw [hfx]
              have HFX := hide hfx
              clear hfx
              by_cases hf0 : fx = 0
              · subst hf0
                have hz0 := BP.out.cell 0
                have hz1 := BP.out.cell 1
                simp at hz0 hz1
                go_upto_region 14 with fail
                have HXM := hide (show (lo, xs).2.length = m2 from HXL.out)
                by_cases g1 : 20 < m2
                · have HV := hide (HJ.out 2 (by unfold polyE; rw [HFX.out, if_neg (by decide), if_pos (by have := HXL.out; simp only []; omega)]) (by decide))
                  have HWN := hide (HW.out.trans (HWO.out.mono HW.out.size))
                  go_wp2_with fail
                  go_ret
                  exact ⟨by rw [HV.out]; rfl, HWN.out⟩
                by_cases g2 : 20 < lo
                · have HV := hide (HJ.out 2 (by unfold polyE; rw [HFX.out, if_neg (by decide), if_pos (by have := HXL.out; simp only []; omega)]) (by decide))
                  have HWN := hide (HW.out.trans (HWO.out.mono HW.out.size))
                  go_wp2_with fail
                  go_ret
                  exact ⟨by rw [HV.out]; rfl, HWN.out⟩
                by_cases g3 : lo < -20
                · have HV := hide (HJ.out 2 (by unfold polyE; rw [HFX.out, if_neg (by decide), if_pos (by have := HXL.out; simp only []; omega)]) (by decide))
                  have HWN := hide (HW.out.trans (HWO.out.mono HW.out.size))
                  go_wp2_with fail
                  go_ret
                  exact ⟨by rw [HV.out]; rfl, HWN.out⟩
                have HG : Hid (¬ (20 < xs.length ∨ 20 < lo ∨ lo < -20)) := hide (by have := HXL.out; omega)
                go_wp2_with fail
                go_loop [52] (fun lv => ∃ l : Nat, l ≤ m2 ∧ lv = .int .i64 l ∧ Hid ((xs.take l).any (fun c => decide (1000 < c) || decide (c < -1000)) = false)) (fun lv => m2 - (intOf lv).toNat)
                case atStart => exact ⟨0, Nat.zero_le _, rfl, hide (by rw [List.take_zero]; rfl)⟩
                case round =>
                  obtain ⟨l, hl, rfl, HANY⟩ := hrel
                  by_cases hlm : l < m2
                  · obtain ⟨ad3, rfl, hcl3⟩ := HSX.out.il.at_ hlm
                    have hlx : l < xs.length := by rw [HXL.out]; exact hlm
                    have hget : xs.getD l 0 = xs[l] := by simp [List.getD, List.getElem?_eq_getElem hlx]
                    have HT : Hid (xs.take (l + 1) = xs.take l ++ [xs.getD l 0]) := hide (by rw [List.take_succ_eq_append_getElem hlx, hget])
                    have HM : Hid (xs.getD l 0 ∈ xs) := hide (by rw [hget]; exact List.getElem_mem _)
                    clear hlx hget
                    generalize xs.getD l 0 = cv at *
                    by_cases c1 : 1000 < cv
                    · have HV := hide (HJ.out 1 (by unfold polyE; rw [HFX.out, if_neg (by decide), if_neg HG.out, if_pos (List.any_eq_true.2 ⟨cv, HM.out, by simp [c1]⟩)]) (by decide))
                      have HWN := hide (HW.out.trans (HWO.out.mono HW.out.size))
                      go_wp2_with fail
                      go_ret
                      exact ⟨by rw [HV.out]; rfl, HWN.out⟩
                    by_cases c2 : cv < -1000
                    · have HV := hide (HJ.out 1 (by unfold polyE; rw [HFX.out, if_neg (by decide), if_neg HG.out, if_pos (List.any_eq_true.2 ⟨cv, HM.out, by simp [c2]⟩)]) (by decide))
                      have HWN := hide (HW.out.trans (HWO.out.mono HW.out.size))
                      go_wp2_with fail
                      go_ret
                      exact ⟨by rw [HV.out]; rfl, HWN.out⟩
                    have HA2 : Hid ((xs.take (l + 1)).any (fun c => decide (1000 < c) || decide (c < -1000)) = false) := hide (by rw [HT.out, List.any_append, HANY.out]; simp; omega)
                    go_wp2_with fail
                    go_round
                    case rel => exact ⟨l + 1, by omega, by go_num, HA2⟩
                    case measure => simp [intOf]; omega
                  · have hle : l = m2 := by omega
                    have HA3 : Hid (xs.any (fun c => decide (1000 < c) || decide (c < -1000)) = false) := hide (by have h := HANY.out; rwa [List.take_of_length_le (by rw [HXL.out]; omega)] at h)
                    have HRN := hide (HN.out (by unfold polyE; rw [HFX.out, if_neg (by decide), if_neg HG.out, if_neg (by rw [HA3.out]; decide)]))
                    have hjm := HJM.out
                    clear HANY hle
                    go_wp2_with fail
                    go_roundw
                    case rel => exact ⟨j + 1, by omega, by go_num, HRN, HWO⟩
                    case measure => simp [intOf]; omega
              · have HV := hide (HJ.out fx (by unfold polyE; rw [HFX.out, if_pos hf0]) hf0)
                have hne : (fx != 0) = true := by simpa using hf0
                have HWN := hide (HW.out.trans (HWO.out.mono HW.out.size))
                clear hf0
                go_wp2_with fail
                go_ret
                exact ⟨by rw [HV.out]; rfl, HWN.out⟩
            · have hjn : j = m := by omega
              have HE : Hid (rowE m ps = 0) := hide (by rw [HR0.out, List.drop_of_length_le (by rw [HRL.out]; omega)]; rfl)
              have HSN : Hid (sqE pss = rowsE m (pss.drop (k + 1))) := hide (by rw [HS.out, HST.out, if_neg (by rw [HE.out]; decide)])
              have HWN := hide (HW.out.trans (HWO.out.mono HW.out.size))
              clear HR0 HST HS
              have hlt := HLT.out
              go_wp2_with fail
              go_roundw
              case rel => exact ⟨k + 1, by omega, by go_num, HSN, HWN⟩
              case measure => simp [intOf]; omega
        · rw [if_pos hmn] at hstep
          have hne : ((m : Int) != (n : Int)) = true := by simp; omega
          have HST := hide hstep
          clear hstep hmn
          go_wp2_with fail
          go_ret
          exact ⟨by rw [HS.out, HST.out]; rfl, HW.out⟩
      · have hkn : k = n := by omega
        have HE : Hid (sqE pss = 0) := hide (by rw [HS.out, List.drop_of_length_le (by rw [HL.out]; omega)]; rfl)
        clear HS hkn
        go_wp2_with fail
        go_ret
        exact ⟨by rw [HE.out]; rfl, HW.out⟩
end Go.Proofs.Ytgmjighgncpefaa
/- timbmake.Poly. -/
namespace Go.Proofs.Ytgmjighgncpefaa
set_option linter.unusedVariables false
set_option linter.unusedSimpArgs false
open Go.RowKit

def lenV : Value → Nat
  | .slice _ n _ => n
  | _ => 0
def rawC (raw : List Int) : List Int := (raw.take 12).map fun x => x % 101 - 50
/-- The polynomial that raw numbers give. -/
noncomputable def mkP (low : Int) (raw : List Int) : LP := LP.of (low % 21 - 10) (rawC raw)

theorem LP.of_zeros {C : List Int} (lo : Int) (h : ∀ j, j < C.length → C.getD j 0 = 0) : LP.of 0 [] = LP.of lo C := LP.ext fun k => by
  rw [LP.co_of, LP.co_of]
  rw [if_neg (by simp only [List.length_nil]; omega)]
  split
  · next hk => rw [h _ (by omega)]
  · rfl
theorem LP.of_trim {C : List Int} (lo : Int) {i m : Nat} (him : i + m ≤ C.length) (h1 : ∀ j, j < i → C.getD j 0 = 0) (h2 : ∀ j, i + m ≤ j → j < C.length → C.getD j 0 = 0) : LP.of (lo + i) ((C.drop i).take m) = LP.of lo C := LP.ext fun k => by
  have hl : ((C.drop i).take m).length = m := by simp; omega
  rw [LP.co_of, LP.co_of, hl]
  by_cases hk : lo + i ≤ k ∧ k < lo + i + m
  · rw [if_pos hk, if_pos (by omega)]
    simp only [List.getD_eq_getElem?_getD, List.getElem?_take, List.getElem?_drop]
    rw [if_pos (by omega), show i + (k - (lo + i)).toNat = (k - lo).toNat by omega]
  · rw [if_neg hk]
    split
    · next h =>
      by_cases h3 : k < lo + i
      · exact (h1 _ (by omega)).symm
      · exact (h2 _ (by omega) (by omega)).symm
    · rfl
theorem SL.tail_ {w : World} {ad : Addr} {m d : Nat} {xs : List Int} (h : SL w (some ad) m d xs) (hm : 0 < m) : SL w (if d = 1 then some ad else some ⟨ad.block, ad.off + 1, none⟩) (m - 1) (d - 1) (xs.drop 1) := by
  have hc := h.cap
  have hl := h.il.len
  by_cases hd : d = 1
  · rw [if_pos hd]
    refine ⟨⟨by rw [List.length_drop]; omega, by have := h.il.small; omega, fun h0 => by omega⟩, fun e => (by cases e), by omega⟩
  · have h2 := h.il.cut (l := 1) (h := m) (by omega) (Nat.le_refl _) hc
    unfold cutA at h2
    rw [if_neg hd] at h2
    rw [if_neg hd]
    have e : (some ad).map (·.add 1) = some (⟨ad.block, ad.off + 1, none⟩ : Addr) := by simp [Addr.add]
    rw [e, List.take_of_length_le (by rw [List.length_drop]; omega)] at h2
    exact ⟨h2, fun e => (by cases e), by omega⟩
theorem SL.init_ {w : World} {A : Option Addr} {m d k : Nat} {xs : List Int} (h : SL w A m d xs) (hk : k ≤ m) (hA : A ≠ none) : SL w A k d (xs.take k) := ⟨h.il.pre hk, fun e => absurd e hA, by have := h.cap; omega⟩

set_option maxRecDepth 100000 in
set_option maxHeartbeats 4000000 in
theorem mpoly_any (R : Option Addr) (n c : Nat) (raw : List Int) (low : Int) (w : World) (ha : SL w R n c raw) :
    Calls Try.prog 14 #[.int .i64 low, .slice R n c] w (GivesP w (LP.canon (mkP low raw)).1 (LP.canon (mkP low raw)).2) := by
  obtain ⟨i0, hi0, hz0, hz1, hz2⟩ := info_parts int_info
  have HI0 := hide hi0
  have HZ0 := hide hz0
  have HZ1 := hide hz1
  have HZ2 := hide hz2
  have hns := ha.il.small
  have hln := ha.il.len
  have hcap := ha.cap
  obtain ⟨K, hK⟩ : ∃ K, min n 12 = K := ⟨_, rfl⟩
  have hKn : K ≤ n := by omega
  have hK12 : K ≤ 12 := by omega
  have hKo : n ≤ K ∨ 12 ≤ K := by omega
  have HIL := hide (ha.il.pre hKn)
  have HRC : Hid (rawC raw = (raw.take K).map fun x => x % 101 - 50) := hide (by
    unfold rawC
    rcases hKo with h | h
    · rw [List.take_of_length_le (by omega), List.take_of_length_le (l := raw) (i := K) (by omega)]
    · rw [show K = 12 by omega])
  have HMB := hide (fun (x : Int) (w : World) => mbelow_any x 101 w (by omega) (by omega))
  have HML := hide (fun (w : World) => mbelow_any low 21 w (by omega) (by omega))
  have hlo0 := Int.emod_nonneg low (show (21 : Int) ≠ 0 by omega)
  have hlo1 := Int.emod_lt_of_pos low (show (0 : Int) < 21 by omega)
  have HCAN : Hid (∀ lo cs, LP.Cano lo cs → LP.of lo cs = LP.of (low % 21 - 10) (rawC raw) → LP.canon (mkP low raw) = (lo, cs)) := hide (fun lo cs h1 h2 => LP.canon_eq h1 h2)
  clear ha hi0 hz0 hz1 hz2 hK
  generalize LP.canon (mkP low raw) = P at *
  go_enter Try.func14, Try.ntmps14
  go_upto_region 2 with fail
  go_cut [8, 9, 10, 11, 12, 13, 14] (fun _ _ _ _ v12 v13 v14 wx => v12 = .slice R K c ∧ v13 = .int .i64 K ∧ v14 = .int .i64 0 ∧ wx = w.alloc (.cells #[.int .i64 0, .slice none 0 0] 25))
  case first =>
    go_wp2_with fail
    · obtain rfl : K = 12 := by omega
      go_meet
      exact ⟨rfl, rfl, rfl, rfl⟩
    · obtain rfl : K = n := by omega
      go_meet
      exact ⟨rfl, rfl, rfl, rfl⟩
  case rest =>
    obtain ⟨rfl, rfl, rfl, rfl⟩ := hcut
    have HW0 : Hid (Below w.heap.size w (w.alloc (.cells #[.int .i64 0, .slice none 0 0] 25))) := hide ((Below.refl _ _).alloc (Nat.le_refl _) _)
    have HBK : Hid (Blk (w.alloc (.cells #[.int .i64 0, .slice none 0 0] 25)) w.heap.size 25 #[.int .i64 0, .slice none 0 0]) := hide (Blk.new _ _ _)
    replace HIL := hide (HIL.out.below HW0.out)
    have hsz0 : (w.alloc (.cells #[.int .i64 0, .slice none 0 0] 25)).heap.size = w.heap.size + 1 := by simp
    generalize w.alloc (.cells #[.int .i64 0, .slice none 0 0] 25) = w0 at *
    obtain ⟨cs, hcs⟩ : ∃ cs : Nat → List Int, (fun k => ((raw.take K).take k).map fun x : Int => x % 101 - 50) = cs := ⟨_, rfl⟩
    have hcsi : ∀ k, ((raw.take K).take k).map (fun x : Int => x % 101 - 50) = cs k := fun k => by rw [← hcs]
    have HCL : Hid (∀ k, k ≤ K → (cs k).length = k) := hide (fun k hk => by rw [← hcsi]; simp; omega)
    have HCS : Hid (∀ k, k < K → cs (k + 1) = cs k ++ [(raw.take K).getD k 0 % 101 - 50]) := hide (fun k hk => by
      have hkl : k < (raw.take K).length := by rw [List.length_take]; omega
      rw [← hcsi, ← hcsi, List.take_succ_eq_append_getElem hkl, List.map_append]
      simp [List.getD, List.getElem?_eq_getElem hkl])
    have HCE : Hid (cs K = rawC raw) := hide (by
      rw [HRC.out, ← hcsi, List.take_of_length_le (i := K) (l := raw.take K) (by rw [List.length_take]; omega)])
    have HC0 : Hid (cs 0 = []) := hide (by rw [← hcsi]; rfl)
    clear hcs hcsi
    go_wp2_with fail
    go_loopw [5, 14] (fun cv iv wr => ∃ (k d : Nat) (A : Option Addr), iv = .int .i64 k ∧ k ≤ K ∧ cv = .slice A k d ∧ OwnI wr w0.heap.size A k d (cs k) ∧ Below w0.heap.size w0 wr) (fun _ iv _ => K - (intOf iv).toNat)
    case atStart => exact ⟨0, 0, none, rfl, Nat.zero_le _, rfl, by rw [HC0.out]; exact OwnI.nil_ _ _, Below.refl _ _⟩
    case round =>
      obtain ⟨k, d, A, rfl, hk, rfl, ho, hb⟩ := hrel
      have HO := hide ho
      have HB := hide hb
      have hbs := hb.size
      clear ho hb
      by_cases hlt : k < K
      · obtain ⟨ad, rfl, hx⟩ := (HIL.out.below HB.out).at_ hlt
        have HN := hide (HCS.out k hlt)
        generalize (raw.take K).getD k 0 = x at *
        have hx0 := Int.emod_nonneg x (show (101 : Int) ≠ 0 by omega)
        have hx1 := Int.emod_lt_of_pos x (show (0 : Int) < 101 by omega)
        go_wp2_with fail
        refine (HMB.out x _).mono ?_
        rintro e w' ⟨rfl, rfl⟩
        go_wp2_with (at_builtin; refine wpList_append_int _ rfl (.tmp 18) (.tmp 22) 23 rfl w0.heap.size i0 Try.underlying23 HI0.out HZ0.out HZ1.out HZ2.out A k d (cs k) rfl (HO.out.alloc _) (some ⟨_, 0, none⟩) 1 1 [x % 101 - 50] rfl (IL.lit _ [x % 101 - 50] (by simp) rfl rfl) (by omega) (by simp; omega) ?_; intro A8 c8 w8 hap)
        have hN := hap.own
        rw [← HN.out] at hN
        have hb8 := (HB.out.alloc hbs (.cells #[.int .i64 (x % 101 - 50)] 3)).grown hap.grown (by simp; omega) (fun j hj => (HO.out.lt j (by rw [ownBlock_len A k (k + 1) d d]; exact hj)).1)
        clear hap
        go_roundw
        case rel => exact ⟨k + 1, c8, A8, by go_num, by omega, rfl, hN, hb8⟩
        case measure => simp [intOf]; omega
      · have hkK : k = K := by omega
        have HSL := hide HO.out.sl
        have hnew : NewA w0 A k := fun h ad e => by
          have := (HO.out.lt ad.block (by rw [e]; rfl)).1
          exact this
        have HNEW := hide hnew
        rw [hkK, HCE.out] at HSL
        rw [hkK] at HNEW
        have hRL : Hid ((rawC raw).length = K) := hide (by rw [← HCE.out, HCL.out K (Nat.le_refl _)])
        have hkd : K ≤ d := HSL.out.cap
        subst hkK
        clear HO HCL HCS HCE HC0 hnew HIL
        generalize rawC raw = C at *
        go_wp2_with fail
        refine (HML.out _).mono ?_
        rintro e w' ⟨rfl, rfl⟩
        obtain ⟨l0, hl0⟩ : ∃ l0 : Int, low % 21 - 10 = l0 := ⟨_, rfl⟩
        go_wp2_with fail
        rw [hl0] at HCAN
        have hl1 : -10 ≤ l0 := by omega
        have hl2 : l0 ≤ 10 := by omega
        clear hlo0 hlo1 hl0 HML
        go_loop [0, 5] (fun lv cv => ∃ (i m d : Nat) (A : Option Addr), lv = .int .i64 (l0 + i) ∧ cv = .slice A m d ∧ i + m = k ∧ SL wr A m d (C.drop i) ∧ NewA w0 A m ∧ Hid (∀ j, j < i → C.getD j 0 = 0)) (fun _ cv => lenV cv)
        case atStart => exact ⟨0, k, d, A, by simp, rfl, by omega, by rw [List.drop_zero]; exact HSL.out, HNEW.out, fun j hj => absurd hj (by omega)⟩
        case round =>
          clear HSL HNEW
          obtain ⟨i, m, d, A, rfl, rfl, him, hsl, hnew, HZ⟩ := hrel
          have HSL := hide hsl
          have HNEW := hide hnew
          have hmd := hsl.cap
          clear hsl hnew
          have hbk := HBK.out.below HB.out (by omega)
          have hf0 := hbk.frozen 0
          have hf1 := hbk.frozen 1
          have hc0 := hbk.cell 0
          have hc1 := hbk.cell 1
          simp at hc0 hc1
          have HBR := hide hbk
          have hbw : w.heap.size < wr.heap.size := by omega
          have HBW := hide (HW0.out.trans (HB.out.mono (by omega)))
          clear hbk
          by_cases hm0 : m = 0
          · subst hm0
            have HP : Hid (P = (0, [])) := hide (HCAN.out 0 [] (.inl ⟨rfl, rfl⟩) (LP.of_zeros l0 fun j hj => HZ.out j (by rw [hRL.out] at hj; omega)))
            go_wp2_with fail
            refine wp_loop_rounds 1 ?_
            rw [rounds_succ]
            go_wp2_with fail
            refine bodyPost_ret (results_poly rfl _ rfl ((HBR.out.set_ 0 (.int .i64 0)).set_ 1 (.slice none 0 0))) rfl ?_
            rw [HP.out]
            exact ⟨none, 0, 0, rfl, SL.nil_ _, fun h => absurd h (by omega), (HBW.out.setCell (p := ⟨w.heap.size, 0, none⟩) (Nat.le_refl _) _).setCell (p := ⟨w.heap.size, 1, none⟩) (Nat.le_refl _) _⟩
          · obtain ⟨ad, rfl, hc⟩ := HSL.out.il.at_ (k := 0) (by omega)
            rw [show ad.add 0 = ad by unfold Addr.add; simp] at hc
            have hCi : (C.drop i).getD 0 0 = C.getD i 0 := by simp [List.getD]
            rw [hCi] at hc
            have hmg : decide ((0 : Int) < (m : Int)) = true := decide_eq_true (by omega)
            obtain ⟨x, hx⟩ : ∃ x, C.getD i 0 = x := ⟨_, rfl⟩
            rw [hx] at hc
            have HX := hide hx
            clear hx hCi
            by_cases hx0 : x = 0
            · have hxe : (x == 0) = true := by simp [hx0]
              have HT : Hid (SL wr (if d = 1 then some ad else some ⟨ad.block, ad.off + 1, none⟩) (m - 1) (d - 1) (C.drop (i + 1))) := hide (by
                have h := HSL.out.tail_ (by omega)
                rwa [List.drop_drop] at h)
              have HN : Hid (NewA w0 (if d = 1 then some ad else some ⟨ad.block, ad.off + 1, none⟩) (m - 1)) := hide (fun h a e => by
                have h2 := HNEW.out (by omega) ad rfl
                split at e <;> injection e with e <;> subst e <;> exact h2)
              have HZ2 : Hid (∀ j, j < i + 1 → C.getD j 0 = 0) := hide (fun j hj => by
                by_cases e : j = i
                · subst e; rw [HX.out]; exact hx0
                · exact HZ.out j (by omega))
              clear hx0 HX
              go_wp2_with fail
              go_round
              case rel => exact ⟨i + 1, m - 1, d - 1, _, by go_num, rfl, by omega, HT.out, HN.out, HZ2⟩
              case measure => simp [lenV]; omega
            · have hxe : (x == 0) = false := by simpa using hx0
              go_wp2_with fail
              go_loop [5] (fun cv => ∃ m' : Nat, cv = .slice (some ad) m' d ∧ 0 < m' ∧ m' ≤ m ∧ Hid (∀ j, i + m' ≤ j → j < k → C.getD j 0 = 0)) (fun cv => lenV cv)
              case atStart => exact ⟨m, rfl, by omega, Nat.le_refl _, fun j h1 h2 => absurd h2 (by omega)⟩
              case round =>
                obtain ⟨m', rfl, hm1, hm2, HZT⟩ := hrel
                obtain ⟨ad', e, hcl⟩ := HSL.out.il.at_ (k := m' - 1) (by omega)
                injection e with e
                subst e
                have hCl : (C.drop i).getD (m' - 1) 0 = C.getD (i + (m' - 1)) 0 := by simp [List.getD]
                rw [hCl] at hcl
                obtain ⟨y, hy⟩ : ∃ y, C.getD (i + (m' - 1)) 0 = y := ⟨_, rfl⟩
                rw [hy] at hcl
                have HY := hide hy
                have hmg2 : decide ((0 : Int) < (m' : Int)) = true := decide_eq_true (by omega)
                have hp2 : ((m' : Int) - 1).toNat = m' - 1 := by omega
                clear hy hCl
                by_cases hy0 : y = 0
                · have hye : (y == 0) = true := by simp [hy0]
                  have hm3 : 1 < m' := by
                    by_cases h : m' = 1
                    · subst h
                      have e1 := HY.out
                      have e2 := HX.out
                      rw [show i + (1 - 1) = i by omega] at e1
                      rw [e1] at e2
                      exact absurd (e2.symm.trans hy0) hx0
                    · omega
                  have HZT2 : Hid (∀ j, i + (m' - 1) ≤ j → j < k → C.getD j 0 = 0) := hide (fun j h1 h2 => by
                    by_cases e : j = i + (m' - 1)
                    · subst e; rw [HY.out]; exact hy0
                    · exact HZT.out j (by omega) h2)
                  clear hy0 HY
                  go_wp2_with fail
                  go_round
                  case rel => exact ⟨m' - 1, rfl, by omega, by omega, HZT2⟩
                  case measure => simp [lenV]; omega
                · have hye : (y == 0) = false := by simpa using hy0
                  have hme : ((m' : Int) == 0) = false := by simp; omega
                  have HE := hide (HSL.out.init_ (k := m') hm2 (by simp))
                  have HP : Hid (P = (l0 + i, (C.drop i).take m')) := hide (HCAN.out _ _ (.inr ⟨fun e => by
                    have := congrArg List.length e
                    rw [List.length_take, List.length_drop, hRL.out] at this
                    simp at this
                    omega, by
                    rw [show ((C.drop i).take m').getD 0 0 = C.getD i 0 by simp [List.getD, List.getElem?_take, hm1], HX.out]
                    exact hx0, by
                    rw [List.length_take, List.length_drop, hRL.out, show min m' (k - i) = m' by omega]
                    rw [show ((C.drop i).take m').getD (m' - 1) 0 = C.getD (i + (m' - 1)) 0 by simp [List.getD, List.getElem?_take, show m' - 1 < m' by omega], HY.out]
                    exact hy0⟩) (LP.of_trim l0 (by rw [hRL.out]; omega) HZ.out fun j h1 h2 => HZT.out j h1 (by rw [hRL.out] at h2; exact h2)))
                  clear hx0 hy0 HX HY
                  go_wp2_with fail
                  refine bodyPost_ret (results_poly rfl _ rfl ((HBR.out.set_ 0 (.int .i64 (l0 + i))).set_ 1 (.slice (some ad) m' d))) rfl ?_
                  rw [HP.out]
                  have hnw : ∀ a, some ad = some a → w0.heap.size ≤ a.block := HNEW.out (by omega)
                  have hab := hnw ad rfl
                  refine ⟨some ad, m', d, rfl, ?_, fun _ a e => by have := hnw a e; omega, (HBW.out.setCell (p := ⟨w.heap.size, 0, none⟩) (Nat.le_refl _) _).setCell (p := ⟨w.heap.size, 1, none⟩) (Nat.le_refl _) _⟩
                  exact (HE.out.setCell (fun _ a e => by injection e with e; subst e; omega) 0 _).setCell (fun _ a e => by injection e with e; subst e; omega) 1 _
end Go.Proofs.Ytgmjighgncpefaa
/- Sums and products of small polynomials fit. -/
namespace Go.Proofs.Ytgmjighgncpefaa
set_option linter.unusedVariables false
set_option linter.unusedSimpArgs false
open Go.RowKit
namespace LP
/-- A right polynomial. -/
def Rt (x : LP) : Prop := pfl (canon x).1 (canon x).2 = 0
theorem mulR_canon {x y : LP} (hx : Rt x) (hy : Rt y) (h : Rt (x * y)) : mulR (canon x).1 (canon x).2 (canon y).1 (canon y).2 = (0, (canon (x * y)).1, (canon (x * y)).2) := by
  unfold Rt at *
  unfold mulR two2
  rw [if_pos hx, if_pos hy, of_canon, of_canon, fit_ok h]
theorem addR_canon {x y : LP} (hx : Rt x) (hy : Rt y) (h : Rt (x + y)) : addR (canon x).1 (canon x).2 (canon y).1 (canon y).2 = (0, (canon (x + y)).1, (canon (x + y)).2) := by
  unfold Rt at *
  unfold addR two2
  rw [if_pos hx, if_pos hy, of_canon, of_canon, fit_ok h]
theorem subR_canon {x y : LP} (hx : Rt x) (hy : Rt y) (h : Rt (x + -y)) : subR (canon x).1 (canon x).2 (canon y).1 (canon y).2 = (0, (canon (x + -y)).1, (canon (x + -y)).2) := by
  unfold Rt at *
  unfold subR two2
  rw [if_pos hx, if_pos hy, of_canon, of_canon, fit_ok h]
theorem Rt.wf {x : LP} (h : Rt x) : (Lit.int .i64 (canon x).1).wf = true := by
  obtain ⟨_, h1, h2, _⟩ := pfl_zero h
  have h3 : IntKind.i64.min = -9223372036854775808 := by decide
  simp [Lit.wf, h3]
  omega
end LP
theorem rawC_len (raw : List Int) : (rawC raw).length ≤ 12 := by unfold rawC; rw [List.length_map, List.length_take]; omega
theorem rawC_le (raw : List Int) : ∀ c ∈ rawC raw, c.natAbs ≤ 50 := fun c hc => by
  obtain ⟨x, _, rfl⟩ := List.mem_map.1 hc
  have h1 := Int.emod_nonneg x (show (101 : Int) ≠ 0 by omega)
  have h2 := Int.emod_lt_of_pos x (show (0 : Int) < 101 by omega)
  omega
theorem mkP_sm (low : Int) (raw : List Int) : LP.Sm (mkP low raw) (-10) 21 50 := by
  have h1 := Int.emod_nonneg low (show (21 : Int) ≠ 0 by omega)
  have h2 := Int.emod_lt_of_pos low (show (0 : Int) < 21 by omega)
  exact (LP.Sm.of_ (rawC_len raw) (rawC_le raw)).mono (by omega) (by omega) (Nat.le_refl _)
/-- A product with such a polynomial. -/
theorem mkP_mul (low : Int) (raw : List Int) {y : LP} {l h : Int} {C : Nat} (hy : LP.Sm y l h C) : LP.Sm (mkP low raw * y) (l - 10) (h + 21) (12 * (50 * C)) := by
  have h1 := Int.emod_nonneg low (show (21 : Int) ≠ 0 by omega)
  have h2 := Int.emod_lt_of_pos low (show (0 : Int) < 21 by omega)
  exact (LP.Sm.mul_of (rawC_len raw) (rawC_le raw) hy).mono (by omega) (by omega) (Nat.le_refl _)
end Go.Proofs.Ytgmjighgncpefaa
