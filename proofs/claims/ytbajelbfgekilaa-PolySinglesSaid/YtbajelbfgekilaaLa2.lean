/- Package laurent: the end of a polynomial, its coefficients as a function, both checks, what is accepted. -/
import Derived.Test.YtbajelbfgekilaaLa1
import Derived.Laws.EntriesVeiled
namespace Go.Proofs.Ytbajelbfgekilaa
set_option linter.unusedVariables false
set_option linter.unusedSimpArgs false
open Go.RowKit

set_option maxRecDepth 100000 in
set_option maxHeartbeats 2000000 in
theorem endOf_any (la : Int) (A : Option Addr) (n c : Nat) (w : World) (h1 : la.natAbs ≤ 1000000) (h2 : n ≤ 1000000) :
    Calls Try.prog 39 #[PV la A n c] w fun e w' => e = .returned (.int .i64 (la + n)) ∧ w' = w.alloc (.cells #[.int .i64 la, .slice A n c] 24) := by
  have hw : IntKind.i64.wrap (la + (n : Int)) = la + n := by rw [IntKind.wrap_i64]; omega
  have hb1 := Blk.new w 24 #[.int .i64 la, .slice A n c]
  obtain ⟨w0, hw0⟩ : ∃ x, w.alloc (.cells #[.int .i64 la, .slice A n c] 24) = x := ⟨_, rfl⟩
  rw [hw0] at hb1
  have hq0 := hb1.cell 0
  have hq1 := hb1.cell 1
  simp at hq0 hq1
  clear hb1
  have HW0 := hide hw0
  go_enter Try.func39, Try.ntmps39
  go_upto_region 1 with fail
  clear hw0
  go_wp2_with fail
  go_ret
  exact ⟨rfl, HW0.out.symm⟩
theorem eEndOf : ∀ args w, (callFunc 39 args).run Try.prog w = .ok (.enter 39 args) w := enters (fn := Try.f39) (by kernel_rfl) (by kernel_rfl) (by kernel_rfl)

set_option maxRecDepth 100000 in
set_option maxHeartbeats 2000000 in
theorem coefficients_any (la : Int) (A : Option Addr) (n c : Nat) (w : World) :
    Calls Try.prog 37 #[PV la A n c] w fun e w' => e = .returned (.func (.func 54) #[] #[.pointer (some ⟨w.heap.size, 0, none⟩)]) ∧ w' = w.alloc (.cells #[.int .i64 la, .slice A n c] 24) := by
  have hmf : ∀ (fn : Fn) (first cap : Array Value) (w : World), (Instr.makeFunc fn first cap).run Try.prog w = .ok (.func fn first cap) w := fun _ _ _ _ => rfl
  go_enter Try.func37, Try.ntmps37
  go_wp2_with fail
  go_ret
  exact ⟨rfl, rfl⟩
theorem eCoeffs : ∀ args w, (callFunc 37 args).run Try.prog w = .ok (.enter 37 args) w := enters (fn := Try.f37) (by kernel_rfl) (by kernel_rfl) (by kernel_rfl)
theorem eCoeff : ∀ args w, (callFunc 54 args).run Try.prog w = .ok (.enter 54 args) w := enters (fn := Try.f54) (by kernel_rfl) (by kernel_rfl) (by kernel_rfl)

set_option maxRecDepth 100000 in
set_option maxHeartbeats 2000000 in
theorem coeff_any (la : Int) (A : Option Addr) (n c : Nat) (xs : List Int) (b : Nat) (x : Int) (w : World) (ha : SL w A n c xs) (hb : Blk w b 24 #[.int .i64 la, .slice A n c]) (h1 : la.natAbs ≤ 1000000) (h2 : n ≤ 1000000) (h3 : x.natAbs ≤ 100000000) :
    Calls Try.prog 54 #[.int .i64 x, .pointer (some ⟨b, 0, none⟩)] w fun e w' => e = .returned (.int .i64 (LP.co (LP.of la xs) x)) ∧ Below w.heap.size w w' := by
  have hl := ha.il.len
  have HC : Hid (LP.co (LP.of la xs) x = if la ≤ x ∧ x < la + n then xs.getD (x - la).toNat 0 else 0) := hide (by rw [LP.co_of, hl])
  have hq0 := hb.cell 0
  have hq1 := hb.cell 1
  simp at hq0 hq1
  have HE := hide (endOf_any la A n c w h1 h2)
  have hbb : Below w.heap.size w (w.alloc (.cells #[.int .i64 la, .slice A n c] 24)) := (Below.refl _ _).alloc (Nat.le_refl _) _
  have HBB := hide hbb
  by_cases hlo : x < la
  · have HR : Hid (LP.co (LP.of la xs) x = 0) := hide (by rw [HC.out, if_neg (by omega)])
    have HB0 := hide (Below.refl w.heap.size w)
    clear ha hb HE hbb HBB HC
    go_enter Try.func54, Try.ntmps54
    go_wp2_with fail
    go_ret
    rw [HR.out]
    exact ⟨rfl, HB0.out⟩
  by_cases hhi : la + n ≤ x
  · have HR : Hid (LP.co (LP.of la xs) x = 0) := hide (by rw [HC.out, if_neg (by omega)])
    clear ha hb hbb HC
    go_enter Try.func54, Try.ntmps54
    go_wp2_with fail
    refine HE.out.mono ?_
    rintro e w1 ⟨rfl, rfl⟩
    have HBB1 := hide HBB.out
    clear HBB hq0 hq1
    generalize w.alloc (.cells #[.int .i64 la, .slice A n c] 24) = w1 at *
    go_wp2_with fail
    go_ret
    rw [HR.out]
    exact ⟨rfl, HBB1.out⟩
  · obtain ⟨k, hk⟩ : ∃ k : Nat, x = la + k := ⟨(x - la).toNat, by omega⟩
    have hkn : k < n := by omega
    have HR : Hid (LP.co (LP.of la xs) x = xs.getD k 0) := hide (by rw [HC.out, if_pos (by omega), show (x - la).toNat = k by omega])
    obtain ⟨ad, hA, hc⟩ := (ha.below hbb).il.at_ hkn
    have hq2 := (hb.below hbb hb.lt).cell 0
    have hq3 := (hb.below hbb hb.lt).cell 1
    simp at hq2 hq3
    have hw : IntKind.i64.wrap (la + (k : Int) - la) = k := by rw [IntKind.wrap_i64]; omega
    subst hA hk
    obtain ⟨y, hy⟩ : ∃ y, xs.getD k 0 = y := ⟨_, rfl⟩
    rw [hy] at hc HR
    clear hy
    have HC2 := hide hc
    have HQ2 := hide hq2
    have HQ3 := hide hq3
    clear ha hb hbb HC hc hq2 hq3
    go_enter Try.func54, Try.ntmps54
    go_wp2_with fail
    refine HE.out.mono ?_
    rintro e w1 ⟨rfl, rfl⟩
    have HBB1 := hide HBB.out
    clear HBB hq0 hq1
    have hc := HC2.out
    have hq2 := HQ2.out
    have hq3 := HQ3.out
    clear HC2 HQ2 HQ3
    generalize w.alloc (.cells #[.int .i64 la, .slice (some ad) n c] 24) = w1 at *
    go_wp2_with fail
    go_ret
    rw [HR.out]
    exact ⟨rfl, HBB1.out⟩

/-- The error of two polynomials. -/
def LP.pfl2 (la : Int) (xs : List Int) (lb : Int) (ys : List Int) : Int := if pfl la xs = 0 then pfl lb ys else pfl la xs
set_option maxRecDepth 100000 in
set_option maxHeartbeats 2000000 in
theorem checkBoth_any (la : Int) (A : Option Addr) (n c : Nat) (xs : List Int) (lb : Int) (B : Option Addr) (m d : Nat) (ys : List Int) (w : World) (ha : SL w A n c xs) (hb : SL w B m d ys) :
    Calls Try.prog 48 #[PV la A n c, PV lb B m d] w fun e w' => e = .returned (.int .i64 (LP.pfl2 la xs lb ys)) ∧ Below w.heap.size w w' := by
  have h1 : Below w.heap.size w ((w.alloc (.cells #[.int .i64 la, .slice A n c] 24)).alloc (.cells #[.int .i64 lb, .slice B m d] 24)) := ((Below.refl _ _).alloc (Nat.le_refl _) _).alloc (by simp) _
  have hB2 := Blk.new (w.alloc (.cells #[.int .i64 la, .slice A n c] 24)) 24 #[.int .i64 lb, .slice B m d]
  have HW := hide h1
  have HA := hide (lcheck_any la A n c xs _ (ha.below h1))
  have HBS := hide (hb.below h1)
  simp only [World.size_alloc] at hB2
  have HB2 := hide hB2
  clear ha hb hB2 h1
  go_enter Try.func48, Try.ntmps48
  go_upto_region 1 with fail
  obtain ⟨w0, hw0⟩ : ∃ x, ((w.alloc (.cells #[.int .i64 la, .slice A n c] 24)).alloc (.cells #[.int .i64 lb, .slice B m d] 24)) = x := ⟨_, rfl⟩
  have hB1 := (Blk.new w 24 #[.int .i64 la, .slice A n c]).alloc (.cells #[.int .i64 lb, .slice B m d] 24)
  rw [hw0] at HW HA HBS HB2 hB1 ⊢
  have hq0 := hB1.cell 0
  have hq1 := hB1.cell 1
  simp at hq0 hq1
  clear hw0 hB1
  go_wp2_with fail
  refine HA.out.mono ?_
  rintro e w1 ⟨rfl, hb⟩
  have HW1 := hide (HW.out.trans (hb.mono HW.out.size))
  have HB1 := hide (HBS.out.below hb)
  have hk := HB2.out.below hb HB2.out.lt
  have hr0 := hk.cell 0
  have hr1 := hk.cell 1
  simp at hr0 hr1
  obtain ⟨p, hp⟩ : ∃ p, LP.pfl la xs = p := ⟨_, rfl⟩
  have HP : Hid (LP.pfl2 la xs lb ys = if p = 0 then LP.pfl lb ys else p) := hide (by unfold LP.pfl2; rw [hp])
  rw [hp]
  clear hb HA HBS HB2 hq0 hq1 hk hp
  by_cases h0 : p = 0
  · subst h0
    go_wp2_with fail
    refine (lcheck_any lb B m d ys _ HB1.out).mono ?_
    rintro e w2 ⟨rfl, hb⟩
    have HW2 := hide (HW1.out.trans (hb.mono HW1.out.size))
    clear hb hr0 hr1
    go_wp2_with fail
    go_ret
    rw [HP.out, if_pos trivial]
    exact ⟨rfl, HW2.out⟩
  · have hne : (p != 0) = true := by simpa using h0
    go_wp2_with fail
    go_ret
    rw [HP.out, if_neg h0]
    exact ⟨rfl, HW1.out⟩

set_option maxRecDepth 100000 in
set_option maxHeartbeats 2000000 in
theorem accepted_any (la : Int) (A : Option Addr) (n c : Nat) (xs : List Int) (w : World) (ha : SL w A n c xs) :
    Calls Try.prog 51 #[PV la A n c] w fun e w' => ∃ B m d, e = .returned (.tuple #[PV (LP.fitL la xs).2.1 B m d, .int .i64 (LP.fitL la xs).1]) ∧ SL w' B m d (LP.fitL la xs).2.2 ∧ (0 < m → B = A ∧ m = n) ∧ Below w.heap.size w w' := by
  have hb1 := (Blk.new w 24 #[.int .i64 la, .slice A n c]).alloc (.cells #[.int .i64 0, .slice none 0 0] 24)
  have hb2 := Blk.new (w.alloc (.cells #[.int .i64 la, .slice A n c] 24)) 24 #[.int .i64 0, .slice none 0 0]
  have hbw : Below w.heap.size w ((w.alloc (.cells #[.int .i64 la, .slice A n c] 24)).alloc (.cells #[.int .i64 0, .slice none 0 0] 24)) := ((Below.refl _ _).alloc (Nat.le_refl _) _).alloc (by simp) _
  have HA := hide (ha.below hbw)
  have HW := hide hbw
  simp only [World.size_alloc] at hb2
  have B1 := hide hb1
  have B2 := hide hb2
  have hin := ha.inside
  clear hb1 hb2 hbw ha
  have HI := hide hin
  clear hin
  go_enter Try.func51, Try.ntmps51
  go_upto_region 1 with fail
  obtain ⟨w0, hw0⟩ : ∃ x, ((w.alloc (.cells #[.int .i64 la, .slice A n c] 24)).alloc (.cells #[.int .i64 0, .slice none 0 0] 24)) = x := ⟨_, rfl⟩
  rw [hw0] at HA HW B1 B2 ⊢
  clear hw0
  have l1 := B1.out.lt
  have l2 := B2.out.lt
  have hq0 := B1.out.cell 0
  have hq1 := B1.out.cell 1
  simp at hq0 hq1
  go_wp2_with fail
  refine (lcheck_any la A n c xs _ HA.out).mono ?_
  rintro e w1 ⟨rfl, hb⟩
  replace HA := hide (HA.out.below hb)
  replace HW := hide (HW.out.trans (hb.mono HW.out.size))
  replace B1 := hide (B1.out.below hb l1)
  replace B2 := hide (B2.out.below hb l2)
  clear hb hq0 hq1 l1 l2
  have l1 := B1.out.lt
  have l2 := B2.out.lt
  have hq0 := B1.out.cell 0
  have hq1 := B1.out.cell 1
  simp at hq0 hq1
  have hr0 := B2.out.cell 0
  have hr1 := B2.out.cell 1
  simp at hr0 hr1
  have hf0 := B2.out.frozen 0
  have hf1 := B2.out.frozen 1
  have HB0 := hide (Below.refl w.heap.size w)
  by_cases hp : LP.pfl la xs = 0
  · have HR : Hid (LP.fitL la xs = (0, la, xs)) := hide (by unfold LP.fitL; rw [if_pos hp])
    rw [hp]
    go_wp2_with fail
    refine bodyPost_ret (results_pe rfl _ rfl rfl ((B2.out.set_ 0 (.int .i64 la)).set_ 1 (.slice A n c))) rfl ?_
    rw [HR.out]
    refine ⟨A, n, c, rfl, ?_, fun _ => ⟨rfl, rfl⟩, ?_⟩
    · exact (HA.out.setCell (fun h ad e => by have := HI.out h ad e; omega) 0 _).setCell (fun h ad e => by have := HI.out h ad e; omega) 1 _
    · exact (HW.out.setCell (p := ⟨w.heap.size + 1, 0, none⟩) (by show w.heap.size ≤ w.heap.size + 1; omega) _).setCell (p := ⟨w.heap.size + 1, 1, none⟩) (by show w.heap.size ≤ w.heap.size + 1; omega) _
  · have HR : Hid (LP.fitL la xs = (2, 0, [])) := hide (by unfold LP.fitL; rw [if_neg hp])
    have hne : (LP.pfl la xs != 0) = true := by simpa using hp
    clear hp
    go_wp2_with fail
    refine bodyPost_ret (results_pe rfl _ rfl rfl ((B2.out.set_ 0 (.int .i64 0)).set_ 1 (.slice none 0 0))) rfl ?_
    rw [HR.out]
    refine ⟨none, 0, 0, rfl, SL.nil_ _, fun h => absurd h (by omega), ?_⟩
    exact (HW.out.setCell (p := ⟨w.heap.size + 1, 0, none⟩) (by show w.heap.size ≤ w.heap.size + 1; omega) _).setCell (p := ⟨w.heap.size + 1, 1, none⟩) (by show w.heap.size ≤ w.heap.size + 1; omega) _
theorem eAccepted : ∀ args w, (callFunc 51 args).run Try.prog w = .ok (.enter 51 args) w := enters (fn := Try.f51) (by kernel_rfl) (by kernel_rfl) (by kernel_rfl)
theorem eTrimmed : ∀ args w, (callFunc 52 args).run Try.prog w = .ok (.enter 52 args) w := enters (fn := Try.f52) (by kernel_rfl) (by kernel_rfl) (by kernel_rfl)
end Go.Proofs.Ytbajelbfgekilaa
