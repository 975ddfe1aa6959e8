/- Several texts in one. -/
import Derived.Test.YtoaiblhlpdaeoaaPart5
import Derived.Test.YtoaiblhlpdaeoaaPart2
import Derived.BigRegion
import Derived.Handy
import Derived.Test.YtoaiblhlpdaeoaaPart4
import Derived.BigQuiet
/- Package artin: putInFront. -/
namespace Go.Proofs.Ytoaiblhlpdaeoaa
set_option linter.unusedVariables false
set_option linter.unusedSimpArgs false
open Go.RowKit

/-- Words in a block g of the call's own; none of them lies in it. -/
structure ImB (w : World) (g n : Nat) (X : Nat → List Int) : Prop where
  blk : ∃ cs, Blk w g 22 cs
  at_ : ∀ j, j < n → ∃ B m d, w.cell? ⟨g, j, none⟩ = some (.slice B m d) ∧ SL w B m d (X j) ∧ (0 < m → ∀ ad, B = some ad → g < ad.block)
theorem ImB.lt {w : World} {g n : Nat} {X : Nat → List Int} (h : ImB w g n X) : g < w.heap.size := by
  obtain ⟨cs, hc⟩ := h.blk
  exact hc.lt
theorem ImB.frozen {w : World} {g n : Nat} {X : Nat → List Int} (h : ImB w g n X) (i : Nat) : w.frozen? ⟨g, i, none⟩ = false := by
  obtain ⟨cs, hc⟩ := h.blk
  exact hc.frozen i
theorem ImB.below {w w' : World} {g n : Nat} {X : Nat → List Int} (h : ImB w g n X) (hb : Below w.heap.size w w') : ImB w' g n X := by
  refine ⟨?_, fun j hj => ?_⟩
  · obtain ⟨cs, hc⟩ := h.blk
    exact ⟨cs, hc.below hb hc.lt⟩
  · obtain ⟨B, m, d, h1, h2, h3⟩ := h.at_ j hj
    exact ⟨B, m, d, (hb.cell (p := ⟨g, j, none⟩) h.lt).trans h1, h2.below hb, h3⟩
theorem ImB.congr {w : World} {g n : Nat} {X Y : Nat → List Int} (h : ImB w g n X) (he : ∀ j, j < n → X j = Y j) : ImB w g n Y := by
  refine ⟨h.blk, fun j hj => ?_⟩
  rw [← he j hj]
  exact h.at_ j hj
theorem ImB.set_ {w : World} {g n k : Nat} {X : Nat → List Int} {x : List Int} {B : Option Addr} {m d : Nat} (h : ImB w g n X) (hk : k < n) (hs : SL w B m d x) (hg : 0 < m → ∀ ad, B = some ad → g < ad.block) :
    ImB (w.setCell ⟨g, k, none⟩ (.slice B m d)) g n (fun j => if j = k then x else X j) := by
  obtain ⟨cs, hc⟩ := h.blk
  have hc0 := hc.set_ k (.slice B m d)
  obtain ⟨_, _, _, hk0, _, _⟩ := h.at_ k hk
  rw [hc.cell] at hk0
  obtain ⟨z0, _⟩ := Array.getElem?_eq_some_iff.1 hk0
  refine ⟨⟨_, hc0⟩, fun j hj => ?_⟩
  show ∃ B_1 m_1 d_1, _
  by_cases e : j = k
  · subst e
    rw [if_pos rfl]
    exact ⟨B, m, d, by rw [hc0.cell, Array.getElem?_setIfInBounds, if_pos rfl, if_pos z0], hs.setCell (fun a b c => Nat.ne_of_gt (hg a b c)) _ _, hg⟩
  · rw [if_neg e]
    obtain ⟨B', m', d', h1, h2, h3⟩ := h.at_ j hj
    rw [hc.cell] at h1
    exact ⟨B', m', d', by rw [hc0.cell, Array.getElem?_setIfInBounds, if_neg (by omega)]; exact h1, h2.setCell (fun a b c => Nat.ne_of_gt (h3 a b c)) _ _, h3⟩
theorem chgA_below {g : Nat} {w w' : World} (hb : Below w.heap.size w w') : w.grownBy w' (some g) := ⟨hb.os, hb.tape, hb.output, hb.size, fun b h _ => hb.block b h⟩
theorem chgA_trans {g : Nat} {w w1 w2 : World} (h1 : w.grownBy w1 (some g)) (h2 : w1.grownBy w2 (some g)) : w.grownBy w2 (some g) :=
  ⟨h2.os.trans h1.os, h2.tape.trans h1.tape, h2.output.trans h1.output, Nat.le_trans h1.size h2.size, fun b h hne => (h2.block b (Nat.lt_of_lt_of_le h h1.size) hne).trans (h1.block b h hne)⟩
theorem chgA_set {g i : Nat} {w : World} {v : Value} : w.grownBy (w.setCell ⟨g, i, none⟩ v) (some g) := by
  have h := (Below.refl g w).setCell (p := ⟨g, i, none⟩) (Nat.le_refl _) v
  exact ⟨h.os, h.tape, h.output, h.size, fun b _ hne => Below.heap_setCell w ⟨g, i, none⟩ v b (fun e => hne (by rw [e]))⟩
/-- The images under a letter and a word, out of those under the word. -/
def stepI (x : Int) (X : Nat → List Int) : Nat → List Int := fun j =>
  if 0 < x then (if j + 1 = x.natAbs then conjW (X j) (X (j + 1)) else if j = x.natAbs then X (j - 1) else X j)
  else (if j + 1 = x.natAbs then X (j + 1) else if j = x.natAbs then conjW (invw (X j)) (X (j - 1)) else X j)

set_option maxRecDepth 100000 in
set_option maxHeartbeats 8000000 in
theorem aput_any (g n : Nat) (X : Nat → List Int) (x : Int) (w : World) (h : ImB w g n X) (hx : x ≠ 0) (hxn : x.natAbs < n) (hn : n ≤ 6) (hX : ∀ j, j < n → smallL (X j) ∧ (X j).length ≤ 3000) :
    Calls Try.prog 72 #[.slice (some ⟨g, 0, none⟩) n n, .int .i64 x] w fun e w' => e = .returned (.tuple #[]) ∧ ImB w' g n (stepI x X) ∧ w.grownBy w' (some g) := by
  obtain ⟨j, hj⟩ : ∃ j, x.natAbs = j + 1 := ⟨x.natAbs - 1, by omega⟩
  have HJ := hide hj
  have HM : Hid (max x (-x) = (j : Int) + 1) := hide (by omega)
  have hwx : IntKind.i64.wrap (-x) = -x := by rw [IntKind.wrap_i64]; omega
  have hwj : IntKind.i64.wrap (j : Int) = (j : Int) := by rw [IntKind.wrap_i64]; omega
  have hwj1 : IntKind.i64.wrap ((j : Int) + 1) = (j : Int) + 1 := by rw [IntKind.wrap_i64]; omega
  have hjn : j + 1 < n := by omega
  have hjn0 : j < n := by omega
  obtain ⟨A, an, ac, a0, hA, hA2⟩ := h.at_ j hjn0
  obtain ⟨C, cn, cc, c0, hC, hC2⟩ := h.at_ (j + 1) hjn
  obtain ⟨sA, lA⟩ := hX j hjn0
  obtain ⟨sC, lC⟩ := hX (j + 1) hjn
  rw [hA.il.len] at lA
  rw [hC.il.len] at lC
  have fr0 := h.frozen j
  have fr1 := h.frozen (j + 1)
  have HA := hide hA
  have HC := hide hC
  have HA2 := hide hA2
  have HC2 := hide hC2
  have HSA := hide sA
  have HSC := hide sC
  have H := hide h
  have hgl := h.lt
  have hx6 : x.natAbs ≤ 6 := by omega
  clear h hA hC hA2 hC2 sA sC hX hj hxn
  by_cases hp : 0 < x
  · have hpd : decide (0 < x) = true := decide_eq_true hp
    clear hx hp
    go_enter Try.func72, Try.ntmps72
    go_wp2_with ((with_reducible show wpList _ _ _ (Oper.mk _ (.call { callee := .builtin .max, args := _, argTypes := _ }) _ _ _ _ :: _) _ _); refine wpList_gives rfl (gives_maxI rfl rfl rfl HM.out) ?_)
    go_region
    have hdr : Below w.heap.size w w.drew := (Below.refl _ _).drew
    replace HA := hide (HA.out.below hdr)
    replace HC := hide (HC.out.below hdr)
    replace H := hide (H.out.below hdr)
    have HW := hide hdr
    go_wp2_with fail
    refine (aconj_any A an ac _ C cn cc _ _ HA.out HC.out HSA.out HSC.out lA lC).mono ?_
    rintro e w1 ⟨R, rn, rc, rfl, hr, hb⟩
    have HN1 := H.out.below hb
    have f0 := HN1.frozen j
    obtain ⟨_, _, _, k0, _, _⟩ := HN1.at_ j hjn0
    have hr3 : 0 < rn → ∀ ad, R = some ad → g < ad.block := fun h ad e => by
      obtain ⟨q, rfl, hq, _⟩ := hr.form h
      injection e with e
      subst e
      have : w.heap.size ≤ q := hq
      show g < q
      omega
    have HN2 := HN1.set_ hjn0 hr.sl hr3
    obtain ⟨_, _, _, k1, _, _⟩ := HN2.at_ (j + 1) hjn
    have f1 := HN2.frozen (j + 1)
    have hA3 : SL (w1.setCell ⟨g, j, none⟩ (.slice R rn rc)) A an ac (X j) := (HA.out.below hb).setCell (fun a b c => Nat.ne_of_gt (HA2.out a b c)) _ _
    have HN3 := HN2.set_ hjn hA3 HA2.out
    have HF := hide (HN3.congr (Y := stepI x X) (fun q hq => by
      unfold stepI
      rw [HJ.out, if_pos (of_decide_eq_true hpd)]
      by_cases e1 : q = j + 1
      · subst e1; simp
      · by_cases e2 : q = j
        · subst e2; simp
        · simp [e1, e2]))
    have HG := hide (chgA_trans (chgA_trans (chgA_trans (g := g) (chgA_below HW.out) (chgA_below hb)) (chgA_set (g := g) (i := j) (v := .slice R rn rc))) (chgA_set (g := g) (i := j + 1) (v := .slice A an ac)))
    clear hr hb hr3 HN1 HN2 HN3 hA3 hdr
    go_wp2_with fail
    go_returns
    exact ⟨rfl, HF.out, HG.out⟩
  · have hpd : decide (0 < x) = false := decide_eq_false hp
    clear hx hp
    go_enter Try.func72, Try.ntmps72
    go_wp2_with ((with_reducible show wpList _ _ _ (Oper.mk _ (.call { callee := .builtin .max, args := _, argTypes := _ }) _ _ _ _ :: _) _ _); refine wpList_gives rfl (gives_maxI rfl rfl rfl HM.out) ?_)
    go_region
    have hdr : Below w.heap.size w w.drew := (Below.refl _ _).drew
    replace HA := hide (HA.out.below hdr)
    replace HC := hide (HC.out.below hdr)
    replace H := hide (H.out.below hdr)
    have HW := hide hdr
    go_wp2_with fail
    refine (ainv_any C cn cc _ _ HC.out.il HSC.out).mono ?_
    rintro e w0 ⟨I, ni, ci, rfl, hi, hb⟩
    have hni : ni ≤ 3000 := by
      have h1 := hi.len
      have h2 := HC.out.il.len
      simp [invw] at h1
      omega
    replace HA := hide (HA.out.below hb)
    replace HC := hide (HC.out.below hb)
    replace H := hide (H.out.below hb)
    replace HW := hide (HW.out.trans (hb.mono HW.out.size))
    have HI := hide hi.sl
    clear hi hb
    go_wp2_with fail
    refine (aconj_any I ni ci _ A an ac _ _ HI.out HA.out HSC.out.inv HSA.out hni lA).mono ?_
    rintro e w1 ⟨R, rn, rc, rfl, hr, hb⟩
    have hwl := HW.out.size
    have HN1 := H.out.below hb
    have f0 := HN1.frozen j
    obtain ⟨_, _, _, k0, _, _⟩ := HN1.at_ j hjn0
    have hr3 : 0 < rn → ∀ ad, R = some ad → g < ad.block := fun h ad e => by
      obtain ⟨q, rfl, hq, _⟩ := hr.form h
      injection e with e
      subst e
      have : w0.heap.size ≤ q := hq
      show g < q
      omega
    have hC3 : SL w1 C cn cc (X (j + 1)) := HC.out.below hb
    have HN2 := HN1.set_ hjn0 hC3 HC2.out
    obtain ⟨_, _, _, k1, _, _⟩ := HN2.at_ (j + 1) hjn
    have f1 := HN2.frozen (j + 1)
    have hr4 : SL (w1.setCell ⟨g, j, none⟩ (.slice C cn cc)) R rn rc (conjW (invw (X (j + 1))) (X j)) := hr.sl.setCell (fun a b c => Nat.ne_of_gt (hr3 a b c)) _ _
    have HN3 := HN2.set_ hjn hr4 hr3
    have HF := hide (HN3.congr (Y := stepI x X) (fun q hq => by
      unfold stepI
      rw [HJ.out, if_neg (of_decide_eq_false hpd)]
      by_cases e1 : q = j + 1
      · subst e1; simp
      · by_cases e2 : q = j
        · subst e2; simp
        · simp [e1, e2]))
    have HG := hide (chgA_trans (chgA_trans (chgA_trans (g := g) (chgA_below HW.out) (chgA_below hb)) (chgA_set (g := g) (i := j) (v := .slice C cn cc))) (chgA_set (g := g) (i := j + 1) (v := .slice R rn rc)))
    clear hr hb hr3 HN1 HN2 HN3 hr4 hdr hC3
    go_wp2_with fail
    go_returns
    exact ⟨rfl, HF.out, HG.out⟩
end Go.Proofs.Ytoaiblhlpdaeoaa
/- Package garside: descent, looseAt, exchange, halfTwist, isHalfTwist, isIdentity, mirror. -/
namespace Go.Proofs.Ytoaiblhlpdaeoaa
set_option linter.unusedVariables false
set_option linter.unusedSimpArgs false
open Go.RowKit

/-- A place, or -1. -/
def dsI : Option Nat → Int
  | some i => (i : Int)
  | none => -1
theorem firstD_no {p : List Nat} (h : ∀ j, j + 1 < p.length → p.getD j 0 ≤ p.getD (j + 1) 0) : Gar.firstD p = none := by
  cases hf : Gar.firstD p with
  | none => rfl
  | some i =>
    obtain ⟨h1, h2⟩ := Gar.firstD_some hf
    have := h i h1
    omega
/-- Whether the crossing at i can be moved. -/
def loB (c b : List Nat) (i : Nat) : Bool := decide (b.getD (i + 1) 0 < b.getD i 0) && decide (c.getD i 0 < c.getD (i + 1) 0)
theorem loose_no {c b : List Nat} (h : ∀ j, j + 1 < b.length → loB c b j = false) : loose c b = none := by
  unfold loose
  rw [List.find?_eq_none]
  intro j hj
  rw [List.mem_range] at hj
  have := h j (by omega)
  unfold loB at this
  rw [this]
  simp
theorem loose_yes {c b : List Nat} {k : Nat} (hk : k + 1 < b.length) (h : loB c b k = true) (hb : ∀ j, j < k → loB c b j = false) : loose c b = some k := find_first (by exact h) (fun j hj => by exact hb j hj) _ (by omega)

set_option maxRecDepth 100000 in
set_option maxHeartbeats 4000000 in
theorem gdescent_any (A : Option Addr) (n c : Nat) (p : List Nat) (w : World) (ha : IL w A n (zs p)) (hl : p.length = n) :
    Calls Try.prog 96 #[.slice A n c] w fun e w' => e = .returned (.int .i64 (dsI (Gar.firstD p))) ∧ Below w.heap.size w w' := by
  have HA := hide ha
  have HL := hide hl
  have hns := ha.small
  clear ha hl
  have hwn : IntKind.i64.wrap ((n : Int) - 1) = (n : Int) - 1 := by rw [IntKind.wrap_i64]; omega
  go_enter Try.func96, Try.ntmps96
  go_wp2_with fail
  go_loopw [7] (fun iv wr => ∃ k : Nat, (k = 0 ∨ k + 1 ≤ n) ∧ iv = .int .i64 (k : Int) ∧ Hid (∀ j, j < k → p.getD j 0 ≤ p.getD (j + 1) 0) ∧ Hid (Below w.heap.size w wr)) (fun iv _ => n - (intOf iv).toNat)
  case atStart => exact ⟨0, .inl rfl, rfl, hide (fun j h => absurd h (by omega)), hide (Below.refl _ _)⟩
  case round =>
    obtain ⟨k, hk, rfl, HN, HW⟩ := hrel
    by_cases hlt : k + 1 < n
    · have hcd : decide ((k : Int) < (n : Int) - 1) = true := decide_eq_true (by omega)
      obtain ⟨ad, rfl, hc0⟩ := (HA.out.below HW.out).at_ (k := k) (by omega)
      obtain ⟨_, e1, hc1⟩ := (HA.out.below HW.out).at_ (k := k + 1) hlt
      injection e1 with e1
      subst e1
      rw [zs_getD] at hc0 hc1
      obtain ⟨x, hx⟩ : ∃ x, p.getD k 0 = x := ⟨_, rfl⟩
      obtain ⟨y, hy⟩ : ∃ y, p.getD (k + 1) 0 = y := ⟨_, rfl⟩
      rw [hx] at hc0
      rw [hy] at hc1
      have HX := hide hx
      have HY := hide hy
      obtain ⟨i, hi⟩ : ∃ i, k + 1 = i := ⟨_, rfl⟩
      have hw1 : IntKind.i64.wrap ((k : Int) + 1) = (i : Int) := by rw [IntKind.wrap_i64]; omega
      have hw2 : (k : Int) + 1 = (i : Int) := by omega
      have hk0 : k < n := by omega
      have hi0 : i < n := by omega
      have HI := hide hi
      have HLT := hide hlt
      rw [hi] at hc1
      clear hx hy hk hi hlt
      by_cases hxy : y < x
      · have hd : decide ((y : Int) < (x : Int)) = true := decide_eq_true (by omega)
        have hdn : decide (y < x) = true := decide_eq_true hxy
        have HF := hide (firstD_eq (p := p) (k := k) (by rw [HL.out]; exact HLT.out) (by rw [HX.out, HY.out]; exact hxy) HN.out)
        clear HN
        go_upto_region 4 with fail
        go_quiet (fail)
        have HBE := hide (below_drewN HW.out nq)
        go_wp2_with fail
        go_ret
        exact ⟨by rw [HF.out]; rfl, HBE.out⟩
      · have hd : decide ((y : Int) < (x : Int)) = false := decide_eq_false (by omega)
        have hdn : decide (y < x) = false := decide_eq_false hxy
        have HN2 : Hid (∀ j, j < k + 1 → p.getD j 0 ≤ p.getD (j + 1) 0) := hide (fun j h1 => by
          by_cases e : j = k
          · subst e; rw [HX.out, HY.out]; omega
          · exact HN.out j (by omega))
        clear HN
        go_upto_region 4 with fail
        go_quiet (fail)
        have HBE := hide (below_drewN HW.out nq)
        go_wp2_with fail
        go_roundw
        case rel => exact ⟨k + 1, .inr (by have := HLT.out; omega), by rw [← HI.out], HN2, HBE⟩
        case measure => have := HI.out; simp [intOf]; omega
    · have hcd : decide ((k : Int) < (n : Int) - 1) = false := decide_eq_false (by omega)
      have HF := hide (firstD_no (p := p) (fun j hj => HN.out j (by rw [HL.out] at hj; omega)))
      clear HN hk
      go_wp2_with fail
      go_ret
      exact ⟨by rw [HF.out]; rfl, HW.out⟩

set_option maxRecDepth 100000 in
set_option maxHeartbeats 4000000 in
theorem gloose_any (A B : Option Addr) (n cc cb : Nat) (c b : List Nat) (w : World) (hc : IL w A n (zs c)) (hb : IL w B n (zs b)) (hl : b.length = n) :
    Calls Try.prog 103 #[.slice A n cc, .slice B n cb] w fun e w' => e = .returned (.int .i64 (dsI (loose c b))) ∧ Below w.heap.size w w' := by
  have HC := hide hc
  have HB := hide hb
  have HL := hide hl
  have hns := hb.small
  clear hc hb hl
  have hwn : IntKind.i64.wrap ((n : Int) - 1) = (n : Int) - 1 := by rw [IntKind.wrap_i64]; omega
  go_enter Try.func103, Try.ntmps103
  go_wp2_with fail
  go_loopw [9] (fun iv wr => ∃ k : Nat, (k = 0 ∨ k + 1 ≤ n) ∧ iv = .int .i64 (k : Int) ∧ Hid (∀ j, j < k → loB c b j = false) ∧ Hid (Below w.heap.size w wr)) (fun iv _ => n - (intOf iv).toNat)
  case atStart => exact ⟨0, .inl rfl, rfl, hide (fun j h => absurd h (by omega)), hide (Below.refl _ _)⟩
  case round =>
    obtain ⟨k, hk, rfl, HN, HW⟩ := hrel
    by_cases hlt : k + 1 < n
    · have hcd : decide ((k : Int) < (n : Int) - 1) = true := decide_eq_true (by omega)
      obtain ⟨ad, rfl, hb0⟩ := (HB.out.below HW.out).at_ (k := k) (by omega)
      obtain ⟨_, e1, hb1⟩ := (HB.out.below HW.out).at_ (k := k + 1) hlt
      injection e1 with e1
      subst e1
      obtain ⟨cd, rfl, hc0⟩ := (HC.out.below HW.out).at_ (k := k) (by omega)
      obtain ⟨_, e1, hc1⟩ := (HC.out.below HW.out).at_ (k := k + 1) hlt
      injection e1 with e1
      subst e1
      rw [zs_getD] at hb0 hb1 hc0 hc1
      have HV : Hid (loB c b k = (decide (b.getD (k + 1) 0 < b.getD k 0) && decide (c.getD k 0 < c.getD (k + 1) 0))) := hide rfl
      have HYS : Hid (loB c b k = true → loose c b = some k) := hide (fun h => loose_yes (by rw [HL.out]; exact hlt) h HN.out)
      have HNO : Hid (loB c b k = false → ∀ j, j < k + 1 → loB c b j = false) := hide (fun h j h1 => by
        rcases Nat.lt_or_ge j k with h3 | h3
        · exact HN.out j h3
        · rw [show j = k by omega]; exact h)
      clear HN
      generalize b.getD k 0 = x at *
      generalize b.getD (k + 1) 0 = y at *
      generalize c.getD k 0 = u at *
      generalize c.getD (k + 1) 0 = v at *
      generalize loB c b k = t at *
      obtain ⟨i, hi⟩ : ∃ i, k + 1 = i := ⟨_, rfl⟩
      have hw1 : IntKind.i64.wrap ((k : Int) + 1) = (i : Int) := by rw [IntKind.wrap_i64]; omega
      have hw2 : (k : Int) + 1 = (i : Int) := by omega
      have hk0 : k < n := by omega
      have hi0 : i < n := by omega
      have HI := hide hi
      have HLT := hide hlt
      rw [hi] at hb1 hc1
      clear hk hi hlt
      by_cases hxy : y < x
      · have hd : decide ((y : Int) < (x : Int)) = true := decide_eq_true (by omega)
        have hdn : decide (y < x) = true := decide_eq_true hxy
        by_cases huv : u < v
        · have hd2 : decide ((u : Int) < (v : Int)) = true := decide_eq_true (by omega)
          have hdn2 : decide (u < v) = true := decide_eq_true huv
          have HF := hide (HYS.out (by rw [HV.out, hdn, hdn2]; rfl))
          clear HV HNO HYS
          go_upto_region 4 with fail
          go_quiet (fail)
          have HBE := hide (below_drewN HW.out nq)
          go_wp2_with fail
          go_ret
          exact ⟨by rw [HF.out]; rfl, HBE.out⟩
        · have hd2 : decide ((u : Int) < (v : Int)) = false := decide_eq_false (by omega)
          have hdn2 : decide (u < v) = false := decide_eq_false huv
          have HF := hide (HNO.out (by rw [HV.out, hdn, hdn2]; rfl))
          clear HV HNO HYS
          go_upto_region 4 with fail
          go_quiet (fail)
          have HBE := hide (below_drewN HW.out nq)
          go_wp2_with fail
          go_roundw
          case rel => exact ⟨k + 1, .inr (by have := HLT.out; omega), by rw [← HI.out], HF, HBE⟩
          case measure => have := HI.out; simp [intOf]; omega
      · have hd : decide ((y : Int) < (x : Int)) = false := decide_eq_false (by omega)
        have hdn : decide (y < x) = false := decide_eq_false hxy
        have HF := hide (HNO.out (by rw [HV.out, hdn]; rfl))
        clear HV HNO HYS
        go_upto_region 4 with fail
        go_quiet (fail)
        have HBE := hide (below_drewN HW.out nq)
        go_wp2_with fail
        go_roundw
        case rel => exact ⟨k + 1, .inr (by have := HLT.out; omega), by rw [← HI.out], HF, HBE⟩
        case measure => have := HI.out; simp [intOf]; omega
    · have hcd : decide ((k : Int) < (n : Int) - 1) = false := decide_eq_false (by omega)
      have HF := hide (loose_no (c := c) (b := b) (fun j hj => HN.out j (by rw [HL.out] at hj; omega)))
      clear HN hk
      go_wp2_with fail
      go_ret
      exact ⟨by rw [HF.out]; rfl, HW.out⟩

set_option maxRecDepth 100000 in
set_option maxHeartbeats 4000000 in
theorem gexch_any (base g n c : Nat) (p : List Nat) (i : Nat) (w : World) (ho : OwnI w base (some ⟨g, 0, none⟩) n c (zs p)) (hi : i + 1 < n) :
    Calls Try.prog 102 #[.slice (some ⟨g, 0, none⟩) n c, .int .i64 i] w fun e w' => e = .returned (.tuple #[]) ∧ OwnI w' base (some ⟨g, 0, none⟩) n c (zs (Gar.swapL p i)) ∧ w.grownBy w' (some g) := by
  have hns := ho.small
  have hi0 : i < n := by omega
  have hc1 : w.cell? ⟨g, i + 1, none⟩ = some (.int .i64 (p.getD (i + 1) 0 : Nat)) := by have := ho.cell hi; rw [zs_getD] at this; exact this
  have hc0 : w.cell? ⟨g, i, none⟩ = some (.int .i64 (p.getD i 0 : Nat)) := by have := ho.cell hi0; rw [zs_getD] at this; exact this
  have hf1 := ho.frozen (i + 1)
  have hf0 := ho.frozen i
  have HN := hide ((ho.set_ i ((p.getD (i + 1) 0 : Nat) : Int)).set_ (i + 1) ((p.getD i 0 : Nat) : Int))
  rw [zs_swap p i] at HN
  have HG := hide (chgA_trans (chgA_set (w := w) (g := g) (i := i) (v := .int .i64 ((p.getD (i + 1) 0 : Nat) : Int))) (chgA_set (g := g) (i := i + 1) (v := .int .i64 ((p.getD i 0 : Nat) : Int))))
  clear ho
  generalize ((p.getD (i + 1) 0 : Nat) : Int) = u at *
  generalize ((p.getD i 0 : Nat) : Int) = v at *
  have hwj : IntKind.i64.wrap (i : Int) = (i : Int) := by rw [IntKind.wrap_i64]; omega
  have hwj1 : IntKind.i64.wrap ((i : Int) + 1) = (i : Int) + 1 := by rw [IntKind.wrap_i64]; omega
  go_enter Try.func102, Try.ntmps102
  go_upto_region 0 with fail
  go_region
  go_wp2_with fail
  go_returns
  exact ⟨rfl, HN.out.drew, chgA_trans HG.out (chgA_below (Below.refl _ _).drew)⟩

set_option maxRecDepth 100000 in
set_option maxHeartbeats 4000000 in
theorem ghalf_any (n : Nat) (w : World) (hn : n ≤ 9) :
    Calls Try.prog 62 #[.int .i64 n] w (GivesOwn w (zs (Gar.fullL n))) := by
  obtain ⟨i0, hi0, hz0, hz1, hz2⟩ := info_parts int_info
  go_enter Try.func62, Try.ntmps62
  go_wp2_with (at_make; refine wpList_make_full _ rfl _ _ 22 rfl w.heap.size 3 i0 (.int .i64 0) 1 Try.underlying22 hi0 hz0 hz1 .i64 .i64 _ _ n rfl rfl rfl rfl (by rw [hz2]; omega) (by unfold maxLen; omega) (Nat.le_refl _) ?_; intro w2 hown2 hg2)
  have hB2 : Below w.heap.size w w2 := (Below.refl _ _).grown hg2 (Nat.le_refl _) (by intro k hk; cases hk)
  have hw2 := OwnI.zero (z := #[]) hown2 (by omega)
  have HO2 : Hid (OwnI w2 w.heap.size (some ⟨w.heap.size, 0, none⟩) n n (fillN (fun j => (n : Int) - 1 - (j : Int)) n 0)) := hide (by rw [fillN_zero]; exact hw2)
  have HB2 := hide hB2
  clear hown2 hg2 hw2 hB2
  go_loopw [9] (fun i wr => ∃ k : Nat, k ≤ n ∧ i = .int .i64 k ∧ Hid (OwnI wr w.heap.size (some ⟨w.heap.size, 0, none⟩) n n (fillN (fun j => (n : Int) - 1 - (j : Int)) n k)) ∧ Hid (Below w.heap.size w wr)) (fun i _ => n - (intOf i).toNat)
  case atStart => exact ⟨0, Nat.zero_le _, rfl, HO2, HB2⟩
  case round =>
    clear HO2 HB2
    obtain ⟨k, hk, rfl, HO, HB⟩ := hrel
    by_cases hlt : k < n
    · have hcell := HO.out.cell hlt
      have hfr := HO.out.frozen k
      have HN := hide (HO.out.set_ k ((n : Int) - 1 - (k : Int)))
      rw [fillN_set (fun j => (n : Int) - 1 - (j : Int)) n k] at HN
      generalize (fillN (fun j => (n : Int) - 1 - (j : Int)) n k).getD k 0 = z at *
      have hw1 : IntKind.i64.wrap ((n : Int) - 1) = (n : Int) - 1 := by rw [IntKind.wrap_i64]; omega
      have hw2 : IntKind.i64.wrap ((n : Int) - 1 - (k : Int)) = (n : Int) - 1 - (k : Int) := by rw [IntKind.wrap_i64]; omega
      go_wp2_with fail
      go_roundw
      case rel => exact ⟨k + 1, by omega, by go_num, HN, hide (HB.out.setCell (Nat.le_refl _) _)⟩
      case measure => simp [intOf]; omega
    · have hkn : k = n := by omega
      have HR : Hid (OwnI wr w.heap.size (some ⟨w.heap.size, 0, none⟩) n n (zs (Gar.fullL n))) := hide (by
        have h := HO.out
        rw [hkn, fillN_full (xs := zs (Gar.fullL n)) (by rw [zs_length, (full_isP n).2]) (fun j hj => by rw [zs_getD, Gar.fullL_getD hj]; omega)] at h
        exact h)
      clear HO hkn
      go_wp2_with fail
      go_ret
      exact ⟨_, _, _, rfl, HR.out, HB.out⟩

set_option maxRecDepth 100000 in
set_option maxHeartbeats 2000000 in
theorem gisHalf_any (A : Option Addr) (n c : Nat) (p : List Nat) (w : World) (ha : SL w A n c (zs p)) (hn : n ≤ 9) :
    Calls Try.prog 51 #[.slice A n c] w fun e w' => e = .returned (.bool (decide (p = Gar.fullL n))) ∧ Below w.heap.size w w' := by
  have HA := hide ha
  clear ha
  go_enter Try.func51, Try.ntmps51
  go_wp2_with fail
  refine (ghalf_any n w hn).mono ?_
  rintro e w1 ⟨F, fn, fc, rfl, ho, hb⟩
  have HE := hide (equal_any A F n fn c fc _ _ w1 (HA.out.below hb).il ho.il)
  have HB := hide hb
  clear ho hb HA
  go_wp2_with fail
  refine HE.out.mono ?_
  rintro e w2 ⟨rfl, hb2⟩
  have HB2 := hide (HB.out.trans (hb2.mono HB.out.size))
  have HV : Hid (eqB (zs p) (zs (Gar.fullL n)) = decide (p = Gar.fullL n)) := hide (by
    by_cases h : p = Gar.fullL n
    · rw [eqB_true (by rw [h]), decide_eq_true h]
    · rw [eqB_false (fun e => h (zs_inj e)), decide_eq_false h])
  rw [HV.out]
  clear HV hb2
  go_wp2_with fail
  go_ret
  exact ⟨rfl, HB2.out⟩

theorem firstD_id {p : List Nat} {n : Nat} (hp : isP p) (hl : p.length = n) : decide (dsI (Gar.firstD p) < 0) = decide (p = List.range n) := by
  cases h : Gar.firstD p with
  | none =>
    have h1 := Gar.sorted_id hp (fun i hi => Gar.firstD_none h hi)
    rw [decide_eq_true (show dsI none < 0 by decide), decide_eq_true]
    exact Gar.list_ext (by rw [List.length_range]; exact hl) fun s hs => by rw [h1 s hs, range_getD (by omega)]
  | some i =>
    obtain ⟨h1, h2⟩ := Gar.firstD_some h
    show decide (((i : Nat) : Int) < 0) = _
    rw [decide_eq_false (show ¬ ((i : Nat) : Int) < 0 by omega), decide_eq_false]
    intro e
    subst e
    rw [hl] at h1
    rw [range_getD h1, range_getD (by omega)] at h2
    omega
set_option maxRecDepth 100000 in
set_option maxHeartbeats 2000000 in
theorem gisId_any (A : Option Addr) (n c : Nat) (p : List Nat) (w : World) (ha : SL w A n c (zs p)) (hp : isP p) (hl : p.length = n) :
    Calls Try.prog 52 #[.slice A n c] w fun e w' => e = .returned (.bool (decide (p = List.range n))) ∧ Below w.heap.size w w' := by
  have HD := hide (gdescent_any A n c p w ha.il hl)
  have HV := hide (firstD_id hp hl)
  clear ha hp hl
  go_enter Try.func52, Try.ntmps52
  go_wp2_with fail
  refine HD.out.mono ?_
  rintro e w1 ⟨rfl, hb⟩
  generalize dsI (Gar.firstD p) = d at *
  have HB := hide hb
  clear hb
  go_wp2_with fail
  go_ret
  exact ⟨by rw [← HV.out]; rfl, HB.out⟩

set_option maxRecDepth 100000 in
theorem gmirror_any (n x : Int) (w : World) (h0 : 0 ≤ n) (h6 : n ≤ 6) (h1 : -n < x) (h2 : x < n) :
    Calls Try.prog 93 #[.int .i64 n, .int .i64 x] w fun e w' => e = .returned (.int .i64 (mir n x 1)) ∧ w = w' := by
  have hw1 : IntKind.i64.wrap (n - x) = n - x := by rw [IntKind.wrap_i64]; omega
  have hw2 : IntKind.i64.wrap (-n) = -n := by rw [IntKind.wrap_i64]; omega
  have hw3 : IntKind.i64.wrap (-n - x) = -n - x := by rw [IntKind.wrap_i64]; omega
  by_cases hx : 0 < x
  · have HV : Hid (mir n x 1 = n - x) := hide (by unfold mir; rw [if_neg (by omega), if_pos hx])
    go_enter Try.func93, Try.ntmps93
    go_wp2_with fail
    go_ret
    exact ⟨by rw [HV.out]; rfl, rfl⟩
  · have HV : Hid (mir n x 1 = -n - x) := hide (by unfold mir; rw [if_neg (by omega), if_neg hx])
    go_enter Try.func93, Try.ntmps93
    go_wp2_with fail
    go_ret
    exact ⟨by rw [HV.out]; rfl, rfl⟩
end Go.Proofs.Ytoaiblhlpdaeoaa
/- Sums, and matrices whose rows are short sums of terms. (Split off XBuP: it needs no function of the program.) -/
namespace Go.Proofs.Ytoaiblhlpdaeoaa
set_option linter.unusedVariables false
set_option linter.unusedSimpArgs false
open Go.RowKit
def sumK (f : Nat → Nat) : Nat → Nat
  | 0 => 0
  | n + 1 => sumK f n + f n
theorem sumK_le {f g : Nat → Nat} : ∀ {n : Nat}, (∀ i, i < n → f i ≤ g i) → sumK f n ≤ sumK g n
  | 0, _ => Nat.le_refl _
  | n + 1, h => Nat.add_le_add (sumK_le fun i hi => h i (by omega)) (h n (by omega))
theorem sumK_mul (c : Nat) (f : Nat → Nat) : ∀ n, sumK (fun i => c * f i) n = c * sumK f n
  | 0 => rfl
  | n + 1 => by
    show sumK (fun i => c * f i) n + c * f n = c * (sumK f n + f n)
    rw [sumK_mul c f n, Nat.mul_add]
theorem sumK_mulr (c : Nat) (f : Nat → Nat) (n : Nat) : sumK (fun i => f i * c) n = sumK f n * c := by
  rw [Nat.mul_comm, ← sumK_mul]
  congr 1
  funext i
  exact Nat.mul_comm _ _
theorem sumK_add (f g : Nat → Nat) : ∀ n, sumK (fun i => f i + g i) n = sumK f n + sumK g n
  | 0 => rfl
  | n + 1 => by
    show sumK (fun i => f i + g i) n + (f n + g n) = sumK f n + f n + (sumK g n + g n)
    rw [sumK_add f g n]; omega
theorem sumK_zero : ∀ n, sumK (fun _ => 0) n = 0
  | 0 => rfl
  | n + 1 => sumK_zero n
theorem sumK_swap (f : Nat → Nat → Nat) (m : Nat) : ∀ n, sumK (fun i => sumK (fun j => f i j) m) n = sumK (fun j => sumK (fun i => f i j) n) m
  | 0 => by
    show 0 = sumK (fun _ => 0) m
    rw [sumK_zero]
  | n + 1 => by
    show sumK (fun i => sumK (fun j => f i j) m) n + sumK (fun j => f n j) m = sumK (fun j => sumK (fun i => f i j) n + f n j) m
    rw [sumK_swap f m n, sumK_add]
theorem sumK_one {f : Nat → Nat} : ∀ {n i : Nat}, i < n → f i ≤ sumK f n
  | n + 1, i, h => by
    show f i ≤ sumK f n + f n
    by_cases e : i = n
    · subst e; omega
    · have := sumK_one (f := f) (n := n) (i := i) (by omega); omega
theorem sumK_mono_ {f : Nat → Nat} : ∀ {n m : Nat}, m ≤ n → sumK f m ≤ sumK f n
  | 0, m, h => by obtain rfl : m = 0 := by omega
                  exact Nat.le_refl _
  | n + 1, m, h => by
    by_cases e : m = n + 1
    · subst e; exact Nat.le_refl _
    · exact Nat.le_trans (sumK_mono_ (show m ≤ n by omega)) (Nat.le_add_right _ _)
theorem LP.N1.sumK {f : Nat → LP} {g : Nat → Nat} {E : Nat} : ∀ {n : Nat}, (∀ i, i < n → LP.N1 (f i) E (g i)) → LP.N1 (CR.sumN n f) E (Proofs.Ytoaiblhlpdaeoaa.sumK g n)
  | 0, _ => LP.N1.zero.mono (Nat.zero_le _) (Nat.zero_le _)
  | n + 1, h => by
    rw [CR.sumN_succ]
    exact (LP.N1.sumK fun i hi => h i (by omega)).add (h n (by omega))
/-- Each row is a short sum of terms. -/
def RN (n : Nat) (A : Mtx LP) (E V : Nat) : Prop := ∃ v : Nat → Nat → Nat, (∀ i, i < n → ∀ j, j < n → LP.N1 (A i j) E (v i j)) ∧ ∀ i, i < n → sumK (v i) n ≤ V
theorem RN.entry {n E V : Nat} {A : Mtx LP} (h : RN n A E V) {i j : Nat} (hi : i < n) (hj : j < n) : LP.N1 (A i j) E V := by
  obtain ⟨v, h1, h2⟩ := h
  exact (h1 i hi j hj).mono (Nat.le_refl _) (Nat.le_trans (sumK_one hj) (h2 i hi))
theorem RN.part {n E V E' V' : Nat} {A B : Mtx LP} (hA : RN n A E V) (hB : RN n B E' V') {i j m : Nat} (hi : i < n) (hj : j < n) (hm : m ≤ n) : LP.N1 (CR.sumN m fun k => A i k * B k j) (E + E') (V * V') := by
  obtain ⟨v, h1, h2⟩ := hA
  have h3 := LP.N1.sumK (n := m) (f := fun k => A i k * B k j) (g := fun k => v i k * V') (E := E + E') (fun k hk => (h1 i hi k (by omega)).mul (hB.entry (by omega) hj))
  refine h3.mono (Nat.le_refl _) ?_
  rw [sumK_mulr]
  refine Nat.mul_le_mul_right _ (Nat.le_trans ?_ (h2 i hi))
  exact sumK_mono_ hm
theorem RN.mul {n E V E' V' : Nat} {A B : Mtx LP} (hA : RN n A E V) (hB : RN n B E' V') : RN n (mulM n A B) (E + E') (V * V') := by
  obtain ⟨v, h1, h2⟩ := hA
  obtain ⟨u, h3, h4⟩ := hB
  refine ⟨fun i j => sumK (fun k => v i k * u k j) n, fun i hi j hj => LP.N1.sumK fun k hk => (h1 i hi k hk).mul (h3 k hk j hj), fun i hi => ?_⟩
  show sumK (fun j => sumK (fun k => v i k * u k j) n) n ≤ V * V'
  rw [sumK_swap]
  have e : sumK (fun k => sumK (fun j => v i k * u k j) n) n ≤ sumK (fun k => v i k * V') n := sumK_le fun k hk => by
    rw [sumK_mul]
    exact Nat.mul_le_mul_left _ (h4 k hk)
  refine Nat.le_trans e ?_
  rw [sumK_mulr]
  exact Nat.mul_le_mul_right _ (h2 i hi)
theorem RN.congr {n E V : Nat} {A B : Mtx LP} (h : RN n A E V) (e : EqM n A B) : RN n B E V := by
  obtain ⟨v, h1, h2⟩ := h
  exact ⟨v, fun i hi j hj => by rw [← e i hi j hj]; exact h1 i hi j hj, h2⟩
theorem RN.mono {n E V E' V' : Nat} {A : Mtx LP} (h : RN n A E V) (h1 : E ≤ E') (h2 : V ≤ V') : RN n A E' V' := by
  obtain ⟨v, h3, h4⟩ := h
  exact ⟨v, fun i hi j hj => (h3 i hi j hj).mono h1 (Nat.le_refl _), fun i hi => Nat.le_trans (h4 i hi) h2⟩
theorem oneM_rn (n : Nat) : RN n (oneM : Mtx LP) 0 1 := by
  refine ⟨fun i j => if j = i then 1 else 0, fun i _ j _ => ?_, fun i hi => ?_⟩
  · show LP.N1 (if i = j then 1 else 0) 0 (if j = i then 1 else 0)
    by_cases h : i = j
    · rw [if_pos h, if_pos h.symm]; exact LP.N1.one
    · rw [if_neg h, if_neg (fun e => h e.symm)]; exact LP.N1.zero
  · have h : ∀ m, sumK (fun j => if j = i then 1 else 0) m = if i < m then 1 else 0 := fun m => by
      induction m with
      | zero => rfl
      | succ m ih =>
        show sumK _ m + (if m = i then 1 else 0) = _
        rw [ih]
        split <;> split <;> split <;> omega
    rw [h, if_pos hi]
    exact Nat.le_refl _
theorem bl_rn (n : Nat) (x : Int) : RN n (bl x) 1 3 := by
  refine ⟨fun i j => if i + 1 = x.natAbs then (if j = i then 2 else if j = i + 1 then 1 else 0) else if i = x.natAbs then (if j + 1 = i then 1 else if j = i then 2 else 0) else if j = i then 1 else 0, fun i _ j _ => ?_, fun i hi => ?_⟩
  · have h1 : LP.N1 (1 + -tT) 1 2 := (LP.N1.one.mono (Nat.zero_le _) (Nat.le_refl _)).add (LP.N1.term 1 1).neg
    have h2 : LP.N1 (1 + -tI) 1 2 := (LP.N1.one.mono (Nat.zero_le _) (Nat.le_refl _)).add (LP.N1.term (-1) 1).neg
    have h3 : LP.N1 (1 : LP) 1 1 := LP.N1.one.mono (Nat.zero_le _) (Nat.le_refl _)
    have h4 : LP.N1 (0 : LP) 1 0 := LP.N1.zero.mono (Nat.zero_le _) (Nat.le_refl _)
    have h5 : LP.N1 tT 1 1 := LP.N1.term 1 1
    have h6 : LP.N1 tI 1 1 := LP.N1.term (-1) 1
    unfold bl
    by_cases a1 : i + 1 = x.natAbs
    · simp only [if_pos a1]
      by_cases a2 : 0 < x
      · simp only [if_pos a2]
        by_cases a3 : j = i
        · simp only [if_pos a3]; exact h1
        · simp only [if_neg a3]
          by_cases a4 : j = i + 1
          · simp only [if_pos a4]; exact h5
          · simp only [if_neg a4]; exact h4
      · simp only [if_neg a2]
        by_cases a4 : j = i + 1
        · simp only [if_pos a4, if_neg (show ¬ j = i by omega)]; exact h3
        · simp only [if_neg a4]; exact h4.mono (Nat.le_refl _) (Nat.zero_le _)
    · simp only [if_neg a1]
      by_cases b1 : i = x.natAbs
      · simp only [if_pos b1]
        by_cases a2 : 0 < x
        · simp only [if_pos a2]
          by_cases a3 : j + 1 = i
          · simp only [if_pos a3]; exact h3
          · simp only [if_neg a3]; exact h4.mono (Nat.le_refl _) (Nat.zero_le _)
        · simp only [if_neg a2]
          by_cases a3 : j + 1 = i
          · simp only [if_pos a3]; exact h6
          · simp only [if_neg a3]
            by_cases a4 : j = i
            · simp only [if_pos a4]; exact h2
            · simp only [if_neg a4]; exact h4
      · simp only [if_neg b1]
        by_cases a4 : i = j
        · simp only [if_pos a4, if_pos a4.symm]; exact h3
        · simp only [if_neg a4, if_neg (show ¬ j = i from fun e => a4 e.symm)]; exact h4
  · have hone : ∀ (a v : Nat) m, sumK (fun j => if j = a then v else 0) m = if a < m then v else 0 := fun a v m => by
      induction m with
      | zero => rfl
      | succ m ih =>
        show sumK _ m + (if m = a then v else 0) = _
        rw [ih]
        split <;> split <;> split <;> omega
    show sumK (fun j => if i + 1 = x.natAbs then (if j = i then 2 else if j = i + 1 then 1 else 0) else if i = x.natAbs then (if j + 1 = i then 1 else if j = i then 2 else 0) else if j = i then 1 else 0) n ≤ 3
    have hle : sumK (fun j => if i + 1 = x.natAbs then (if j = i then 2 else if j = i + 1 then 1 else 0) else if i = x.natAbs then (if j + 1 = i then 1 else if j = i then 2 else 0) else if j = i then 1 else 0) n ≤ sumK (fun j => (if j = i then 2 else 0) + ((if i + 1 = x.natAbs then (if j = i + 1 then 1 else 0) else (if j = i - 1 then 1 else 0)))) n := sumK_le fun j _ => by
      by_cases a1 : i + 1 = x.natAbs
      · simp only [if_pos a1]; split <;> split <;> omega
      · simp only [if_neg a1]
        by_cases b1 : i = x.natAbs
        · simp only [if_pos b1]; split <;> (try split) <;> split <;> omega
        · simp only [if_neg b1]; split <;> split <;> omega
    refine Nat.le_trans hle ?_
    rw [sumK_add, hone]
    by_cases a1 : i + 1 = x.natAbs
    · simp only [if_pos a1]; rw [hone]; split <;> split <;> omega
    · simp only [if_neg a1]; rw [hone]; split <;> split <;> omega
theorem bu_rn {n : Nat} : ∀ w : List Int, RN n (bu n w) w.length (3 ^ w.length)
  | [] => oneM_rn n
  | x :: w => by
    have h := (bl_rn n x).mul (bu_rn w)
    exact h.mono (by rw [List.length_cons]; omega) (by rw [List.length_cons, Nat.pow_succ, Nat.mul_comm]; exact Nat.le_refl _)
end Go.Proofs.Ytoaiblhlpdaeoaa
