/- What package laurent's functions are to answer. -/
import Derived.Test.YtgmjighgncpefaaBase
import Derived.Test.YtgmjighgncpefaaSl
import Derived.Test.YtgmjighgncpefaaEqual
import Derived.Handy
namespace Go.Proofs.Ytgmjighgncpefaa
set_option linter.unusedVariables false
set_option linter.unusedSimpArgs false
open Go.RowKit

/-- A polynomial as a value. -/
abbrev PV (lo : Int) (A : Option Addr) (n c : Nat) : Value := .agg #[.int .i64 lo, .slice A n c]
/-- The slice lies in memory that w has not. -/
def NewA (w : World) (A : Option Addr) (n : Nat) : Prop := 0 < n → ∀ ad, A = some ad → w.heap.size ≤ ad.block
theorem SL.setCell {w : World} {A : Option Addr} {n c : Nat} {xs : List Int} (h : SL w A n c xs) {b : Nat} (hb : 0 < n → ∀ ad, A = some ad → ad.block ≠ b) (i : Nat) (v : Value) : SL (w.setCell ⟨b, i, none⟩ v) A n c xs :=
  ⟨⟨h.il.len, h.il.small, fun hn => by
    obtain ⟨ad, e, hl, hc⟩ := h.il.mem hn
    refine ⟨ad, e, by simpa using hl, fun j hj => ?_⟩
    rw [← hc j hj]
    exact World.cell?_setCell_other (w := w) (a := ⟨b, i, none⟩) (b := ad.add j) v (by intro e2; exact hb hn ad e (by have := congrArg Addr.block e2; rw [block_of_add] at this; exact this.symm))⟩, h.nil, h.cap⟩
/-- A polynomial and an error. -/
def GivesPE (w : World) (r : LP.PR) (e : Ending) (w' : World) : Prop :=
  ∃ A n c, e = .returned (.tuple #[PV r.2.1 A n c, .int .i64 r.1]) ∧ SL w' A n c r.2.2 ∧ NewA w A n ∧ Below w.heap.size w w'
/-- A polynomial. -/
def GivesP (w : World) (lo : Int) (cs : List Int) (e : Ending) (w' : World) : Prop :=
  ∃ A n c, e = .returned (PV lo A n c) ∧ SL w' A n c cs ∧ NewA w A n ∧ Below w.heap.size w w'

/-- Package laurent, as the document asks. -/
structure PolyC : Prop where
  check : ∀ (la : Int) (A : Option Addr) (n c : Nat) (xs : List Int) (w : World), SL w A n c xs → (Lit.int .i64 la).wf = true → Calls Try.prog 22 #[PV la A n c] w fun e w' => e = .returned (.int .i64 (LP.pfl la xs)) ∧ Below w.heap.size w w'
  add : ∀ (la : Int) (A : Option Addr) (n c : Nat) (xs : List Int) (lb : Int) (B : Option Addr) (m d : Nat) (ys : List Int) (w : World), SL w A n c xs → SL w B m d ys → (Lit.int .i64 la).wf = true → (Lit.int .i64 lb).wf = true → Calls Try.prog 32 #[PV la A n c, PV lb B m d] w (GivesPE w (LP.addR la xs lb ys))
  mul : ∀ (la : Int) (A : Option Addr) (n c : Nat) (xs : List Int) (lb : Int) (B : Option Addr) (m d : Nat) (ys : List Int) (w : World), SL w A n c xs → SL w B m d ys → (Lit.int .i64 la).wf = true → (Lit.int .i64 lb).wf = true → Calls Try.prog 31 #[PV la A n c, PV lb B m d] w (GivesPE w (LP.mulR la xs lb ys))

/-- The result of a function whose result is a polynomial in a block. -/
theorem results_poly {fn : Func} {t : Tmp} {b : Nat} {v0 v1 : Value} {w : World} (h : fn.results = #[.cell t 25]) (tmps : Array Value) (ht : tmps.getD t undef = .pointer (some ⟨b, 0, none⟩)) (hb : Blk w b 25 #[v0, v1]) :
    (results fn tmps).run Try.prog w = .ok (.agg #[v0, v1]) w := by
  have h0 := hb.cell 0
  have h1 := hb.cell 1
  simp at h0 h1
  have ht2 : tmps[t]?.getD undef = .pointer (some ⟨b, 0, none⟩) := by simpa using ht
  simp [results, h, ht2, go_sem, h0, h1, Result.andThen]

set_option maxRecDepth 100000 in
set_option maxHeartbeats 2000000 in
theorem same_k (la : Int) (A : Option Addr) (n c : Nat) (xs : List Int) (lb : Int) (B : Option Addr) (m d : Nat) (ys : List Int) (w : World) (ha : SL w A n c xs) (hb : SL w B m d ys) :
    Calls Try.prog 18 #[PV la A n c, PV lb B m d] w fun e w' => e = .returned (.bool (decide (la = lb) && eqB xs ys)) ∧ Below w.heap.size w w' := by
  have h1 : Below w.heap.size w ((w.alloc (.cells #[.int .i64 la, .slice A n c] 25)).alloc (.cells #[.int .i64 lb, .slice B m d] 25)) := ((Below.refl _ _).alloc (Nat.le_refl _) _).alloc (by simp) _
  have HB0 := hide h1
  have HE := hide (equal_any A B n m c d xs ys _ (ha.il.below h1) (hb.il.below h1))
  clear ha hb h1
  by_cases h : la = lb
  · subst h
    rw [show (decide (la = la) && eqB xs ys) = eqB xs ys by simp]
    obtain ⟨q, hq⟩ : ∃ q, eqB xs ys = q := ⟨_, rfl⟩
    rw [hq] at HE ⊢
    clear hq
    go_enter Try.func18, Try.ntmps18
    go_wp2_with fail
    refine HE.out.mono ?_
    rintro e w1 ⟨rfl, hb⟩
    have HB1 := hide (HB0.out.trans (hb.mono HB0.out.size))
    clear hb
    go_wp2_with fail
    go_ret
    exact ⟨rfl, HB1.out⟩
  · have hd : (la == lb) = false := by simpa using h
    rw [show (decide (la = lb) && eqB xs ys) = false by simp [h]]
    go_enter Try.func18, Try.ntmps18
    go_wp2_with fail
    go_ret
    exact ⟨rfl, HB0.out⟩

set_option maxRecDepth 100000 in
set_option maxHeartbeats 2000000 in
theorem same_r (la : Int) (A : Option Addr) (n c : Nat) (xs : List Int) (lb : Int) (B : Option Addr) (m d : Nat) (ys : List Int) (w : World) (ha : SL w A n c xs) (hb : SL w B m d ys) :
    Calls Try.prog 8 #[PV la A n c, PV lb B m d] w fun e w' => e = .returned (.bool (decide (la = lb) && eqB xs ys)) ∧ Below w.heap.size w w' := by
  have h1 : Below w.heap.size w ((w.alloc (.cells #[.int .i64 la, .slice A n c] 25)).alloc (.cells #[.int .i64 lb, .slice B m d] 25)) := ((Below.refl _ _).alloc (Nat.le_refl _) _).alloc (by simp) _
  have HB0 := hide h1
  have HE := hide (equal_any A B n m c d xs ys _ (ha.il.below h1) (hb.il.below h1))
  clear ha hb h1
  by_cases h : la = lb
  · subst h
    rw [show (decide (la = la) && eqB xs ys) = eqB xs ys by simp]
    obtain ⟨q, hq⟩ : ∃ q, eqB xs ys = q := ⟨_, rfl⟩
    rw [hq] at HE ⊢
    clear hq
    go_enter Try.func8, Try.ntmps8
    go_wp2_with fail
    refine HE.out.mono ?_
    rintro e w1 ⟨rfl, hb⟩
    have HB1 := hide (HB0.out.trans (hb.mono HB0.out.size))
    clear hb
    go_wp2_with fail
    go_ret
    exact ⟨rfl, HB1.out⟩
  · have hd : (la == lb) = false := by simpa using h
    rw [show (decide (la = lb) && eqB xs ys) = false by simp [h]]
    go_enter Try.func8, Try.ntmps8
    go_wp2_with fail
    go_ret
    exact ⟨rfl, HB0.out⟩

set_option maxRecDepth 100000 in
set_option maxHeartbeats 2000000 in
theorem mul_k (F : PolyC) (la : Int) (A : Option Addr) (n c : Nat) (xs : List Int) (lb : Int) (B : Option Addr) (m d : Nat) (ys : List Int) (w : World) (ha : SL w A n c xs) (hb : SL w B m d ys) (wa : (Lit.int .i64 la).wf = true) (wb : (Lit.int .i64 lb).wf = true) :
    Calls Try.prog 15 #[PV la A n c, PV lb B m d] w (GivesP w (LP.mulR la xs lb ys).2.1 (LP.mulR la xs lb ys).2.2) := by
  have h1 : Below w.heap.size w (((w.alloc (.cells #[.int .i64 la, .slice A n c] 25)).alloc (.cells #[.int .i64 lb, .slice B m d] 25)).alloc (.cells #[.int .i64 0, .slice none 0 0] 25)) := (((Below.refl _ _).alloc (Nat.le_refl _) _).alloc (by simp) _).alloc (by simp; omega) _
  have HB0 := hide h1
  have HE := hide (F.mul la A n c xs lb B m d ys _ (ha.below h1) (hb.below h1) wa wb)
  clear ha hb wa wb F h1
  generalize LP.mulR la xs lb ys = r at *
  obtain ⟨er, lr, cr⟩ := r
  go_enter Try.func15, Try.ntmps15
  go_wp2_with fail
  refine HE.out.mono ?_
  rintro e w1 ⟨R, rn, rc, rfl, hs, hnw, hb⟩
  have hbk : Blk w1 (w.heap.size + 1 + 1) 25 #[.int .i64 0, .slice none 0 0] := by
    have h := Blk.new ((w.alloc (.cells #[.int .i64 la, .slice A n c] 25)).alloc (.cells #[.int .i64 lb, .slice B m d] 25)) 25 #[.int .i64 0, .slice none 0 0]
    have h := h.below hb (by simp)
    simpa using h
  have hc0 := hbk.cell 0
  have hc1 := hbk.cell 1
  have hf0 := hbk.frozen 0
  have hf1 := hbk.frozen 1
  simp at hc0 hc1
  have HB1 := hide (HB0.out.trans (hb.mono HB0.out.size))
  have hsz : w.heap.size + 1 + 1 < w1.heap.size := by have := hb.size; simp at this; omega
  have hne : 0 < rn → ∀ ad, R = some ad → w.heap.size + 1 + 1 + 1 ≤ ad.block := fun h ad e => by
    have := hnw h ad e
    simp at this
    omega
  have HNE := hide hne
  have HS := hide hs
  have HBK := hide hbk
  clear hb hs HB0 HE hbk hnw hne
  go_wp2_with fail
  refine bodyPost_ret (results_poly rfl _ rfl (((HBK.out.set_ 0 (.int .i64 lr)).set_ 1 (.slice R rn rc)).alloc _)) rfl ?_
  refine ⟨R, rn, rc, rfl, ?_, fun h ad e => by have := HNE.out h ad e; omega, ?_⟩
  · exact ((HS.out.setCell (fun h ad e => by have := HNE.out h ad e; omega) 0 _).setCell (fun h ad e => by have := HNE.out h ad e; omega) 1 _).below ((Below.refl _ _).alloc (Nat.le_refl _) _)
  · exact ((HB1.out.setCell (p := ⟨w.heap.size + 1 + 1, 0, none⟩) (by show w.heap.size ≤ w.heap.size + 1 + 1; omega) _).setCell (p := ⟨w.heap.size + 1 + 1, 1, none⟩) (by show w.heap.size ≤ w.heap.size + 1 + 1; omega) _).alloc (by simpa using HB1.out.size) _

set_option maxRecDepth 100000 in
set_option maxHeartbeats 2000000 in
theorem add_k (F : PolyC) (la : Int) (A : Option Addr) (n c : Nat) (xs : List Int) (lb : Int) (B : Option Addr) (m d : Nat) (ys : List Int) (w : World) (ha : SL w A n c xs) (hb : SL w B m d ys) (wa : (Lit.int .i64 la).wf = true) (wb : (Lit.int .i64 lb).wf = true) :
    Calls Try.prog 19 #[PV la A n c, PV lb B m d] w (GivesP w (LP.addR la xs lb ys).2.1 (LP.addR la xs lb ys).2.2) := by
  have h1 : Below w.heap.size w (((w.alloc (.cells #[.int .i64 la, .slice A n c] 25)).alloc (.cells #[.int .i64 lb, .slice B m d] 25)).alloc (.cells #[.int .i64 0, .slice none 0 0] 25)) := (((Below.refl _ _).alloc (Nat.le_refl _) _).alloc (by simp) _).alloc (by simp; omega) _
  have HB0 := hide h1
  have HE := hide (F.add la A n c xs lb B m d ys _ (ha.below h1) (hb.below h1) wa wb)
  clear ha hb wa wb F h1
  generalize LP.addR la xs lb ys = r at *
  obtain ⟨er, lr, cr⟩ := r
  go_enter Try.func19, Try.ntmps19
  go_wp2_with fail
  refine HE.out.mono ?_
  rintro e w1 ⟨R, rn, rc, rfl, hs, hnw, hb⟩
  have hbk : Blk w1 (w.heap.size + 1 + 1) 25 #[.int .i64 0, .slice none 0 0] := by
    have h := Blk.new ((w.alloc (.cells #[.int .i64 la, .slice A n c] 25)).alloc (.cells #[.int .i64 lb, .slice B m d] 25)) 25 #[.int .i64 0, .slice none 0 0]
    have h := h.below hb (by simp)
    simpa using h
  have hc0 := hbk.cell 0
  have hc1 := hbk.cell 1
  have hf0 := hbk.frozen 0
  have hf1 := hbk.frozen 1
  simp at hc0 hc1
  have HB1 := hide (HB0.out.trans (hb.mono HB0.out.size))
  have hsz : w.heap.size + 1 + 1 < w1.heap.size := by have := hb.size; simp at this; omega
  have hne : 0 < rn → ∀ ad, R = some ad → w.heap.size + 1 + 1 + 1 ≤ ad.block := fun h ad e => by
    have := hnw h ad e
    simp at this
    omega
  have HNE := hide hne
  have HS := hide hs
  have HBK := hide hbk
  clear hb hs HB0 HE hbk hnw hne
  go_wp2_with fail
  refine bodyPost_ret (results_poly rfl _ rfl (((HBK.out.set_ 0 (.int .i64 lr)).set_ 1 (.slice R rn rc)).alloc _)) rfl ?_
  refine ⟨R, rn, rc, rfl, ?_, fun h ad e => by have := HNE.out h ad e; omega, ?_⟩
  · exact ((HS.out.setCell (fun h ad e => by have := HNE.out h ad e; omega) 0 _).setCell (fun h ad e => by have := HNE.out h ad e; omega) 1 _).below ((Below.refl _ _).alloc (Nat.le_refl _) _)
  · exact ((HB1.out.setCell (p := ⟨w.heap.size + 1 + 1, 0, none⟩) (by show w.heap.size ≤ w.heap.size + 1 + 1; omega) _).setCell (p := ⟨w.heap.size + 1 + 1, 1, none⟩) (by show w.heap.size ≤ w.heap.size + 1 + 1; omega) _).alloc (by simpa using HB1.out.size) _

end Go.Proofs.Ytgmjighgncpefaa
