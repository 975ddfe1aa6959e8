/- Several texts in one. -/
import Derived.Test.YtgbipfohcailnaaPart15
import Derived.Test.YtgbipfohcailnaaPart5
import Derived.BigRegion
import Derived.Deep.DeepCutAuto
import Derived.Test.YtgbipfohcailnaaBase1
import Derived.Test.YtgbipfohcailnaaPart8
import Derived.Test.YtgbipfohcailnaaPart2
/- Package braid: applyLetter. -/
namespace Go.Proofs.Ytgbipfohcailnaa
set_option linter.unusedVariables false
set_option linter.unusedSimpArgs false
open Go.RowKit

theorem chg_below {g : Nat} {w w' : World} (hb : Below w.heap.size w w') : w.grownBy w' (some g) := ⟨hb.os, hb.tape, hb.output, hb.size, fun b h _ => hb.block b h⟩
theorem chg_trans {g : Nat} {w w1 w2 : World} (h1 : w.grownBy w1 (some g)) (h2 : w1.grownBy w2 (some g)) : w.grownBy w2 (some g) :=
  ⟨h2.os.trans h1.os, h2.tape.trans h1.tape, h2.output.trans h1.output, Nat.le_trans h1.size h2.size, fun b h hne => (h2.block b (Nat.lt_of_lt_of_le h h1.size) hne).trans (h1.block b h hne)⟩
theorem chg_set {g i : Nat} {w : World} {v : Value} : w.grownBy (w.setCell ⟨g, i, none⟩ v) (some g) := by
  have h := (Below.refl g w).setCell (p := ⟨g, i, none⟩) (Nat.le_refl _) v
  exact ⟨h.os, h.tape, h.output, h.size, fun b _ hne => Below.heap_setCell w ⟨g, i, none⟩ v b (fun e => hne (by rw [e]))⟩
/-- A row of polynomials. -/
structure RowB (w : World) (g n : Nat) (K : Nat → Prop) (X : Nat → LP) : Prop where
  blk : ∃ cs, Blk w g 24 cs
  at_ : ∀ j, j < n → ∃ B m d, w.cell? ⟨g, j * 2, none⟩ = some (.int .i64 (LP.canon (X j)).1) ∧ w.cell? ⟨g, j * 2 + 1, none⟩ = some (.slice B m d) ∧ SLK K w B m d (LP.canon (X j)).2
theorem RowB.lt {w : World} {g n : Nat} {K : Nat → Prop} {X : Nat → LP} (h : RowB w g n K X) : g < w.heap.size := by
  obtain ⟨cs, hc⟩ := h.blk
  exact hc.lt
theorem RowB.keep {w w' : World} {g n : Nat} {K : Nat → Prop} {X : Nat → LP} (h : RowB w g n K X) (hs : SameK (fun b => b = g ∨ K b) w w') (hz : w.heap.size ≤ w'.heap.size) : RowB w' g n K X := by
  refine ⟨?_, fun j hj => ?_⟩
  · obtain ⟨cs, hc⟩ := h.blk
    exact ⟨cs, (hs g (.inl rfl)).trans hc⟩
  · obtain ⟨B, m, d, h1, h2, h3⟩ := h.at_ j hj
    exact ⟨B, m, d, (hs.cell (a := ⟨g, j * 2, none⟩) (.inl rfl)).trans h1, (hs.cell (a := ⟨g, j * 2 + 1, none⟩) (.inl rfl)).trans h2, h3.keep (hs.mono fun b hb => .inr hb) hz⟩
theorem RowB.mono {w : World} {g n : Nat} {K K' : Nat → Prop} {X : Nat → LP} (h : RowB w g n K X) (hk : ∀ b, b < w.heap.size → K b → K' b) : RowB w g n K' X := by
  refine ⟨h.blk, fun j hj => ?_⟩
  obtain ⟨B, m, d, h1, h2, h3⟩ := h.at_ j hj
  exact ⟨B, m, d, h1, h2, h3.mono hk⟩
theorem SLK.setCell {w : World} {K : Nat → Prop} {B : Option Addr} {m d g i : Nat} {xs : List Int} {v : Value} (h : SLK K w B m d xs) (hg : ¬ K g) : SLK K (w.setCell ⟨g, i, none⟩ v) B m d xs :=
  ⟨h.sl.setCell (fun hn ad e hb => hg (by rw [← hb]; exact h.inK hn ad e)) i v, h.inK⟩
theorem RowB.congr {w : World} {g n : Nat} {K : Nat → Prop} {X Y : Nat → LP} (h : RowB w g n K X) (he : ∀ j, j < n → X j = Y j) : RowB w g n K Y := by
  refine ⟨h.blk, fun j hj => ?_⟩
  rw [← he j hj]
  exact h.at_ j hj
theorem RowB.below {w w' : World} {g n : Nat} {K : Nat → Prop} {X : Nat → LP} (h : RowB w g n K X) (hb : Below w.heap.size w w') : RowB w' g n K X := by
  refine ⟨?_, fun j hj => ?_⟩
  · obtain ⟨cs, hc⟩ := h.blk
    exact ⟨cs, hc.below hb hc.lt⟩
  · obtain ⟨B, m, d, h1, h2, h3⟩ := h.at_ j hj
    exact ⟨B, m, d, (hb.cell (p := ⟨g, j * 2, none⟩) h.lt).trans h1, (hb.cell (p := ⟨g, j * 2 + 1, none⟩) h.lt).trans h2, ⟨h3.sl.below hb, h3.inK⟩⟩
theorem RowB.frozen {w : World} {g n : Nat} {K : Nat → Prop} {X : Nat → LP} (h : RowB w g n K X) (i : Nat) : w.frozen? ⟨g, i, none⟩ = false := by
  obtain ⟨cs, hc⟩ := h.blk
  exact hc.frozen i
theorem RowB.set_ {w : World} {g n k : Nat} {K : Nat → Prop} {X : Nat → LP} {x : LP} {B : Option Addr} {m d : Nat} (h : RowB w g n K X) (hg : ¬ K g) (hk : k < n) (hs : SLK K w B m d (LP.canon x).2) :
    RowB ((w.setCell ⟨g, k * 2, none⟩ (.int .i64 (LP.canon x).1)).setCell ⟨g, k * 2 + 1, none⟩ (.slice B m d)) g n K (fun j => if j = k then x else X j) := by
  obtain ⟨cs, hc⟩ := h.blk
  have hc0 := hc.set_ (k * 2) (.int .i64 (LP.canon x).1)
  have hc1 := hc0.set_ (k * 2 + 1) (.slice B m d)
  obtain ⟨_, _, _, hk0, hk1, _⟩ := h.at_ k hk
  rw [hc.cell] at hk0 hk1
  obtain ⟨z0, _⟩ := Array.getElem?_eq_some_iff.1 hk0
  obtain ⟨z1, _⟩ := Array.getElem?_eq_some_iff.1 hk1
  refine ⟨⟨_, hc1⟩, fun j hj => ?_⟩
  show ∃ B_1 m_1 d_1, _
  by_cases e : j = k
  · subst e
    rw [if_pos rfl]
    refine ⟨B, m, d, ?_, ?_, (hs.setCell hg).setCell hg⟩
    · rw [hc1.cell, Array.getElem?_setIfInBounds, if_neg (by omega), Array.getElem?_setIfInBounds, if_pos rfl, if_pos (by simpa using z0)]
    · rw [hc1.cell, Array.getElem?_setIfInBounds, if_pos rfl, if_pos (by simpa using z1)]
  · rw [if_neg e]
    obtain ⟨B', m', d', h1, h2, h3⟩ := h.at_ j hj
    rw [hc.cell] at h1 h2
    refine ⟨B', m', d', ?_, ?_, (h3.setCell hg).setCell hg⟩
    · rw [hc1.cell, Array.getElem?_setIfInBounds, if_neg (by omega), Array.getElem?_setIfInBounds, if_neg (by omega)]; exact h1
    · rw [hc1.cell, Array.getElem?_setIfInBounds, if_neg (by omega), Array.getElem?_setIfInBounds, if_neg (by omega)]; exact h2
/-- A row times the matrix of a letter. -/
def stepR (x : Int) (X : Nat → LP) : Nat → LP := fun c => if c + 1 = x.natAbs then X c * e00 x + X (c + 1) * e10 x else if c = x.natAbs then X (c - 1) * e01 x + X c * e11 x else X c
theorem e_n1 (x : Int) : LP.N1 (e00 x) 1 2 ∧ LP.N1 (e01 x) 1 2 ∧ LP.N1 (e10 x) 1 2 ∧ LP.N1 (e11 x) 1 2 := by
  have h1 : LP.N1 (1 : LP) 1 2 := LP.N1.one.mono (by omega) (by omega)
  have h0 : LP.N1 (0 : LP) 1 2 := LP.N1.zero.mono (by omega) (by omega)
  have ht : LP.N1 tT 1 1 := LP.N1.term 1 1
  have hi : LP.N1 tI 1 1 := LP.N1.term (-1) 1
  have ht2 := ht.mono (Nat.le_refl _) (show 1 ≤ 2 by omega)
  have hi2 := hi.mono (Nat.le_refl _) (show 1 ≤ 2 by omega)
  have h1t : LP.N1 (1 + -tT) 1 2 := (LP.N1.one.mono (Nat.zero_le _) (Nat.le_refl _)).add ht.neg
  have h1i : LP.N1 (1 + -tI) 1 2 := (LP.N1.one.mono (Nat.zero_le _) (Nat.le_refl _)).add hi.neg
  unfold e00 e01 e10 e11
  refine ⟨?_, ?_, ?_, ?_⟩ <;> split <;> assumption
set_option maxRecDepth 100000 in
set_option maxHeartbeats 8000000 in
theorem apply_any (F : PolyC) (g n : Nat) (K : Nat → Prop) (X : Nat → LP) (x : Int) (E V : Nat) (w : World) (h : RowB w g n K X) (hK : ∀ b, w.heap.size ≤ b → K b) (hg : ¬ K g) (hx : x ≠ 0) (hxn : x.natAbs < n) (hn : n ≤ 6) (hE : E ≤ 16) (hV : V ≤ 20000000) (hN : ∀ j, j < n → LP.N1 (X j) E V) :
    Calls Try.prog 53 #[.slice (some ⟨g, 0, none⟩) n n, .int .i64 x] w fun e w' => e = .returned (.tuple #[]) ∧ RowB w' g n K (stepR x X) ∧ w.grownBy w' (some g) := by
  obtain ⟨m0, m1, m2, m3⟩ := e_n1 x
  have HG := hide (gen_any x w (by omega) (by omega))
  obtain ⟨i, hi⟩ : ∃ i, x.natAbs = i := ⟨_, rfl⟩
  have hi1 : 1 ≤ i := by omega
  obtain ⟨j, rfl⟩ : ∃ j, i = j + 1 := ⟨i - 1, by omega⟩
  rw [hi] at HG hxn
  have HX := hide hi
  have hNj := hN j (by omega)
  have hNi := hN (j + 1) hxn
  have rt : ∀ {a b : LP}, LP.N1 a E V → LP.N1 b 1 2 → LP.N1 (a * b) 17 40000000 := fun ha hb => (ha.mul hb).mono (by omega) (by omega)
  have HS0 := hide (fun (w' : World) (A : Option Addr) (n c : Nat) (B : Option Addr) (m d : Nat) (C : Option Addr) (l e : Nat) (D : Option Addr) (k f : Nat) (h1 : SL w' A n c (LP.canon (X j)).2) (h2 : SL w' B m d (LP.canon (e00 x)).2) (h3 : SL w' C l e (LP.canon (X (j + 1))).2) (h4 : SL w' D k f (LP.canon (e10 x)).2) =>
    sumP_any F (X j) (e00 x) (X (j + 1)) (e10 x) A n c B m d C l e D k f w' h1 h2 h3 h4 (hNj.rt (by omega) (by omega)) (m0.rt (by omega) (by omega)) (hNi.rt (by omega) (by omega)) (m2.rt (by omega) (by omega)) ((rt hNj m0).rt (by omega) (by omega)) ((rt hNi m2).rt (by omega) (by omega)) (((rt hNj m0).add (rt hNi m2)).rt (by omega) (by omega)))
  have HS1 := hide (fun (w' : World) (A : Option Addr) (n c : Nat) (B : Option Addr) (m d : Nat) (C : Option Addr) (l e : Nat) (D : Option Addr) (k f : Nat) (h1 : SL w' A n c (LP.canon (X j)).2) (h2 : SL w' B m d (LP.canon (e01 x)).2) (h3 : SL w' C l e (LP.canon (X (j + 1))).2) (h4 : SL w' D k f (LP.canon (e11 x)).2) =>
    sumP_any F (X j) (e01 x) (X (j + 1)) (e11 x) A n c B m d C l e D k f w' h1 h2 h3 h4 (hNj.rt (by omega) (by omega)) (m1.rt (by omega) (by omega)) (hNi.rt (by omega) (by omega)) (m3.rt (by omega) (by omega)) ((rt hNj m1).rt (by omega) (by omega)) ((rt hNi m3).rt (by omega) (by omega)) (((rt hNj m1).add (rt hNi m3)).rt (by omega) (by omega)))
  clear rt m0 m1 m2 m3 hNj hNi hN
  have HR : Hid (∀ c, c < n → (if c = j + 1 then X j * e01 x + X (j + 1) * e11 x else if c = j then X j * e00 x + X (j + 1) * e10 x else X c) = stepR x X c) := hide (fun c hc => by
    unfold stepR
    rw [HX.out]
    by_cases h1 : c = j + 1
    · subst h1
      rw [if_pos rfl, if_neg (by omega), if_pos rfl, Nat.add_sub_cancel]
    · rw [if_neg h1]
      by_cases h2 : c = j
      · subst h2
        rw [if_pos rfl, if_pos rfl]
      · rw [if_neg h2, if_neg (by omega), if_neg h1])
  have HB := hide (fun w' => block_any x w')
  have H := hide h
  have hgl := h.lt
  obtain ⟨A, an, ac, a0, a1, hA⟩ := h.at_ j (by omega)
  obtain ⟨C, cn, cc, b0, b1, hC⟩ := h.at_ (j + 1) hxn
  have HA := hide hA
  have HC := hide hC
  have HK := hide hK
  have HKG := hide hg
  obtain ⟨la, hla⟩ : ∃ l, (LP.canon (X j)).1 = l := ⟨_, rfl⟩
  obtain ⟨lc, hlc⟩ : ∃ l, (LP.canon (X (j + 1))).1 = l := ⟨_, rfl⟩
  rw [hla] at a0 HS0 HS1
  rw [hlc] at b0 HS0 HS1
  clear h hA hC hK hg hi hla hlc hx hE hV
  go_enter Try.func53, Try.ntmps53
  go_wp2_with fail
  refine HG.out.mono ?_
  rintro e w1 ⟨rfl, hww⟩
  subst hww
  go_upto_region 1 with fail
  go_cut [5, 6, 10, 11, 12, 13, 14, 15, 16, 17, 18] (fun v5 v6 _ _ _ _ _ _ _ _ _ wx => ∃ b5 b6, v5 = .pointer (some ⟨b5, 0, none⟩) ∧ v6 = .pointer (some ⟨b6, 0, none⟩) ∧ Blk wx b5 24 #[.int .i64 la, .slice A an ac] ∧ Blk wx b6 24 #[.int .i64 lc, .slice C cn cc] ∧ w.heap.size ≤ b5 ∧ w.heap.size ≤ b6 ∧ Below w.heap.size w wx)
  case first =>
    have hwj : IntKind.i64.wrap (j : Int) = (j : Int) := by rw [IntKind.wrap_i64]; omega
    have hwj1 : IntKind.i64.wrap ((j : Int) + 1) = (j : Int) + 1 := by rw [IntKind.wrap_i64]; omega
    have z1 : Blk ((w.alloc (.cells #[.int .i64 la, .slice A an ac] 24)).alloc (.cells #[.int .i64 lc, .slice C cn cc] 24)).drew w.heap.size 24 #[.int .i64 la, .slice A an ac] := (Blk.new w 24 #[.int .i64 la, .slice A an ac]).alloc (.cells #[.int .i64 lc, .slice C cn cc] 24)
    have z2 : Blk ((w.alloc (.cells #[.int .i64 lc, .slice C cn cc] 24)).alloc (.cells #[.int .i64 la, .slice A an ac] 24)).drew w.heap.size 24 #[.int .i64 lc, .slice C cn cc] := (Blk.new w 24 #[.int .i64 lc, .slice C cn cc]).alloc (.cells #[.int .i64 la, .slice A an ac] 24)
    have z3 : Blk ((w.alloc (.cells #[.int .i64 la, .slice A an ac] 24)).alloc (.cells #[.int .i64 lc, .slice C cn cc] 24)).drew (w.heap.size + 1) 24 #[.int .i64 lc, .slice C cn cc] := by have h := Blk.new (w.alloc (.cells #[.int .i64 la, .slice A an ac] 24)) 24 #[.int .i64 lc, .slice C cn cc]; rw [World.size_alloc] at h; exact h
    have z4 : Blk ((w.alloc (.cells #[.int .i64 lc, .slice C cn cc] 24)).alloc (.cells #[.int .i64 la, .slice A an ac] 24)).drew (w.heap.size + 1) 24 #[.int .i64 la, .slice A an ac] := by have h := Blk.new (w.alloc (.cells #[.int .i64 lc, .slice C cn cc] 24)) 24 #[.int .i64 la, .slice A an ac]; rw [World.size_alloc] at h; exact h
    have z5 : ∀ o1 o2, Below w.heap.size w ((w.alloc o1).alloc o2).drew := fun o1 o2 => (((Below.refl w.heap.size w).alloc (Nat.le_refl _) o1).alloc (by simp) o2).drew
    have Z1 := hide z1
    have Z2 := hide z2
    have Z3 := hide z3
    have Z4 := hide z4
    have Z5 := hide z5
    clear z1 z2 z3 z4 z5
    go_region
    all_goals go_wp2_with fail
    all_goals first
      | (go_meet; exact ⟨_, _, rfl, rfl, Z1.out, Z3.out, Nat.le_refl _, Nat.le_succ _, Z5.out _ _⟩)
      | (go_meet; exact ⟨_, _, rfl, rfl, Z4.out, Z2.out, Nat.le_succ _, Nat.le_refl _, Z5.out _ _⟩)
  case rest =>
    obtain ⟨b5, b6, rfl, rfl, k5, k6, l5, l6, hb⟩ := hcut
    have K5 := hide k5
    have K6 := hide k6
    have z5 := k5.lt
    have z6 := k6.lt
    replace H := hide (H.out.below hb)
    have HAI : Hid (0 < an → ∀ ad, A = some ad → ad.block ≠ g) := hide (fun hn ad e hb => HKG.out (by rw [← hb]; exact HA.out.inK hn ad e))
    have HCI : Hid (0 < cn → ∀ ad, C = some ad → ad.block ≠ g) := hide (fun hn ad e hb => HKG.out (by rw [← hb]; exact HC.out.inK hn ad e))
    replace HA := hide (HA.out.sl.below hb)
    replace HC := hide (HC.out.sl.below hb)
    have HW := hide hb
    have hsz := hb.size
    clear k5 k6 hb a0 a1 b0 b1
    go_wp2_with fail
    refine (HB.out wc).mono ?_
    rintro e w2 ⟨A0, n0, c0, A1, n1, c1, A2, n2, c2, A3, n3, c3, rfl, s0, s1, s2, s3, i1, i3, hb2⟩
    generalize HL0 : (LP.canon (e00 x)).1 = l0 at *
    generalize HL1 : (LP.canon (e01 x)).1 = l1 at *
    generalize HL2 : (LP.canon (e10 x)).1 = l2 at *
    generalize HL3 : (LP.canon (e11 x)).1 = l3 at *
    clear HL0 HL1 HL2 HL3
    have hb3 : Below w2.heap.size w2 (w2.alloc (.cells #[.int .i64 l0, .slice A0 n0 c0, .int .i64 l1, .slice A1 n1 c1, .int .i64 l2, .slice A2 n2 c2, .int .i64 l3, .slice A3 n3 c3] 86)) := (Below.refl _ _).alloc (Nat.le_refl _) _
    have hb23 := hb2.trans (hb3.mono hb2.size)
    have K7 := hide (Blk.new w2 86 #[.int .i64 l0, .slice A0 n0 c0, .int .i64 l1, .slice A1 n1 c1, .int .i64 l2, .slice A2 n2 c2, .int .i64 l3, .slice A3 n3 c3])
    have S0 := hide (s0.below hb3)
    have S1 := hide (s1.below hb3)
    have S2 := hide (s2.below hb3)
    have S3 := hide (s3.below hb3)
    replace K5 := hide (K5.out.below hb23 z5)
    replace K6 := hide (K6.out.below hb23 z6)
    replace H := hide (H.out.below hb23)
    replace HA := hide (HA.out.below hb23)
    replace HC := hide (HC.out.below hb23)
    replace HW := hide (HW.out.trans (hb23.mono HW.out.size))
    have hsz2 := hb2.size
    have S1I : Hid (0 < n1 → ∀ ad, A1 = some ad → ad.block ≠ g) := hide (fun hn ad e => by have := i1 hn ad e; omega)
    have S3I : Hid (0 < n3 → ∀ ad, A3 = some ad → ad.block ≠ g) := hide (fun hn ad e => by have := i3 hn ad e; omega)
    clear s0 s1 s2 s3 hb2 hb3 hb23 HB i1 i3
    go_upto_region 3 with fail
    obtain ⟨b7, hb7⟩ : ∃ b, w2.heap.size = b := ⟨_, rfl⟩
    obtain ⟨W3, hW3⟩ : ∃ W, w2.alloc (.cells #[.int .i64 l0, .slice A0 n0 c0, .int .i64 l1, .slice A1 n1 c1, .int .i64 l2, .slice A2 n2 c2, .int .i64 l3, .slice A3 n3 c3] 86) = W := ⟨_, rfl⟩
    have z7 : b7 < W3.heap.size := by rw [← hW3, ← hb7]; simp
    rw [hb7] at K7 hsz2 ⊢
    rw [hW3] at K7 K5 K6 H HA HC HW S0 S1 S2 S3 ⊢
    have l7 : w.heap.size ≤ b7 := by omega
    have y5 : b5 < W3.heap.size := by omega
    have y6 : b6 < W3.heap.size := by omega
    clear hb7 hW3 hsz hsz2 z5 z6
    have c50 := K5.out.cell 0
    have c51 := K5.out.cell 1
    have c60 := K6.out.cell 0
    have c61 := K6.out.cell 1
    have c70 := K7.out.cell 0
    have c71 := K7.out.cell 1
    have c74 := K7.out.cell 4
    have c75 := K7.out.cell 5
    simp at c50 c51 c60 c61 c70 c71 c74 c75
    go_wp2_with fail
    refine (HS0.out W3 _ _ _ _ _ _ _ _ _ _ _ _ HA.out S0.out HC.out S2.out).mono ?_
    rintro e w4 ⟨P, pn, pc, rfl, hP, hPn, hb4⟩
    clear c50 c51 c60 c61 c70 c71 c74 c75 HS0
    have HP : Hid (SLK K w4 P pn pc (LP.canon (X j * e00 x + X (j + 1) * e10 x)).2) := hide ⟨hP, fun hn ad e => HK.out _ (by have := hPn hn ad e; have := HW.out.size; omega)⟩
    replace K5 := hide (K5.out.below hb4 y5)
    replace K6 := hide (K6.out.below hb4 y6)
    replace K7 := hide (K7.out.below hb4 z7)
    replace H := hide (H.out.below hb4)
    replace HA := hide (HA.out.below hb4)
    replace HC := hide (HC.out.below hb4)
    replace S1 := hide (S1.out.below hb4)
    replace S3 := hide (S3.out.below hb4)
    replace HW := hide (HW.out.trans (hb4.mono HW.out.size))
    obtain ⟨_, _, _, q0, q1, _⟩ := H.out.at_ j (by omega)
    have f0 := H.out.frozen (j * 2)
    have f1 := H.out.frozen (j * 2 + 1)
    have H5 := hide (H.out.set_ (k := j) HKG.out (by omega) HP.out)
    have HW5 := hide (chg_trans (chg_trans (chg_below (g := g) HW.out) (chg_set (g := g) (i := j * 2) (v := .int .i64 (LP.canon (X j * e00 x + X (j + 1) * e10 x)).1))) (chg_set (g := g) (i := j * 2 + 1) (v := .slice P pn pc)))
    have d5 : b5 ≠ g := by omega
    have d6 : b6 ≠ g := by omega
    have d7 : b7 ≠ g := by omega
    replace K5 := hide ((K5.out.far (p := ⟨g, j * 2, none⟩) d5 (.int .i64 (LP.canon (X j * e00 x + X (j + 1) * e10 x)).1)).far (p := ⟨g, j * 2 + 1, none⟩) d5 (.slice P pn pc))
    replace K6 := hide ((K6.out.far (p := ⟨g, j * 2, none⟩) d6 (.int .i64 (LP.canon (X j * e00 x + X (j + 1) * e10 x)).1)).far (p := ⟨g, j * 2 + 1, none⟩) d6 (.slice P pn pc))
    replace K7 := hide ((K7.out.far (p := ⟨g, j * 2, none⟩) d7 (.int .i64 (LP.canon (X j * e00 x + X (j + 1) * e10 x)).1)).far (p := ⟨g, j * 2 + 1, none⟩) d7 (.slice P pn pc))
    replace HA := hide ((HA.out.setCell HAI.out (j * 2) (.int .i64 (LP.canon (X j * e00 x + X (j + 1) * e10 x)).1)).setCell HAI.out (j * 2 + 1) (.slice P pn pc))
    replace HC := hide ((HC.out.setCell HCI.out (j * 2) (.int .i64 (LP.canon (X j * e00 x + X (j + 1) * e10 x)).1)).setCell HCI.out (j * 2 + 1) (.slice P pn pc))
    replace S1 := hide ((S1.out.setCell S1I.out (j * 2) (.int .i64 (LP.canon (X j * e00 x + X (j + 1) * e10 x)).1)).setCell S1I.out (j * 2 + 1) (.slice P pn pc))
    replace S3 := hide ((S3.out.setCell S3I.out (j * 2) (.int .i64 (LP.canon (X j * e00 x + X (j + 1) * e10 x)).1)).setCell S3I.out (j * 2 + 1) (.slice P pn pc))
    generalize (LP.canon (X j * e00 x + X (j + 1) * e10 x)).1 = lp at *
    clear hP hPn HP H hb4 HAI HCI S1I S3I HW
    go_upto_region 4 with fail
    obtain ⟨W5, hW5⟩ : ∃ W, (w4.setCell ⟨g, j * 2, none⟩ (.int .i64 lp)).setCell ⟨g, j * 2 + 1, none⟩ (.slice P pn pc) = W := ⟨_, rfl⟩
    rw [hW5] at K5 K6 K7 HA HC S1 S3 H5 HW5 ⊢
    clear hW5 f0 f1 q0 q1
    have c50 := K5.out.cell 0
    have c51 := K5.out.cell 1
    have c60 := K6.out.cell 0
    have c61 := K6.out.cell 1
    have c72 := K7.out.cell 2
    have c73 := K7.out.cell 3
    have c76 := K7.out.cell 6
    have c77 := K7.out.cell 7
    simp at c50 c51 c60 c61 c72 c73 c76 c77
    go_wp2_with fail
    refine (HS1.out W5 _ _ _ _ _ _ _ _ _ _ _ _ HA.out S1.out HC.out S3.out).mono ?_
    rintro e w6 ⟨Q, qn, qc, rfl, hQ, hQn, hb6⟩
    clear c50 c51 c60 c61 c72 c73 c76 c77 HS1
    have HQ : Hid (SLK K w6 Q qn qc (LP.canon (X j * e01 x + X (j + 1) * e11 x)).2) := hide ⟨hQ, fun hn ad e => HK.out _ (by have := hQn hn ad e; have := HW5.out.size; omega)⟩
    replace H5 := hide (H5.out.below hb6)
    obtain ⟨_, _, _, q0, q1, _⟩ := H5.out.at_ (j + 1) hxn
    have f0 := H5.out.frozen ((j + 1) * 2)
    have f1 := H5.out.frozen ((j + 1) * 2 + 1)
    have H7 := hide ((H5.out.set_ (k := j + 1) HKG.out hxn HQ.out).congr HR.out)
    have HW7 := hide (chg_trans (chg_trans (chg_trans HW5.out (chg_below (g := g) hb6)) (chg_set (g := g) (i := (j + 1) * 2) (v := .int .i64 (LP.canon (X j * e01 x + X (j + 1) * e11 x)).1))) (chg_set (g := g) (i := (j + 1) * 2 + 1) (v := .slice Q qn qc)))
    generalize (LP.canon (X j * e01 x + X (j + 1) * e11 x)).1 = lq at *
    clear hQ hQn HQ H5 hb6 HW5 HA HC S1 S3 K5 K6 K7
    go_wp2_with fail
    go_returns
    exact ⟨rfl, H7.out, HW7.out⟩
end Go.Proofs.Ytgbipfohcailnaa
/- slices.Clone of a slice of rows of polynomials. -/
namespace Go.Proofs.Ytgbipfohcailnaa
set_option linter.unusedVariables false
set_option linter.unusedSimpArgs false
open Go.RowKit

theorem prows_info : (Try.prog.info? 60).map (fun i => (i.zero, i.size, i.bytes)) = some (some (.slice none 0 0), 1, 24) := by kernel_rfl
theorem polys_info : (Try.prog.info? 24).map (fun i => (i.zero, i.size, i.bytes)) = some (some (.agg #[.int .i64 0, .slice none 0 0]), 2, 32) := by kernel_rfl
/-- The values are slices that read as the rows. -/
structure RowsP (w : World) (vs : List Value) (xss : List (List Po)) : Prop where
  len : vs.length = xss.length
  row : ∀ j, j < xss.length → ∃ B m d, vs[j]? = some (.slice B m d) ∧ SPo w B m d (xss.getD j [])
theorem RowsP.below {w w' : World} {vs : List Value} {xss : List (List Po)} (h : RowsP w vs xss) (hb : Below w.heap.size w w') : RowsP w' vs xss := ⟨h.len, fun j hj => by
  obtain ⟨B, m, d, h1, h2⟩ := h.row j hj
  exact ⟨B, m, d, h1, h2.below hb⟩⟩
theorem RowsP.set_ {w : World} {vs : List Value} {xss : List (List Po)} {j : Nat} {B : Option Addr} {m d : Nat} {r : List Po} (h : RowsP w vs xss) (hs : SPo w B m d r) : RowsP w (vs.set j (.slice B m d)) (xss.set j r) := by
  refine ⟨by simp [h.len], fun i hi => ?_⟩
  rw [List.length_set] at hi
  by_cases e : j = i
  · subst e
    refine ⟨B, m, d, by rw [List.getElem?_set_self (by rw [h.len]; exact hi)], ?_⟩
    have : (xss.set j r).getD j [] = r := by simp [List.getD, List.getElem?_set_self hi]
    rw [this]
    exact hs
  · obtain ⟨B', m', d', h1, h2⟩ := h.row i hi
    refine ⟨B', m', d', by rw [List.getElem?_set_ne e]; exact h1, ?_⟩
    have : (xss.set j r).getD i [] = xss.getD i [] := by simp [List.getD, List.getElem?_set_ne e]
    rw [this]
    exact h2
theorem OwnG.spp {e : TypeId} {w : World} {base n c : Nat} {A : Option Addr} {vs : List Value} {xss : List (List Po)} (h : OwnG e 1 w base A n c vs) (hr : RowsP w vs xss) : SPP w A n c xss := by
  have hl := h.len
  rw [Nat.mul_one] at hl
  refine ⟨by rw [← hr.len]; exact hl, by have := h.small; omega, h.nilcap.1, h.nilcap.2, fun hn => ?_⟩
  obtain ⟨g, rfl, _, hlt⟩ := h.form hn
  refine ⟨⟨g, 0, none⟩, rfl, hlt, fun j hj => ?_⟩
  obtain ⟨B, m, d, h1, h2⟩ := hr.row j (by rw [← hr.len]; omega)
  exact ⟨B, m, d, by rw [show (⟨g, 0, none⟩ : Addr).add j = ⟨g, j, none⟩ by unfold Addr.add; split <;> simp_all, h.cellAt (by omega), h1], h2⟩

end Go.Proofs.Ytgbipfohcailnaa
/- A matrix of polynomials whose rows the call builds one after another by append. -/
namespace Go.Proofs.Ytgbipfohcailnaa
set_option linter.unusedVariables false
set_option linter.unusedSimpArgs false
open Go.RowKit

noncomputable def rowA (n : Nat) (X : Mtx LP) (i : Nat) : List Po := (List.range n).map fun j => cP (X i j)
noncomputable def tabA (n : Nat) (X : Mtx LP) : List (List Po) := (List.range n).map fun i => rowA n X i
theorem rowA_length (n : Nat) (X : Mtx LP) (i : Nat) : (rowA n X i).length = n := by simp [rowA]
theorem rowA_getD {n : Nat} {X : Mtx LP} {i j : Nat} (hj : j < n) : (rowA n X i).getD j (0, []) = cP (X i j) := by simp [rowA, List.getD, hj]
theorem rowA_succ (k : Nat) (X : Mtx LP) (i : Nat) : rowA (k + 1) X i = rowA k X i ++ [cP (X i k)] := by simp [rowA, List.range_succ]
theorem tabA_length (n : Nat) (X : Mtx LP) : (tabA n X).length = n := by simp [tabA]
theorem tabA_getD {n : Nat} {X : Mtx LP} {i : Nat} (hi : i < n) : (tabA n X).getD i [] = rowA n X i := by simp [tabA, List.getD, hi]
/-- i rows of n elements are done, the next one, in R, has k elements. -/
structure GroM (w : World) (base G n i : Nat) (R : Option Addr) (k c : Nat) (vs : List Value) (X : Mtx LP) : Prop where
  blk : ∃ cs, Blk w G 60 cs
  hb : base ≤ G
  dis : Dis w.heap.size [some G, ob R]
  done : ∀ j, j < i → ∃ B d, w.cell? ⟨G, j, none⟩ = some (.slice B n d) ∧ RdS QP 2 (fun b => Fr [some G, ob R] b ∧ b < w.heap.size) w B n d (rowA n X j)
  cell : i < n → w.cell? ⟨G, i, none⟩ = some (.slice R k c)
  rest : ∀ j, i < j → j < n → w.cell? ⟨G, j, none⟩ = some (.slice none 0 0)
  cur : BldO (Fr [some G, ob R]) QP 24 2 base w R k c vs (rowA k X i)
section
variable {w w' : World} {base G n i k c : Nat} {R : Option Addr} {vs : List Value} {X : Mtx LP}
theorem GroM.lt (h : GroM w base G n i R k c vs X) : G < w.heap.size := by obtain ⟨cs, hc⟩ := h.blk; exact hc.lt
theorem GroM.start (h : w.ownsRow base 60 1 (.slice (some ⟨G, 0, none⟩) n n) n (madeCells #[.slice none 0 0] (n * 1)).toList) (hn : n ≤ 1000) (X : Mtx LP) : GroM w base G n 0 none 0 0 [] X := by
  have ho : OwnG 60 1 w base (some ⟨G, 0, none⟩) n n (madeCells #[.slice none 0 0] (n * 1)).toList := ⟨h, by omega⟩
  obtain ⟨cs, hb, hcs⟩ := ho.cells G rfl
  have hc : ∀ j, j < n → w.cell? ⟨G, j, none⟩ = some (.slice none 0 0) := fun j hj => by
    rw [ho.cellAt (by omega), Array.getElem?_toList]
    unfold madeCells
    simp [hj, show j % 1 = 0 by omega]
  have hlt : G < w.heap.size := Blk.lt (w := w) (t := 60) (cs := cs) hcs
  refine ⟨⟨cs, hcs⟩, hb, ⟨fun o ho k e => ?_, ?_⟩, fun j hj => absurd hj (by omega), fun h0 => hc 0 h0, fun j _ hj => hc j hj, BldO.start _ _ _ _ _ _⟩
  · simp [ob] at ho
    rcases ho with rfl | rfl
    · injection e with e; omega
    · cases e
  · simp [ob]
theorem GroM.below (h : GroM w base G n i R k c vs X) (hb : Below w.heap.size w w') : GroM w' base G n i R k c vs X := by
  have hG : ∀ j, w'.cell? ⟨G, j, none⟩ = w.cell? ⟨G, j, none⟩ := fun j => hb.cell (p := ⟨G, j, none⟩) h.lt
  refine ⟨?_, h.hb, h.dis.up hb.size, fun j hj => ?_, fun hi => (hG i).trans (h.cell hi), fun j h1 h2 => (hG j).trans (h.rest j h1 h2), h.cur.to QP_ok hb⟩
  · obtain ⟨cs, hc⟩ := h.blk
    exact ⟨cs, hc.below hb hc.lt⟩
  · obtain ⟨B, d, h1, h2⟩ := h.done j hj
    exact ⟨B, d, (hG j).trans h1, (h2.keep QP_ok ((SameK.below hb).mono fun b hb2 => hb2.2) hb.size).mono QP_ok fun b _ h3 => ⟨h3.1, Nat.lt_of_lt_of_le h3.2 hb.size⟩⟩
/-- One element more. -/
theorem GroM.put (h : GroM w base G n i R k c vs X) {y : LP} (hy : X i k = y) (hi : i < n) {P : Option Addr} {pn pc : Nat} (hp : SLK (fun b => Fr [some G, ob R] b ∧ b < w.heap.size) w P pn pc (LP.canon y).2) (hw : (Lit.int .i64 (LP.canon y).1).wf = true)
    {R' : Option Addr} {c' : Nat} {w9 : World} (happ : AppG 24 2 w base R (k + 1) c (vs ++ [.int .i64 (LP.canon y).1, .slice P pn pc]) R' c' w9) :
    GroM (w9.setCell ⟨G, i, none⟩ (.slice R' (k + 1) c')) base G n i R' (k + 1) c' (vs ++ [.int .i64 (LP.canon y).1, .slice P pn pc]) X := by
  subst hy
  have s1 : Step [some G, ob R] [some G, ob R'] w w9 (ob R) := Step.app (O := [some G, ob R]) (i := 1) h.dis rfl happ
  have hgr : w9.grownBy (w9.setCell ⟨G, i, none⟩ (.slice R' (k + 1) c')) (some G) := chg_set
  have s2 : Step [some G, ob R'] [some G, ob R'] w9 (w9.setCell ⟨G, i, none⟩ (.slice R' (k + 1) c')) (some G) := Step.put s1.dis (by simp) hgr
  have hne : ob R ≠ some G := h.dis.ne (O := [some G, ob R]) (i := 1) (j := 0) rfl rfl (by omega) G rfl
  have hne2 : ∀ k, ob R' = some k → some G ≠ some k := s1.dis.ne (O := [some G, ob R']) (i := 0) (j := 1) rfl rfl (by omega)
  obtain ⟨cs, hcs⟩ := h.blk
  have b9 : Blk w9 G 60 cs := s1.blk hcs hne
  have hG : ∀ j, w9.cell? ⟨G, j, none⟩ = w.cell? ⟨G, j, none⟩ := fun j => by rw [b9.cell, hcs.cell]
  have hother : ∀ j, j ≠ i → (w9.setCell ⟨G, i, none⟩ (.slice R' (k + 1) c')).cell? ⟨G, j, none⟩ = w.cell? ⟨G, j, none⟩ := fun j hj => by
    rw [World.cell?_setCell_other w9 _ _ _ (by intro h2; simp only [Addr.mk.injEq] at h2; omega)]
    exact hG j
  refine ⟨⟨_, b9.set_ i _⟩, h.hb, s2.dis, fun j hj => ?_, fun _ => ?_, fun j h1 h2 => ?_, ?_⟩
  · obtain ⟨B, d, h1, h2⟩ := h.done j hj
    exact ⟨B, d, (hother j (by omega)).trans h1, (h2.step QP_ok s1).step QP_ok s2⟩
  · exact World.cell?_setCell_same w9 _ _ ((hG i).trans (h.cell hi))
  · rw [hother j (by omega)]
    exact h.rest j h1 h2
  · rw [rowA_succ]
    have h3 : BldO (Fr [some G, ob R']) QP 24 2 base w9 R' (k + 1) c' (vs ++ [.int .i64 (LP.canon (X i k)).1, .slice P pn pc]) (rowA k X i ++ [cP (X i k)]) := h.cur.addS QP_ok s1 rfl rfl ⟨P, pn, pc, rfl, hp, hw⟩ happ
    exact h3.step QP_ok s2 hne2
/-- The row is done. -/
theorem GroM.next (h : GroM w base G n i R n c vs X) (hi : i < n) : GroM w base G n (i + 1) none 0 0 [] X := by
  have hd := h.dis
  refine ⟨h.blk, h.hb, Dis.drop (O := [some G, ob R]) (i := 1) hd, fun j hj => ?_, fun h1 => h.rest (i + 1) (by omega) h1, fun j h1 h2 => h.rest j (by omega) h2, BldO.start _ _ _ _ _ _⟩
  by_cases e : j = i
  · subst e
    refine ⟨R, c, h.cell hi, h.cur.rdK QP_ok (by omega) (fun b hb hf => ⟨Fr.drop (O := [some G, ob R]) (i := 1) hf, hb⟩) fun g hg => ⟨Fr.dropped (O := [some G, ob R]) (i := 1) hd rfl (by rw [← ob_own R n c]; exact hg), (h.cur.own.lt g hg).2⟩⟩
  · obtain ⟨B, d, h1, h2⟩ := h.done j (by omega)
    exact ⟨B, d, h1, h2.mono QP_ok fun b _ hf => ⟨Fr.drop (O := [some G, ob R]) (i := 1) hf.1, hf.2⟩⟩
theorem GroM.spp (h : GroM w base G n n R k c vs X) (hn : n ≤ 1000) : SPP w (some ⟨G, 0, none⟩) n n (tabA n X) := by
  refine ⟨tabA_length _ _, by omega, fun e => (by cases e), Nat.le_refl _, fun h0 => ⟨_, rfl, h.lt, fun j hj => ?_⟩⟩
  obtain ⟨B, d, h1, h2⟩ := h.done j hj
  have e2 : (⟨G, 0, none⟩ : Addr).add j = ⟨G, j, none⟩ := by unfold Addr.add; split <;> simp_all
  rw [tabA_getD hj, e2]
  exact ⟨B, n, d, h1, Rd.spo (h2.mono QP_ok fun b _ hf => hf.2)⟩
theorem GroM.own (h : GroM w base G n i R k c vs X) : OwnG 24 2 w base R k c vs := h.cur.own
/-- What a call gives as new memory is no part of the matrix. -/
theorem GroM.far (h : GroM w base G n i R k c vs X) {P : Option Addr} {pn pc : Nat} {xs : List Int} (hs : SL w' P pn pc xs) (hn : NewA w P pn) : SLK (fun b => Fr [some G, ob R] b ∧ b < w'.heap.size) w' P pn pc xs :=
  ⟨hs, fun h0 ad e => ⟨Fr.above h.dis (hn h0 ad e), hs.inside h0 ad e⟩⟩
theorem GroM.ne (h : GroM w base G n i R k c vs X) : ob R ≠ some G := h.dis.ne (O := [some G, ob R]) (i := 1) (j := 0) rfl rfl (by omega) G rfl
/-- Blocks below the base are none of its blocks. -/
theorem GroM.old (h : GroM w base G n i R k c vs X) {b : Nat} (hb : b < base) : ob R ≠ some b := fun e => by
  have := (h.own.lt b (by rw [ob_own]; exact e)).1
  omega
end
theorem gives_idxG {P : Program} {o : Oper} {a : Act} {w : World} {t e : TypeId} {x y : Operand} {g k n c : Nat} {q : IntKind} (ho : o.op = .indexAddr t x y) (ht : P.underlying t = some (.slice e)) (he : ∀ w, (sizeOf e).run P w = .ok 1 w) (hx : a.eval x = .slice (some ⟨g, 0, none⟩) n c) (hy : a.eval y = .int q k) (hk : k < n) :
    Gives P o a w (.pointer (some ⟨g, k, none⟩)) := by
  have h := gives_indexA (w := w) ho ht he hx hy hk
  rwa [Addr.add_mid, Nat.zero_add] at h
theorem wp_append_G {P : Program} {w : World} {o : Oper} {a : Act} {K : Act → World → Prop} {Q : Exit → Act → World → Prop} (s x : Operand) (t : TypeId)
    (ho : o.op = .call { callee := .builtin .append, args := #[s, x], argTypes := #[t, t] })
    (base : Nat) (e : TypeId) (i : TypeInfo) (z : Value) (sz by_ : Nat) (ht : P.underlying t = some (.slice e)) (hi : P.info? e = some i) (hz : i.zero = some z) (hsize : i.size = sz) (hby : i.bytes = by_) (hzs : z.cells.size = sz) (hs0 : 0 < sz) (hbs : by_ ≤ 10000)
    (A : Option Addr) (n c : Nat) (vs : List Value) (hs : a.eval s = .slice A n c) (hown : OwnG e sz w base A n c vs) (ad : Addr) (m d : Nat) (us : List Value) (hm : us.length = m * sz) (hx : a.eval x = .slice (some ad) m d) (hu : ∀ j u, us[j]? = some u → w.cell? (ad.add j) = some u) (h1 : ∀ u, u ∈ us → u.oneCell' = true)
    (hsm : n + m ≤ 1000000) (hbase : base ≤ w.heap.size)
    (h : ∀ A' c' w', AppG e sz w base A (n + m) c (vs ++ us) A' c' w' → K (a.put o.dst (.slice A' (n + m) c')) w') : o.wp P a w K Q := by
  have hb2 : (n + m) * by_ ≤ 140737488355328 := by
    have := Nat.mul_le_mul hsm hbs
    omega
  obtain ⟨v', w', hrun, h2, h3, _, h5⟩ := run_append_own_at (P := P) w base t o.type e i z sz by_ ht hi hz hsize hby hzs hs0 (.slice A n c) n _ hown.own ad m d us
    hm hu h1 (by simp only [maxLen]; omega) hb2 hbase
  have hv : ∃ A' c', v' = .slice A' (n + m) c' := by
    rcases h2.2 with ⟨rfl, h0⟩ | ⟨g, cap, cur, rfl, _⟩
    · exact ⟨none, 0, by rw [h0]⟩
    · exact ⟨_, _, rfl⟩
  obtain ⟨A', c', rfl⟩ := hv
  unfold Oper.wp execOp
  simp only [ho, resolve, invoke, builtin, Sem.run_bind, Sem.run_pure, Result.andThen_ok, List.map_toArray, List.map_cons, List.map_nil, hs, hx, hrun]
  exact h A' c' w' ⟨⟨h2, hsm⟩, by rw [ownBlock_len A (n + m) n c c]; exact h3, by rw [ownBlock_len A (n + m) n c c]; exact h5⟩
theorem cells_pair {w : World} {g : Nat} {t : TypeId} {u v : Value} (h : Blk w g t #[u, v]) : ∀ j x, [u, v][j]? = some x → w.cell? ((⟨g, 0, none⟩ : Addr).add j) = some x := by
  intro j x hx
  have e : (⟨g, 0, none⟩ : Addr).add j = ⟨g, j, none⟩ := by unfold Addr.add; split <;> simp_all
  rw [e, h.cell j]
  simpa using hx
end Go.Proofs.Ytgbipfohcailnaa
