/- Several texts of the walk in one. -/
import Derived.Test.YtldfnfhommbokaaPart21
import Derived.Test.YtldfnfhommbokaaPart8
import Derived.Test.YtldfnfhommbokaaPart11
import Derived.Test.YtldfnfhommbokaaPart19
/- timbkeep1.BraidBurauSums, for packages braid and laurent that answer as they should. (Written by tools/gen_brsum.py.) -/
namespace Go.Proofs.Ytldfnfhommbokaa
set_option linter.unusedVariables false
set_option linter.unusedSimpArgs false
open Go.RowKit

/-- A polynomial in a box; neither box is what its coefficients lie in. -/
structure BX (z : World) (b9 b10 b : Nat) (P : Option Addr) (pn pc : Nat) (x : LP) : Prop where
  blk : Blk z b 45 #[.int .i64 (LP.canon x).1, .slice P pn pc]
  sl : SL z P pn pc (LP.canon x).2
  far : 0 < pn → ∀ ad, P = some ad → ad.block ≠ b9 ∧ ad.block ≠ b10
section
variable {z z' : World} {b9 b10 b : Nat} {P : Option Addr} {pn pc : Nat} {x : LP}
theorem BX.below (h : BX z b9 b10 b P pn pc x) (hb : Below z.heap.size z z') : BX z' b9 b10 b P pn pc x := ⟨h.blk.below hb h.blk.lt, h.sl.below hb, h.far⟩
theorem BX.other (h : BX z b9 b10 b P pn pc x) {o : Nat} (ho : o = b9 ∨ o = b10) (hne : b ≠ o) (cs : Array Value) : BX (z.setRow o cs) b9 b10 b P pn pc x :=
  ⟨(setRow_other z o b cs hne).trans h.blk, h.sl.setRow_ (fun hn ad e => by have := h.far hn ad e; rcases ho with rfl | rfl; exact this.1; exact this.2) cs, h.far⟩
theorem BX.set {cs0 : Array Value} (hk : Blk z b 45 cs0) (hb : b = b9 ∨ b = b10) (hs : SL z P pn pc (LP.canon x).2) (hf : 0 < pn → ∀ ad, P = some ad → ad.block ≠ b9 ∧ ad.block ≠ b10) : BX (z.setRow b #[.int .i64 (LP.canon x).1, .slice P pn pc]) b9 b10 b P pn pc x :=
  ⟨setRow_heap _ _ _ _ _ _ hk, hs.setRow_ (fun hn ad e => by have := hf hn ad e; rcases hb with rfl | rfl; exact this.1; exact this.2) _, hf⟩
theorem BX.other2 (h : BX z b9 b10 b P pn pc x) {o : Nat} (ho : o = b9 ∨ o = b10) (hne : b ≠ o) (v0 v1 : Value) : BX ((z.setCell ⟨o, 0, none⟩ v0).setCell ⟨o, 1, none⟩ v1) b9 b10 b P pn pc x :=
  have f : 0 < pn → ∀ ad, P = some ad → ad.block ≠ o := fun hn ad e => by have := h.far hn ad e; rcases ho with rfl | rfl; exact this.1; exact this.2
  ⟨(h.blk.far (p := ⟨o, 0, none⟩) hne v0).far (p := ⟨o, 1, none⟩) hne v1, (h.sl.setCell f 0 v0).setCell f 1 v1, h.far⟩
theorem BX.set2 {u0 u1 : Value} (hk : Blk z b 45 #[u0, u1]) (hb : b = b9 ∨ b = b10) (hs : SL z P pn pc (LP.canon x).2) (hf : 0 < pn → ∀ ad, P = some ad → ad.block ≠ b9 ∧ ad.block ≠ b10) : BX ((z.setCell ⟨b, 0, none⟩ (.int .i64 (LP.canon x).1)).setCell ⟨b, 1, none⟩ (.slice P pn pc)) b9 b10 b P pn pc x :=
  have f : 0 < pn → ∀ ad, P = some ad → ad.block ≠ b := fun hn ad e => by have := hf hn ad e; rcases hb with rfl | rfl; exact this.1; exact this.2
  ⟨(hk.set_ 0 _).set_ 1 _, (hs.setCell f 0 _).setCell f 1 _, hf⟩
end
theorem addr_none {w : World} {a : Addr} {v : Value} (h : w.cell? a = some v) : ∃ g o, a = ⟨g, o, none⟩ := by
  obtain ⟨g, o, p⟩ := a
  cases p with
  | none => exact ⟨g, o, rfl⟩
  | some p =>
    exfalso
    unfold World.cell? at h
    split at h
    · simp at h
    · cases h
theorem range2 {z : World} {g o : Nat} {u v : Value} (h0 : z.cell? ⟨g, o, none⟩ = some u) (h1 : z.cell? ⟨g, o + 1, none⟩ = some v) : z.rangeAt g o [u, v] := fun j x hx => by
  match j, hx with
  | 0, hx => injection hx with hx; rw [← hx]; exact h0
  | 1, hx => injection hx with hx; rw [← hx]; exact h1
theorem eMulB : ∀ args w, (callFunc 32 args).run Try.prog w = .ok (.enter 32 args) w := enters (fn := Try.f32) (by kernel_rfl) (by kernel_rfl) (by kernel_rfl)
theorem eAddB : ∀ args w, (callFunc 31 args).run Try.prog w = .ok (.enter 31 args) w := enters (fn := Try.f31) (by kernel_rfl) (by kernel_rfl) (by kernel_rfl)
/-- The sums so far. -/
def rowS (M : Mtx LP) (i k : Nat) : LP := CR.sumN k fun j => M i j
def colS (M : Mtx LP) (i k : Nat) : LP := CR.sumN k fun j => tK j * M j i
structure SumF (N : Nat) (M : Mtx LP) : Prop where
  ent : ∀ i, i < N → ∀ j, j < N → LP.Rt (M i j)
  row : ∀ i, i < N → ∀ k, k ≤ N → LP.Rt (rowS M i k)
  tk : ∀ k, k ≤ N → LP.Rt (tK k)
  prod : ∀ i, i < N → ∀ k, k < N → LP.Rt (tK k * M k i)
  col : ∀ i, i < N → ∀ k, k ≤ N → LP.Rt (colS M i k)
  rowN : ∀ i, i < N → rowS M i N = 1
  colN : ∀ i, i < N → colS M i N = tK i
theorem sumF {T : Nat} (h5 : T ≤ 5) {xs : List Int} (hx : okB (T + 1) xs) (hl : xs.length ≤ 12) : SumF (T + 1) (bu (T + 1) xs) := by
  have hp : 3 ^ xs.length ≤ 531441 := Nat.le_trans (Nat.pow_le_pow_right (by omega) hl) (by decide)
  have h1 : ∀ i, i < T + 1 → ∀ j, j < T + 1 → LP.N1 (bu (T + 1) xs i j) 12 531441 := fun i hi j hj => ((bu_rn xs).entry hi hj).mono hl hp
  have ht : ∀ k, k ≤ T + 1 → LP.N1 (tK k) 6 1 := fun k hk => (LP.N1.term (k : Int) 1).mono (by omega) (by decide)
  have h2 : ∀ i, i < T + 1 → ∀ k, k < T + 1 → LP.N1 (tK k * bu (T + 1) xs k i) 18 531441 := fun i hi k hk => ((ht k (by omega)).mul (h1 k hk i hi)).mono (by omega) (by omega)
  refine ⟨fun i hi j hj => (h1 i hi j hj).rt (by omega) (by omega), fun i hi k hk => ?_, fun k hk => (ht k hk).rt (by omega) (by omega), fun i hi k hk => (h2 i hi k hk).rt (by omega) (by omega), fun i hi k hk => ?_, fun i hi => bu_rowSum hx i hi, fun i hi => bu_row hx i hi⟩
  · exact (LP.N1.sumN (E := 12) (V := 531441) fun j hj => h1 i hi j (by omega)).rt (by omega) (by have : k ≤ 6 := (by omega); exact Nat.le_trans (Nat.mul_le_mul_right _ this) (by omega))
  · exact (LP.N1.sumN (E := 18) (V := 531441) fun j hj => h2 i hi j (by omega)).rt (by omega) (by have : k ≤ 6 := (by omega); exact Nat.le_trans (Nat.mul_le_mul_right _ this) (by omega))
theorem canon_tK (k : Nat) : LP.canon (tK k) = ((k : Int), [1]) := LP.canon_term1 _
theorem canon_1 : LP.canon 1 = (0, [1]) := LP.canon_term1 0
theorem buL_getD {n i j : Nat} {xs : List Int} (hi : i < n) (hj : j < n) : ((buL n xs).getD i []).getD j (0, []) = LP.canon (bu n xs i j) := by
  simp [buL, List.getD, hi, hj, cP]
theorem buL_len {n i : Nat} {xs : List Int} (hi : i < n) : ((buL n xs).getD i []).length = n := by
  simp [buL, List.getD, hi]

set_option maxRecDepth 100000 in
set_option maxHeartbeats 16000000 in
theorem braidBurauSums_any (F : BraidC) (Fp : PolyC) (nn : Int) (A : Option Addr) (n c : Nat) (us : List Int) (w : World) (ha : SL w A n c us) :
    Calls Try.prog 6 #[.int .i64 nn, .slice A n c] w fun e w' => e = .returned (.bool true) ∧ Below w.heap.size w w' := by
  obtain ⟨i0, hi0, hiz0, hiz1, hiz2⟩ := info_parts int_info
  have HI0 := hide hi0
  have HZ0 := hide hiz0
  have HZ1 := hide hiz1
  clear hi0 hiz0 hiz1 hiz2
  have HF := hide F
  have HP := hide Fp
  have HA := hide ha
  have HW := hide (Below.refl w.heap.size w)
  clear F Fp ha
  go_enter Try.func6, Try.ntmps6
  go_wp2_with fail
  refine (strands_any nn _).mono ?_
  rintro e w1 ⟨T, hT1, hT5, rfl, hww⟩
  replace hww := hww.symm
  subst hww
  have HWM := hide (wfI (x := (T : Int) + 1) (by omega))
  go_wp2_with fail
  refine (word_any A T n c 12 us _ HA.out.il HA.out.cap (by omega) (by omega) (by omega)).mono ?_
  rintro e w2 ⟨xs, X, xn, xc, rfl, ho, hok, hl, hb⟩
  replace HA := hide (HA.out.below hb)
  replace HW := hide (HW.out.trans (hb.mono HW.out.size))
  have SX := hide ho.sl
  have OX := hide (okB_word hok)
  have LX : Hid (xs.length ≤ 12) := hide (by rw [ho.sl.il.len]; exact hl)
  clear hb ho hok hl
  go_wp2_with fail
  refine (HF.out.burau ((T : Int) + 1) X xn xc xs _ SX.out HWM.out).mono ?_
  rintro e w3 ⟨M, mn, mc, rfl, hs, hb⟩
  replace HA := hide (HA.out.below hb)
  replace HW := hide (HW.out.trans (hb.mono HW.out.size))
  replace SX := hide (SX.out.below hb)
  rw [burE_T hT5 OX.out (by have := LX.out; omega)]
  rw [burL_T hT5 OX.out (by have := LX.out; omega)] at hs
  have hmn : mn = T + 1 := by rw [← hs.len]; simp [buL]
  subst hmn
  have SM := hide hs
  have HSF := hide (sumF hT5 OX.out LX.out)
  clear hb hs
  have hTT : (((T + 1 : Nat) : Int) != (T : Int) + 1) = false := by simp
  go_wp2_with fail
  refine (braided_k HF.out _).mono ?_
  rintro e w4 ⟨rfl, hb⟩
  replace HA := hide (HA.out.below hb)
  replace HW := hide (HW.out.trans (hb.mono HW.out.size))
  replace SX := hide (SX.out.below hb)
  replace SM := hide (SM.out.below hb)
  clear hb
  have HW4 := hide (Below.refl w4.heap.size w4)
  go_upto_region 5 with fail
  clear hTT
  obtain ⟨N, hN⟩ : ∃ N : Nat, T + 1 = N := ⟨_, rfl⟩
  rw [hN] at SM HSF ⊢
  have HN6 : Hid (N ≤ 6) := hide (by omega)
  clear hN
  go_wp2_with fail
  go_loopw [38] (fun iv wr => ∃ i : Nat, iv = .int .i64 i ∧ i ≤ N ∧ Hid (Below w4.heap.size w4 wr)) (fun iv _ => N - (intOf iv).toNat)
  case atStart => exact ⟨0, rfl, Nat.zero_le _, HW4⟩
  case round =>
    clear HW4
    obtain ⟨i, rfl, hi, HWr⟩ := hrel
    rename World => wo
    by_cases hit : i < N
    · have HSM := hide (SM.out.below HWr.out)
      obtain ⟨ad, B, m, d, rfl, hcl, hr⟩ := HSM.out.at_ hit
      have hm : N = m := by rw [← hr.len, buL_len hit]
      subst hm
      have HR := hide hr
      have HI := hide hit
      have HI2 := hide hi
      clear hr hi
      go_upto_region 9 with fail
      have hb1 : Below wo.heap.size wo (wo.alloc (.cells #[.int .i64 0, .slice none 0 0] 45)) := (Below.refl _ _).alloc (Nat.le_refl _) _
      have hb2 : Below (wo.alloc (.cells #[.int .i64 0, .slice none 0 0] 45)).heap.size (wo.alloc (.cells #[.int .i64 0, .slice none 0 0] 45)) ((wo.alloc (.cells #[.int .i64 0, .slice none 0 0] 45)).alloc (.cells #[.int .i64 0, .slice none 0 0] 45)) := (Below.refl _ _).alloc (Nat.le_refl _) _
      have B9 := Blk.below (Blk.new wo 45 #[.int .i64 0, .slice none 0 0]) hb2 (by simp)
      have B10 := Blk.new (wo.alloc (.cells #[.int .i64 0, .slice none 0 0] 45)) 45 #[.int .i64 0, .slice none 0 0]
      have hbb := hb1.trans (hb2.mono hb1.size)
      rw [World.size_alloc] at B10
      have HWx := hide hbb
      have HG : Hid (wo.heap.size ≤ wo.heap.size ∧ wo.heap.size ≤ wo.heap.size + 1 ∧ wo.heap.size ≠ wo.heap.size + 1) := hide (by omega)
      obtain ⟨b10, hb10⟩ : ∃ q, wo.heap.size + 1 = q := ⟨_, rfl⟩
      obtain ⟨w5, hw5⟩ : ∃ q, (wo.alloc (.cells #[.int .i64 0, .slice none 0 0] 45)).alloc (.cells #[.int .i64 0, .slice none 0 0] 45) = q := ⟨_, rfl⟩
      rw [hw5] at B9 B10 HWx ⊢
      rw [hb10] at B10 HG ⊢
      obtain ⟨b9, hb9⟩ : ∃ q, wo.heap.size = q := ⟨_, rfl⟩
      have HG9 : Hid (wo.heap.size ≤ b9 ∧ wo.heap.size ≤ b10 ∧ b9 ≠ b10) := hide (by have := HG.out; omega)
      rw [hb9] at B9 ⊢
      clear hb1 hb2 hbb hw5 hb9 hb10 HG
      have X9 : Hid (BX w5 b9 b10 b9 none 0 0 (rowS (bu N xs) i 0)) := hide ⟨by rw [show rowS (bu N xs) i 0 = 0 from rfl, LP.canon_zero]; exact B9, by rw [show rowS (bu N xs) i 0 = 0 from rfl, LP.canon_zero]; exact SL.nil_ _, fun h => absurd h (by omega)⟩
      have X10 : Hid (BX w5 b9 b10 b10 none 0 0 (colS (bu N xs) i 0)) := hide ⟨by rw [show colS (bu N xs) i 0 = 0 from rfl, LP.canon_zero]; exact B10, by rw [show colS (bu N xs) i 0 = 0 from rfl, LP.canon_zero]; exact SL.nil_ _, fun h => absurd h (by omega)⟩
      clear B9 B10 hcl hit
      go_wp2_with fail
      go_loopw [47] (fun kv wx => ∃ (k : Nat) (P : Option Addr) (pn pc : Nat) (Q : Option Addr) (qn qc : Nat), kv = .int .i64 k ∧ k ≤ N ∧ Hid (BX wx b9 b10 b9 P pn pc (rowS (bu N xs) i k)) ∧ Hid (BX wx b9 b10 b10 Q qn qc (colS (bu N xs) i k)) ∧ Hid (Below wo.heap.size wo wx)) (fun kv _ => N - (intOf kv).toNat)
      case atStart => exact ⟨0, _, _, _, _, _, _, rfl, Nat.zero_le _, X9, X10, HWx⟩
      case round =>
        clear X9 X10 HWx
        obtain ⟨k, P, pn, pc, Q, qn, qc, rfl, hk, X9, X10, HWx⟩ := hrel
        by_cases hkn : k < N
        · obtain ⟨ad2, B2, m2, d2, rfl, hq0, hq1, hs, hwf⟩ := (HR.out.below HWx.out).at_ hkn
          rw [buL_getD HI.out hkn] at hq0 hs
          obtain ⟨S, hS⟩ : ∃ S, rowS (bu N xs) i k = S := ⟨_, rfl⟩
          obtain ⟨D, hD⟩ : ∃ D, colS (bu N xs) i k = D := ⟨_, rfl⟩
          obtain ⟨p, hp⟩ : ∃ p, bu N xs i k = p := ⟨_, rfl⟩
          obtain ⟨q, hq⟩ : ∃ q, bu N xs k i = q := ⟨_, rfl⟩
          have HS1 : Hid (rowS (bu N xs) i (k + 1) = S + p) := hide (by rw [← hS, ← hp]; rfl)
          have HD1 : Hid (colS (bu N xs) i (k + 1) = D + tK k * q) := hide (by rw [← hD, ← hq]; rfl)
          have rS : LP.Rt S := by rw [← hS]; exact HSF.out.row i HI.out k hk
          have rD : LP.Rt D := by rw [← hD]; exact HSF.out.col i HI.out k hk
          have rp : LP.Rt p := by rw [← hp]; exact HSF.out.ent i HI.out k hkn
          have rq : LP.Rt q := by rw [← hq]; exact HSF.out.ent k hkn i HI.out
          have rS1 : LP.Rt (S + p) := by rw [← HS1.out]; exact HSF.out.row i HI.out (k + 1) hkn
          have rD1 : LP.Rt (D + tK k * q) := by rw [← HD1.out]; exact HSF.out.col i HI.out (k + 1) hkn
          have rP : LP.Rt (tK k * q) := by rw [← hq]; exact HSF.out.prod i HI.out k hkn
          have rt : LP.Rt (tK k) := HSF.out.tk k hk
          have R := hide (show LP.Rt S ∧ LP.Rt D ∧ LP.Rt p ∧ LP.Rt q ∧ LP.Rt (S + p) ∧ LP.Rt (D + tK k * q) ∧ LP.Rt (tK k * q) ∧ LP.Rt (tK k) from ⟨rS, rD, rp, rq, rS1, rD1, rP, rt⟩)
          rw [hS] at X9
          rw [hD] at X10
          rw [hp] at hq0 hs
          have HQ := hide hq
          obtain ⟨p1, hp1⟩ : ∃ z, (LP.canon p).1 = z := ⟨_, rfl⟩
          rw [hp1] at hq0
          have HP1 := hide hp1
          have SP := hide hs
          have HKN := hide hkn
          have HK := hide hk
          clear rS rD rp rq rS1 rD1 rP rt hS hD hp hq hs hwf hp1 hk
          go_upto_region 12 with fail
          have hb : Below wr.heap.size wr (wr.alloc (.cells #[.int .i64 p1, .slice B2 m2 d2] 45)) := (Below.refl _ _).alloc (Nat.le_refl _) _
          have BP := hide (Blk.new wr 45 #[.int .i64 p1, .slice B2 m2 d2])
          replace X9 := hide (X9.out.below hb)
          replace X10 := hide (X10.out.below hb)
          replace SP := hide (SP.out.below hb)
          replace HWx := hide (HWx.out.trans (hb.mono HWx.out.size))
          obtain ⟨b12, hqq⟩ : ∃ z, wr.heap.size = z := ⟨_, rfl⟩
          obtain ⟨w6, hw⟩ : ∃ z, wr.alloc (.cells #[.int .i64 p1, .slice B2 m2 d2] 45) = z := ⟨_, rfl⟩
          rw [hw] at BP X9 X10 SP HWx ⊢
          rw [hqq] at BP ⊢
          clear hb hqq hw hq0 hq1 hkn
          have hc := add_c HP.out R.out.1 R.out.2.2.1 R.out.2.2.2.2.1 rfl w6 P pn pc B2 m2 d2 X9.out.sl SP.out
          obtain ⟨s1, hs1⟩ : ∃ z, (LP.canon S).1 = z := ⟨_, rfl⟩
          have B9 := X9.out.blk
          rw [hs1] at hc B9
          rw [HP1.out] at hc
          have HC := hide hc
          have HB9 := hide B9
          have hz0 := HB9.out.cell 0
          have hz1 := HB9.out.cell 1
          simp at hz0 hz1
          have hy0 := BP.out.cell 0
          have hy1 := BP.out.cell 1
          simp at hy0 hy1
          clear hc B9 hs1
          go_wp2_with fail
          refine HC.out.mono ?_
          rintro e w7 ⟨P', pn', pc', rfl, hs, hnw, hb⟩
          have hl9 := X9.out.blk.lt
          have hl10 := X10.out.blk.lt
          have hfar : 0 < pn' → ∀ ad, P' = some ad → ad.block ≠ b9 ∧ ad.block ≠ b10 := fun h ad e => by have := hnw h ad e; omega
          replace X9 := hide (X9.out.below hb)
          replace X10 := hide (X10.out.below hb)
          replace HWx := hide (HWx.out.trans (hb.mono HWx.out.size))
          have HB9' := hide X9.out.blk
          have HS7 := hide (And.intro hs hfar)
          have hz0 := HB9'.out.cell 0
          have hz1 := HB9'.out.cell 1
          simp at hz0 hz1
          have hf0 := HB9'.out.frozen 0
          have hf1 := HB9'.out.frozen 1
          have hl := HB9'.out.lt
          clear hs hnw hb hfar hl9 hl10 HC HB9 BP SP hy0 hy1
          go_upto_region 13 with fail
          have hl9 := HB9'.out.lt
          have Y9 := BX.set2 (x := S + p) HB9'.out (.inl rfl) HS7.out.1 HS7.out.2
          have Y10 := X10.out.other2 (o := b9) (.inl rfl) (fun e => HG9.out.2.2 e.symm) (.int .i64 (LP.canon (S + p)).1) (.slice P' pn' pc')
          have HWy := (HWx.out.setCell (p := ⟨b9, 0, none⟩) HG9.out.1 (.int .i64 (LP.canon (S + p)).1)).setCell (p := ⟨b9, 1, none⟩) HG9.out.1 (.slice P' pn' pc')
          replace X9 := hide Y9
          replace X10 := hide Y10
          replace HWx := hide HWy
          clear Y9 Y10 HWy hl9 hz0 hz1 hf0 hf1 hl HB9' HS7
          obtain ⟨w8, hw⟩ : ∃ z, (w7.setCell ⟨b9, 0, none⟩ (.int .i64 (LP.canon (S + p)).1)).setCell ⟨b9, 1, none⟩ (.slice P' pn' pc') = z := ⟨_, rfl⟩
          rw [hw] at X9 X10 HWx ⊢
          clear hw
          obtain ⟨ad0, B3, m3, d3, e0, hcl, hr3⟩ := (HSM.out.below HWx.out).at_ HKN.out
          injection e0 with e0
          subst e0
          have hm3 : N = m3 := by rw [← hr3.len, buL_len HKN.out]
          subst hm3
          obtain ⟨ad3, B4, m4, d4, rfl, hq0, hq1, hs4, hwf⟩ := hr3.at_ HI.out
          rw [buL_getD HKN.out HI.out, HQ.out] at hq0 hs4
          obtain ⟨g3, o3, h3⟩ := addr_none hq0
          rw [h3] at hq0 hq1
          have hlt1 : (ad.add k).block < w8.heap.size := cell_lt hcl
          have hlt3 : g3 < w8.heap.size := cell_lt hq0
          have hlt10 := X10.out.blk.lt
          have HQS := hide hs4
          clear hs4 hwf hr3
          refine wp_region_T (S := fun x => Below w8.heap.size w8 x) 13 (by kernel_rfl) (Below.refl _ _).drew (fun hS => ?_)
          refine wpT_tk 0 (v := PV (LP.canon D).1 Q qn qc) rfl (by kernel_rfl) (by kernel_rfl) (by kernel_rfl) (by kernel_rfl) (yi rfl fun x hx => gives_loadRow rfl rfl (X10.out.blk.below hx hlt10) Try.underlying45 (by kernel_rfl) (by kernel_rfl)) hS ?_
          go_frame
          refine wpT_tk 1 (v := .int .i64 k) rfl (by kernel_rfl) (by kernel_rfl) (by kernel_rfl) (by kernel_rfl) (yi rfl fun x hx => gives_move (.inl rfl) rfl) hS ?_
          go_frame
          refine wpT_tk 4 (v := .slice (some ad) N mc) rfl (by kernel_rfl) (by kernel_rfl) (by kernel_rfl) (by kernel_rfl) (yi rfl fun x hx => gives_move (.inl rfl) rfl) hS ?_
          go_frame
          refine wpT_tk 5 (v := .int .i64 k) rfl (by kernel_rfl) (by kernel_rfl) (by kernel_rfl) (by kernel_rfl) (yi rfl fun x hx => gives_move (.inl rfl) rfl) hS ?_
          go_frame
          refine wpT_tk 6 (v := .pointer (some (ad.add k))) rfl (by kernel_rfl) (by kernel_rfl) (by kernel_rfl) (by kernel_rfl) (yi rfl fun x hx => gives_indexA rfl Try.underlying35 (fun w => by kernel_rfl) rfl rfl HKN.out) hS ?_
          go_frame
          refine wpT_tk 7 (v := .slice (some ad3) N d3) rfl (by kernel_rfl) (by kernel_rfl) (by kernel_rfl) (by kernel_rfl) (yi rfl fun x hx => gives_load1 rfl (by kernel_rfl) rfl ((hx.cell (p := ad.add k) hlt1).trans hcl)) hS ?_
          go_frame
          refine wpT_tk 8 (v := .int .i64 i) rfl (by kernel_rfl) (by kernel_rfl) (by kernel_rfl) (by kernel_rfl) (yi rfl fun x hx => gives_move (.inl rfl) rfl) hS ?_
          go_frame
          refine wpT_tk 9 (v := .pointer (some (ad3.add (i * 2)))) rfl (by kernel_rfl) (by kernel_rfl) (by kernel_rfl) (by kernel_rfl) (yi rfl fun x hx => gives_indexSlice rfl Try.underlying41 (fun w => by kernel_rfl) rfl rfl HI.out) hS ?_
          go_frame
          rw [h3]
          refine wpT_tk 10 (v := PV (LP.canon q).1 B4 m4 d4) rfl (by kernel_rfl) (by kernel_rfl) (by kernel_rfl) (by kernel_rfl) (yi rfl fun x hx => gives_loadMid (cs := [.int .i64 (LP.canon q).1, .slice B4 m4 d4]) rfl rfl (range2 ((hx.cell (p := ⟨g3, o3, none⟩) hlt3).trans hq0) ((hx.cell (p := ⟨g3, o3 + 1, none⟩) hlt3).trans hq1)) Try.underlying45 (by kernel_rfl) (by kernel_rfl)) hS ?_
          go_frame
          have hl1 : SL (w8.drew.alloc (.cells #[.int .i64 1] 3)) (some ⟨w8.drew.heap.size, 0, none⟩) 1 1 [1] := SL.lit w8.drew [1] (by decide) rfl rfl
          have hlb : Below w8.drew.heap.size w8.drew (w8.drew.alloc (.cells #[.int .i64 1] 3)) := (Below.refl _ _).alloc (Nat.le_refl _) _
          have hS2 : Below w8.heap.size w8 (w8.drew.alloc (.cells #[.int .i64 1] 3)) := hS.trans (hlb.mono hS.size)
          refine wpT_1 2 rfl (by kernel_rfl) ?_
          refine wp_buildSlice_at (cells := #[.int .i64 1]) (l := [(0, .const (.int .i64 1))]) i0 _ 1 [(0, .int .i64 1)] rfl Try.underlying22 HI0.out HZ0.out HZ1.out (by decide) (by decide) rfl (by simp [Instr.fill, Value.cells, show Array.range (1 * 1) = #[0] from rfl]) ⟨fun _ => hS2, ?_⟩
          obtain ⟨bl, hbl⟩ : ∃ z, w8.drew.heap.size = z := ⟨_, rfl⟩
          obtain ⟨w9, hw9⟩ : ∃ z, w8.drew.alloc (.cells #[.int .i64 1] 3) = z := ⟨_, rfl⟩
          rw [hw9] at hl1 hS2 ⊢
          rw [hbl] at hl1 ⊢
          clear hlb hbl hw9
          go_frame
          refine wpT_tk 3 (v := PV (k : Int) (some ⟨bl, 0, none⟩) 1 1) rfl (by kernel_rfl) (by kernel_rfl) (by kernel_rfl) (by kernel_rfl) (yi rfl fun x hx => gives_build [(0, .int .i64 k), (1, .slice (some ⟨bl, 0, none⟩) 1 1)] rfl rfl (by kernel_rfl)) hS2 ?_
          go_frame
          have CM := mul_c HP.out R.out.2.2.2.2.2.2.2 R.out.2.2.2.1 R.out.2.2.2.2.2.2.1 rfl w9 (some ⟨bl, 0, none⟩) 1 1 B4 m4 d4 (by rw [canon_tK]; exact hl1) (HQS.out.below hS2)
          rw [show (LP.canon (tK k)).1 = (k : Int) by rw [canon_tK]] at CM
          refine wpT_1 11 rfl (by kernel_rfl) ?_
          refine wp_call [PV (k : Int) (some ⟨bl, 0, none⟩) 1 1, PV (LP.canon q).1 B4 m4 d4] rfl rfl eMulB rfl (CM.mono ?_)
          rintro e w10 ⟨B5, m5, d5, rfl, hs5, _, hb5⟩
          have hS3 : Below w8.heap.size w8 w10 := hS2.trans (hb5.mono hS2.size)
          refine ⟨_, rfl, fun _ => hS3, ?_⟩
          go_frame
          have CA := add_c HP.out R.out.2.1 R.out.2.2.2.2.2.2.1 R.out.2.2.2.2.2.1 rfl w10 Q qn qc B5 m5 d5 (X10.out.sl.below hS3) hs5
          refine wpT_1 12 rfl (by kernel_rfl) ?_
          refine wp_call [PV (LP.canon D).1 Q qn qc, PV (LP.canon (tK k * q)).1 B5 m5 d5] rfl rfl eAddB rfl (CA.mono ?_)
          rintro e w11 ⟨Q', qn', qc', rfl, hs6, hnw, hb6⟩
          have hS4 : Below w8.heap.size w8 w11 := hS3.trans (hb6.mono hS3.size)
          refine ⟨_, rfl, fun _ => hS4, ?_⟩
          go_frame
          refine wpT_1 13 rfl (by kernel_rfl) ?_
          have hbk := X10.out.blk.below hS4 hlt10
          have hlt9 := X9.out.blk.lt
          have hszs := hS3.size
          refine wp_storeRow rfl rfl rfl hbk (by kernel_rfl) rfl (by kernel_rfl) ⟨fun h => absurd rfl h, ?_⟩
          go_frame
          refine wpT_done (by kernel_rfl) (noPanic_mk ?_) _
          have hfar : 0 < qn' → ∀ ad, Q' = some ad → ad.block ≠ b9 ∧ ad.block ≠ b10 := fun h ad e => by have := hnw h ad e; omega
          have Z10 := hide (BX.set (b9 := b9) (b10 := b10) (x := D + tK k * q) hbk (.inr rfl) hs6 hfar)
          have Z9 := hide ((X9.out.below hS4).other (o := b10) (.inr rfl) HG9.out.2.2 #[.int .i64 (LP.canon (D + tK k * q)).1, .slice Q' qn' qc'])
          have HWz := hide (Below.setRow_ (HWx.out.trans (hS4.mono HWx.out.size)) HG9.out.2.1 #[.int .i64 (LP.canon (D + tK k * q)).1, .slice Q' qn' qc'])
          rw [← HS1.out] at Z9
          rw [← HD1.out] at Z10 Z9 HWz ⊢
          have hkn := HKN.out
          have hk := HK.out
          have hN6 := HN6.out
          clear hl1 hS hS2 hS3 hS4 hs5 hb5 hs6 hnw hb6 hbk hfar CM CA hcl hq0 hq1 hlt1 hlt3 hlt10 hlt9 hszs h3 X9 X10 HWx
          generalize w11.setRow b10 #[.int .i64 (LP.canon (colS (bu N xs) i (k + 1))).1, .slice Q' qn' qc'] = w12 at *
          go_wp2_with fail
          go_roundw
          case rel => exact ⟨k + 1, _, _, _, _, _, _, by go_num, by omega, Z9, Z10, HWz⟩
          case measure => simp [intOf]; omega
        · obtain rfl : k = N := by omega
          rw [HSF.out.rowN i HI.out] at X9
          rw [HSF.out.colN i HI.out] at X10
          have B9 := X9.out.blk
          have S9 := X9.out.sl
          rw [canon_1] at B9 S9
          dsimp only at B9 S9
          have H9 := hide B9
          have hz0 := H9.out.cell 0
          have hz1 := H9.out.cell 1
          simp at hz0 hz1
          have hb1 : Below wr.heap.size wr (wr.alloc (.cells #[.int .i64 1] 3)) := (Below.refl _ _).alloc (Nat.le_refl _) _
          have HC1 := hide (same_k 0 P pn pc [1] 0 _ 1 1 [1] _ (S9.below hb1) (SL.lit wr [1] (by decide) rfl rfl))
          have e1 : (decide ((0 : Int) = 0) && eqB [1] [1]) = true := by rw [eqB_true rfl]; simp
          rw [e1] at HC1
          replace HWx := hide (HWx.out.trans (hb1.mono HWx.out.size))
          replace X10 := hide (X10.out.below hb1)
          clear B9 S9 hb1 e1 X9
          go_wp2_with fail
          refine HC1.out.mono ?_
          rintro e w7 ⟨rfl, hb⟩
          replace HWx := hide (HWx.out.trans (hb.mono HWx.out.size))
          replace X10 := hide (X10.out.below hb)
          clear hb hz0 hz1 HC1 H9
          have B10 := X10.out.blk
          have S10 := X10.out.sl
          rw [canon_tK] at B10 S10
          dsimp only at B10 S10
          have H10 := hide B10
          have hz0 := H10.out.cell 0
          have hz1 := H10.out.cell 1
          simp at hz0 hz1
          have hb1 : Below w7.heap.size w7 (w7.alloc (.cells #[.int .i64 1] 3)) := (Below.refl _ _).alloc (Nat.le_refl _) _
          have HC1 := hide (same_k (i : Int) Q qn qc [1] (i : Int) _ 1 1 [1] _ (S10.below hb1) (SL.lit w7 [1] (by decide) rfl rfl))
          have e1 : (decide ((i : Int) = (i : Int)) && eqB [1] [1]) = true := by rw [eqB_true rfl]; simp
          rw [e1] at HC1
          replace HWx := hide (HWx.out.trans (hb1.mono HWx.out.size))
          clear B10 S10 hb1 e1 X10
          go_wp2_with fail
          refine HC1.out.mono ?_
          rintro e w8 ⟨rfl, hb⟩
          have HWn := hide (HWr.out.trans (((HWx.out.trans (hb.mono HWx.out.size))).mono HWr.out.size))
          have hit := HI.out
          have hN6 := HN6.out
          clear hb hz0 hz1 HC1 H10 HWx
          go_wp2_with fail
          go_roundw
          case rel => exact ⟨i + 1, by go_num, by omega, HWn⟩
          case measure => simp [intOf]; omega
    · have HWn := hide (HW.out.trans (HWr.out.mono HW.out.size))
      go_wp2_with fail
      go_ret
      exact ⟨rfl, HWn.out⟩
end Go.Proofs.Ytldfnfhommbokaa
