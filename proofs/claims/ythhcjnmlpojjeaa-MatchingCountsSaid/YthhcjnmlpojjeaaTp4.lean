/- Package temperleylieb: follow, countLoops. -/
import Derived.Test.YthhcjnmlpojjeaaTp3
import Derived.Deep.LoopGhost
namespace Go.Proofs.Ythhcjnmlpojjeaa
set_option linter.unusedVariables false
set_option linter.unusedSimpArgs false
open Go.RowKit

theorem Tl.pas_cons {N : Nat} {L : Nat → Nat} {J : Nat → Option Nat} (hD : Tl.Dg N L J) {i x : Nat} {is : List Nat} (hi : i < N) (hx : x < N) : Tl.pas L (i :: is) x = ((Tl.pas L is x || x == i) || x == L i) := by
  rw [Bool.eq_iff_iff, Tl.pas_iff, Bool.or_eq_true, Bool.or_eq_true, Tl.pas_iff, List.mem_cons, List.mem_cons, beq_iff_eq, beq_iff_eq]
  have h : L x = i ↔ x = L i := ⟨fun e => by rw [← e, hD.linv x hx], fun e => by rw [e, hD.linv i hi]⟩
  rw [h]
  constructor
  · rintro ((h | h) | (h | h))
    · exact .inl (.inr h)
    · exact .inl (.inl (.inl h))
    · exact .inr h
    · exact .inl (.inl (.inr h))
  · rintro (((h | h) | h) | h)
    · exact .inl (.inr h)
    · exact .inr (.inr h)
    · exact .inl (.inl h)
    · exact .inr (.inl h)

set_option maxRecDepth 100000 in
set_option maxHeartbeats 8000000 in
theorem follow_any (base N lg lc jg jc sg : Nat) (ls js : List Int) (S : Nat → Bool) (L : Nat → Nat) (J : Nat → Option Nat) (s : Nat) (w : World) (hM : DiaM w base N lg lc jg jc sg ls js S) (hL : ∀ i, i < N → ls.getD i 0 = (L i : Int)) (hJ : ∀ i, i < N → js.getD i 0 = Tl.jv (J i)) (hD : Tl.Dg N L J) (hs : s < N) (hN : N ≤ 1000)
    (hst : J s = none ∨ (Tl.Cl N L J S ∧ S s = false ∧ ∀ x, x < N → J x = none → S x = true)) :
    Calls Try.prog 38 #[diaV N lg lc jg jc sg, .int .i64 s] w fun e w' => ∃ (E : Nat) (V : Nat → Bool), e = .returned (.int .i64 E) ∧ Tl.Fol N L J s E V ∧ DiaM w' base N lg lc jg jc sg ls js (fun x => S x || V x) ∧ w.grownBy w' (some sg) := by
  have HLL := hide hL
  have HJJ := hide hJ
  have HD := hide hD
  have HST := hide hst
  have hb1 : Below w.heap.size w (w.alloc (.cells #[.slice (some ⟨lg, 0, none⟩) N lc, .slice (some ⟨jg, 0, none⟩) N jc, .slice (some ⟨sg, 0, none⟩) N N] 60)) := (Below.refl _ _).alloc (Nat.le_refl _) _
  have HM1 := hide (hM.below hb1)
  have HBX := hide (Blk.new w 60 #[.slice (some ⟨lg, 0, none⟩) N lc, .slice (some ⟨jg, 0, none⟩) N jc, .slice (some ⟨sg, 0, none⟩) N N])
  have HG1 : Hid (w.grownBy (w.alloc (.cells #[.slice (some ⟨lg, 0, none⟩) N lc, .slice (some ⟨jg, 0, none⟩) N jc, .slice (some ⟨sg, 0, none⟩) N N] 60)) (some sg)) := hide (gb_below hb1)
  have hsgl : sg < w.heap.size := by
    obtain ⟨g, e, _, h2⟩ := hM.seen.form (by omega)
    simp only [Option.some.injEq, Addr.mk.injEq] at e
    omega
  clear hL hJ hD hst hb1 hM
  go_enter Try.func38, Try.ntmps38
  go_upto_region 2 with fail
  generalize w.alloc (.cells #[.slice (some ⟨lg, 0, none⟩) N lc, .slice (some ⟨jg, 0, none⟩) N jc, .slice (some ⟨sg, 0, none⟩) N N] 60) = w1 at *
  obtain ⟨bx, hbx⟩ : ∃ b, w.heap.size = b := ⟨_, rfl⟩
  rw [hbx] at HBX hsgl ⊢
  clear hbx
  go_loopg [5] N (fun gh iv wr => ∃ (i : Nat) (is : List Nat), iv = .int .i64 i ∧ Hid (Tl.Wk N L J s (i :: is)) ∧ Hid (gh = N - is.length) ∧ Hid (DiaM wr base N lg lc jg jc sg ls js (fun x => S x || Tl.pas L is x)) ∧ Hid (Blk wr bx 60 #[.slice (some ⟨lg, 0, none⟩) N lc, .slice (some ⟨jg, 0, none⟩) N jc, .slice (some ⟨sg, 0, none⟩) N N]) ∧ Hid (w.grownBy wr (some sg)))
  case atStart => exact ⟨s, [], rfl, hide .one, hide (by simp), hide (HM1.out.congr fun i hi => by simp [Tl.pas]), HBX, HG1⟩
  case round =>
    clear HM1 HBX HG1
    obtain ⟨i, is, rfl, HW, HGH, HM, HBX, HG⟩ := hrel
    have hiN := HW.out.lt HD.out hs i (by simp)
    have hlen := HW.out.len HD.out hs
    rw [List.length_cons] at hlen
    have HLEN := hide hlen
    obtain ⟨j, hj⟩ : ∃ j, L i = j := ⟨_, rfl⟩
    have HJI := hide hj
    have hjN : j < N := by rw [← hj]; exact HD.out.llt i hiN
    have hcl := HM.out.lines.cell hiN
    rw [HLL.out i hiN, hj] at hcl
    have hcj := HM.out.joints.cell hjN
    rw [HJJ.out j hjN] at hcj
    have hs1 := HM.out.seen.cellAt (j := i) (by omega)
    rw [bitsV_get _ hiN] at hs1
    have hM2 := HM.out.mark i
    have hs2 := hM2.seen.cellAt (j := j) (by omega)
    rw [bitsV_get _ hjN] at hs2
    have hfz1 := HM.out.seen.frozen i
    have hfz2 := hM2.seen.frozen j
    have hM3 := hM2.mark j
    have hc0 := HBX.out.cell 0
    have hc1 := HBX.out.cell 1
    have hc2 := HBX.out.cell 2
    have hx2 := (HBX.out.far (p := ⟨sg, i, none⟩) (show bx ≠ sg by omega) (.bool true)).cell 2
    simp at hc0 hc1 hc2 hx2
    have HM3 : Hid (DiaM ((wr.setCell ⟨sg, i, none⟩ (.bool true)).setCell ⟨sg, j, none⟩ (.bool true)) base N lg lc jg jc sg ls js (fun x => S x || Tl.pas L (i :: is) x)) := hide (hM3.congr fun x hx => by
      rw [Tl.pas_cons HD.out hiN hx, hj]
      simp only [Bool.or_assoc])
    have HBX3 := hide ((HBX.out.far (p := ⟨sg, i, none⟩) (show bx ≠ sg by omega) (.bool true)).far (p := ⟨sg, j, none⟩) (show bx ≠ sg by omega) (.bool true))
    have HG3 := hide (gb_trans (gb_trans HG.out (gb_set (i := i) (v := .bool true))) (gb_set (i := j) (v := .bool true)))
    generalize (S i || Tl.pas L is i) = o1 at hs1
    obtain ⟨o2, ho2⟩ : ∃ o, (S j || Tl.pas L is j || j == i) = o := ⟨_, rfl⟩
    have hs3 : (wr.setCell ⟨sg, i, none⟩ (.bool true)).cell? ⟨sg, j, none⟩ = some (.bool o2) := by rw [← ho2]; exact hs2
    clear hM2 hM3 hlen hj HG hs2 ho2
    go_upto_region 3 with fail
    go_region
    have HM5 := hide (HM3.out.below (Below.refl _ _).drew)
    have HBX5 := hide (HBX3.out.below (Below.refl _ _).drew HBX3.out.lt)
    have HG5 := hide (gb_trans HG3.out (gb_below (Below.refl _ _).drew))
    generalize (((wr.setCell ⟨sg, i, none⟩ (.bool true)).setCell ⟨sg, j, none⟩ (.bool true)).drew) = w5 at *
    clear HM3 HBX3 HG3 hs1 hs3 hfz1 hfz2 hc0 hc1 hc2 hx2 hcl hcj HM HBX
    have hcj := HM5.out.joints.cell hjN
    rw [HJJ.out j hjN] at hcj
    have hc1 := HBX5.out.cell 1
    simp at hc1
    cases hJj : J j with
    | none =>
      rw [hJj] at hcj
      have hJL : J (L i) = none := by rw [HJI.out]; exact hJj
      have HF : Hid (Tl.Fol N L J s j (Tl.pas L (i :: is))) := hide (by
        rcases HST.out with h | ⟨h1, h2, h3⟩
        · have := HW.out.fol_open HD.out hs hJL h
          rwa [HJI.out] at this
        · exfalso
          have h4 := HW.out.sub HD.out hs (h1.not HD.out) (by simp [h2]) j hjN (Tl.pas_iff.2 (.inr (by rw [← HJI.out, HD.out.linv i hiN]; simp)))
          rw [h3 j hjN hJj] at h4
          cases h4)
      have hcj2 : w5.cell? ⟨jg, j, none⟩ = some (.int .i64 (-1)) := hcj
      clear hJj hJL hcj
      go_wp2_with fail
      go_ret
      exact ⟨j, _, rfl, HF.out, HM5.out, HG5.out⟩
    | some k =>
      rw [hJj] at hcj
      have hcj2 : w5.cell? ⟨jg, j, none⟩ = some (.int .i64 (k : Int)) := hcj
      have hkN := HD.out.jlt _ _ hjN hJj
      have hk1 : ((k : Int) == -1) = false := by rw [beq_eq_false_iff_ne]; omega
      have HJL : Hid (J (L i) = some k) := hide (by rw [HJI.out]; exact hJj)
      clear hJj hcj
      by_cases hks : k = s
      · subst hks
        have HF := hide (HW.out.fol_closed HD.out hs HJL.out)
        have hkk : ((k : Int) == (k : Int)) = true := by simp
        go_wp2_with fail
        go_ret
        exact ⟨k, _, rfl, HF.out, HM5.out, HG5.out⟩
      · have HW2 := hide (HW.out.step HJL.out hks)
        have hkk : ((k : Int) == (s : Int)) = false := by rw [beq_eq_false_iff_ne]; omega
        have hlen2 := HW2.out.len HD.out hs
        rw [List.length_cons, List.length_cons] at hlen2
        have HL2 := hide hlen2
        clear hks hlen2
        go_wp2_with fail
        go_roundg (N - (is.length + 1))
        case rel => exact ⟨k, i :: is, rfl, HW2, hide (by rw [List.length_cons]), HM5, HBX5, HG5⟩
        case measure => have := HGH.out; have := HL2.out; omega

set_option maxRecDepth 100000 in
set_option maxHeartbeats 8000000 in
theorem countLoops_any (base N lg lc jg jc sg M : Nat) (ls js : List Int) (S : Nat → Bool) (L : Nat → Nat) (J : Nat → Option Nat) (p : Nat → Nat) (lab : List Nat) (w : World) (hM : DiaM w base N lg lc jg jc sg ls js S) (hL : ∀ i, i < N → ls.getD i 0 = (L i : Int)) (hJ : ∀ i, i < N → js.getD i 0 = Tl.jv (J i)) (hB : Tl.Lb N L J M p lab) (hN : N ≤ 1000) (h0 : 0 < N) (hMM : M ≤ 1000)
    (hS : Tl.Cl N L J S) (hSo : ∀ x, x < N → J x = none → S x = true) :
    Calls Try.prog 39 #[diaV N lg lc jg jc sg] w fun e w' => ∃ l : Nat, e = .returned (.int .i64 l) ∧ l + Tl.cntS p N lab S = Tl.cnt lab ∧ w.grownBy w' (some sg) := by
  have HFO := hide (fun (S' : Nat → Bool) (k : Nat) (w' : World) (h1 : DiaM w' base N lg lc jg jc sg ls js S') (hk : k < N) (h2 : Tl.Cl N L J S') (h3 : S' k = false) (h4 : ∀ x, x < N → J x = none → S' x = true) => follow_any base N lg lc jg jc sg ls js S' L J k w' h1 hL hJ hB.dg hk hN (.inr ⟨h2, h3, h4⟩))
  have HLB := hide hB
  have HSO := hide hSo
  have hb1 : Below w.heap.size w (w.alloc (.cells #[.slice (some ⟨lg, 0, none⟩) N lc, .slice (some ⟨jg, 0, none⟩) N jc, .slice (some ⟨sg, 0, none⟩) N N] 60)) := (Below.refl _ _).alloc (Nat.le_refl _) _
  have HM1 := hide (hM.below hb1)
  have HBX := hide (Blk.new w 60 #[.slice (some ⟨lg, 0, none⟩) N lc, .slice (some ⟨jg, 0, none⟩) N jc, .slice (some ⟨sg, 0, none⟩) N N])
  have HG1 : Hid (w.grownBy (w.alloc (.cells #[.slice (some ⟨lg, 0, none⟩) N lc, .slice (some ⟨jg, 0, none⟩) N jc, .slice (some ⟨sg, 0, none⟩) N N] 60)) (some sg)) := hide (gb_below hb1)
  have hsgl : sg < w.heap.size := by
    obtain ⟨g, e, _, h2⟩ := hM.seen.form (by omega)
    simp only [Option.some.injEq, Addr.mk.injEq] at e
    omega
  have HCL := hide hS
  have HML : Hid (∀ T : Nat → Bool, Tl.cntS p N lab T ≤ 1000) := hide (fun T => by unfold Tl.cntS; refine Nat.le_trans List.countP_le_length ?_; rw [List.length_range, hB.len]; exact hMM)
  clear hL hJ hB hSo hb1 hM hS hMM
  go_enter Try.func39, Try.ntmps39
  go_upto_region 2 with fail
  generalize w.alloc (.cells #[.slice (some ⟨lg, 0, none⟩) N lc, .slice (some ⟨jg, 0, none⟩) N jc, .slice (some ⟨sg, 0, none⟩) N N] 60) = w1 at *
  obtain ⟨bx, hbx⟩ : ∃ b, w.heap.size = b := ⟨_, rfl⟩
  rw [hbx] at HBX hsgl ⊢
  clear hbx
  have hc0 := HBX.out.cell 0
  simp at hc0
  go_wp2_with fail
  clear hc0
  go_loopw [3, 8] (fun lv iv wr => ∃ (k l : Nat) (T : Nat → Bool), iv = .int .i64 k ∧ lv = .int .i64 l ∧ k ≤ N ∧ Hid (l + Tl.cntS p N lab S = Tl.cntS p N lab T) ∧ Hid (DiaM wr base N lg lc jg jc sg ls js T) ∧ Hid (Tl.Cl N L J T) ∧ Hid (∀ x, S x = true → T x = true) ∧ Hid (∀ x, x < k → T x = true) ∧ Hid (Blk wr bx 60 #[.slice (some ⟨lg, 0, none⟩) N lc, .slice (some ⟨jg, 0, none⟩) N jc, .slice (some ⟨sg, 0, none⟩) N N]) ∧ Hid (w.grownBy wr (some sg))) (fun _ iv _ => N - (intOf iv).toNat)
  case atStart => exact ⟨0, 0, S, rfl, rfl, Nat.zero_le _, hide (Nat.zero_add _), HM1, HCL, hide (fun _ h => h), hide (fun x hx => absurd hx (by omega)), HBX, HG1⟩
  case round =>
    clear HM1 HBX HG1 HCL
    obtain ⟨k, l, T, rfl, rfl, hk, HC, HM, HCL, HST, HK, HBX, HG⟩ := hrel
    by_cases hkN : k < N
    · have hc2 := HBX.out.cell 2
      have hc0 := HBX.out.cell 0
      have hc1 := HBX.out.cell 1
      simp at hc0 hc1 hc2
      have hs1 := HM.out.seen.cellAt (j := k) (by omega)
      rw [bitsV_get _ hkN] at hs1
      cases hT : T k with
      | true =>
        rw [hT] at hs1
        have HK2 : Hid (∀ x, x < k + 1 → T x = true) := hide (fun x hx => by
          by_cases e : x = k
          · rw [e]; exact hT
          · exact HK.out x (by omega))
        clear hT hc0 hc1
        go_wp2_with fail
        go_roundw
        case rel => exact ⟨k + 1, l, T, by go_num, rfl, by omega, HC, HM, HCL, HST, HK2, HBX, HG⟩
        case measure => simp [intOf]; omega
      | false =>
        rw [hT] at hs1
        have HF := hide (HFO.out T k wr HM.out hkN HCL.out hT (fun x hx h => HST.out x (HSO.out x hx h)))
        have HT := hide hT
        clear hT
        go_wp2_with fail
        refine HF.out.mono ?_
        rintro e w3 ⟨E, V, rfl, hfo, hm3, hg3⟩
        have HM3 := hide hm3
        have HBX3 := hide (HBX.out.grown hg3 (fun e => by injection e with e; omega))
        have HG3 := hide (gb_trans HG.out hg3)
        have HCL3 := hide (HCL.out.or hfo.cl)
        have HC3 : Hid (l + 1 + Tl.cntS p N lab S = Tl.cntS p N lab (fun x => T x || V x)) := hide (by
          rw [HLB.out.cntS_step HCL.out hkN HT.out hfo, ← HC.out]; omega)
        have HK3 : Hid (∀ x, x < k + 1 → (T x || V x) = true) := hide (fun x hx => by
          by_cases e : x = k
          · rw [e, hfo.st, Bool.or_true]
          · rw [HK.out x (by omega), Bool.true_or])
        have hl : l + 1 ≤ 1000 := by have h1 := HC3.out; have h2 := HML.out (fun x => T x || V x); omega
        have HST3 : Hid (∀ x, S x = true → (T x || V x) = true) := hide (fun x h => by rw [HST.out x h, Bool.true_or])
        have hwl : IntKind.i64.wrap ((l : Int) + 1) = (l : Int) + 1 := by rw [IntKind.wrap_i64]; omega
        clear hfo hm3 hg3 HF HM HBX HG HCL HC HK HST HT hs1 hc0 hc1 hc2
        go_wp2_with fail
        go_roundw
        case rel => exact ⟨k + 1, l + 1, _, by go_num, by go_num, by omega, HC3, HM3, HCL3, HST3, HK3, HBX3, HG3⟩
        case measure => simp [intOf]; omega
    · have hkE : k = N := by omega
      have HE : Hid (l + Tl.cntS p N lab S = Tl.cnt lab) := hide (by
        rw [HC.out]
        exact HLB.out.cntS_all (fun i hi => HK.out i (by omega)))
      clear hkE
      go_wp2_with fail
      go_ret
      exact ⟨l, rfl, HE.out, HG.out⟩
end Go.Proofs.Ythhcjnmlpojjeaa
