/- Several texts in one. -/
import Derived.Test.YtndgffiihbdppaaPart20
/- Package alexander: Determinant; what the package is to answer. -/
namespace Go.Proofs.Ytndgffiihbdppaa
set_option linter.unusedVariables false
set_option linter.unusedSimpArgs false
open Go.RowKit

theorem alD_ev {N : Nat} {xs : List Int} (h : alE (N : Int) xs = 0) (hce : CE (adet N xs) 20 100000000) : LP.evalE 0 (alP (N : Int) xs) (-1) = 0 ∧ LP.evalV 0 (alP (N : Int) xs) (-1) = altP (alP (N : Int) xs) (alP (N : Int) xs).length ∧ (altP (alP (N : Int) xs) (alP (N : Int) xs).length).natAbs ≤ 10000000000 := by
  have hrt : LP.Rt (adet N xs) := hce.rt (by omega) (Nat.le_refl _)
  rw [alP_eq h]
  obtain ⟨h1, h2⟩ := LP.normC_cano (la := (LP.canon (adet N xs)).1) (A := (LP.canon (adet N xs)).2) hrt
  have he : LP.evalE 0 (LP.normC (LP.canon (adet N xs)).2) (-1) = 0 := by unfold LP.evalE; rw [if_pos h2, if_pos (.inr rfl)]
  refine ⟨he, ?_, ?_⟩
  · unfold LP.evalV
    rw [if_pos he]
    exact ev_of0 _
  · have hm := canon_mem hce
    have h3 := altP_le (normC_mem hm.2) (LP.normC (LP.canon (adet N xs)).2).length
    have h4 : (LP.normC (LP.canon (adet N xs)).2).length ≤ 41 := by unfold LP.normC; rw [List.length_map]; omega
    refine Nat.le_trans h3 ?_
    have := Nat.mul_le_mul_right 100000000 h4
    omega

set_option maxRecDepth 100000 in
set_option maxHeartbeats 8000000 in
theorem aldetm_any (FB : BraidC) (F : PolyC) (m : Int) (A : Option Addr) (n c : Nat) (xs : List Int) (w : World) (ha : SL w A n c xs) (hm : (Lit.int .i64 m).wf = true) (hF : alF m xs) :
    Calls Try.prog 25 #[.int .i64 m, .slice A n c] w fun e w' => e = .returned (.tuple #[.int .i64 (alD m xs), .int .i64 (alE m xs)]) ∧ Below w.heap.size w w' := by
  have HP := hide (alpoly_any FB F m A n c xs w ha hm hF)
  have HBAD : Hid (alE m xs ≠ 0 → alD m xs = 0) := hide (fun h => (alP_bad h).2)
  have HOK : Hid (alE m xs = 0 → LP.evalE 0 (alP m xs) (-1) = 0 ∧ LP.evalV 0 (alP m xs) (-1) = altP (alP m xs) (alP m xs).length ∧ (altP (alP m xs) (alP m xs).length).natAbs ≤ 10000000000) := hide (fun h => by
    have hbf : bfault m xs = 0 := by
      by_cases hb : bfault m xs = 0
      · exact hb
      · exact absurd ((alE_bad hb).symm.trans h) hb
    have hl : xs.length ≤ 20 := by
      by_cases h20 : 20 < xs.length
      · have := alE_long hbf h20
        omega
      · omega
    have hz := bfault_zero hbf
    obtain ⟨N, rfl⟩ : ∃ N : Nat, m = (N : Int) := ⟨m.toNat, by omega⟩
    refine alD_ev h (adet_ce (fun x hx => by have := hz.2.2.2 x hx; omega) (by omega) (by omega) hl ?_)
    rcases hF h with h1 | h1
    · exact .inl h1
    · exact .inr (by omega))
  have HD : Hid (alD m xs = (altP (alP m xs) (alP m xs).length).natAbs) := hide rfl
  have HEV := hide (fun (w : World) (P : Option Addr) (pn pc : Nat) (s : SL w P pn pc (alP m xs)) => F.eval 0 P pn pc (alP m xs) (-1) w s (by decide) (by decide))
  clear ha hm hF F FB
  generalize alE m xs = ee at *
  generalize alD m xs = dd at *
  generalize alP m xs = cs at *
  go_enter Try.func25, Try.ntmps25
  go_wp2_with fail
  refine HP.out.mono ?_
  rintro e w1 ⟨P, pn, pc, rfl, hs, _, hb⟩
  dsimp only at hs ⊢
  have hal : Below w1.heap.size w1 (w1.alloc (.cells #[.int .i64 0, .slice P pn pc] 36)) := (Below.refl _ _).alloc (Nat.le_refl _) _
  have SP := hide (hs.below hal)
  have HW := hide (hb.trans (hal.mono hb.size))
  have BP := hide (Blk.new w1 36 #[.int .i64 0, .slice P pn pc])
  clear hs hb hal
  go_upto_region 2 with fail
  obtain ⟨b6, hb6⟩ : ∃ b, w1.heap.size = b := ⟨_, rfl⟩
  obtain ⟨w2, hw2⟩ : ∃ x, w1.alloc (.cells #[.int .i64 0, .slice P pn pc] 36) = x := ⟨_, rfl⟩
  rw [hw2] at SP HW BP ⊢
  rw [hb6] at BP ⊢
  clear hw2 hb6 HP
  by_cases h0 : ee = 0
  case neg =>
    have HDE := hide (HBAD.out h0)
    have hne : (ee != 0) = true := by simpa using h0
    clear h0
    go_wp2_with fail
    go_ret2
    rw [HDE.out]
    exact ⟨rfl, HW.out⟩
  subst h0
  obtain ⟨h1, h2, h3⟩ := HOK.out rfl
  have HE := hide h1
  have HV := hide h2
  obtain ⟨v, hv⟩ : ∃ v, altP cs cs.length = v := ⟨_, rfl⟩
  rw [hv] at HV HD h3
  have hnw : IntKind.i64.wrap (-v) = -v := by rw [IntKind.wrap_i64]; omega
  have c0 := BP.out.cell 0
  have c1 := BP.out.cell 1
  simp at c0 c1
  clear h1 h2 hv HOK HBAD
  go_wp2_with fail
  refine (HEV.out _ P pn pc SP.out).mono ?_
  rintro e w3 ⟨rfl, hb⟩
  rw [HE.out, HV.out]
  replace HW := hide (HW.out.trans (hb.mono HW.out.size))
  clear hb c0 c1 SP BP HE HV
  by_cases hs : v < -v
  · have HDD : Hid (dd = -v) := hide (by rw [HD.out]; omega)
    clear HD
    go_wp2_with fail
    go_ret2
    rw [HDD.out]
    exact ⟨rfl, HW.out⟩
  · have HDD : Hid (dd = v) := hide (by rw [HD.out]; omega)
    clear HD
    go_wp2_with fail
    go_ret2
    rw [HDD.out]
    exact ⟨rfl, HW.out⟩
theorem alexC : AlexC where
  poly m A n c xs w ha hm hF := alpoly_any braidC polyC m A n c xs w ha hm hF -- 20
  det m A n c xs w ha hm hF := aldetm_any braidC polyC m A n c xs w ha hm hF -- 25
end Go.Proofs.Ytndgffiihbdppaa
