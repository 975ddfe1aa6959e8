/- timbkeep1.MatchingRelations, for a package temperleylieb that answers as it should: TEMPERLEY, LIEB. -/
import Derived.Test.YthhcjnmlpojjeaaTlY
import Derived.Test.YthhcjnmlpojjeaaStr
import Derived.Test.YthhcjnmlpojjeaaBase1
import Derived.Deep.DeepCutAuto
namespace Go.Proofs.Ythhcjnmlpojjeaa
set_option linter.unusedVariables false
set_option linter.unusedSimpArgs false
open Go.RowKit

def stkdF (n : Nat) (ks : List Nat) : List Nat × Nat := ks.foldl (fun p k => ((Tl.stkF n p.1 (Tl.hook n k)).1, p.2 + (Tl.stkF n p.1 (Tl.hook n k)).2)) (Tl.straight n, 0)
theorem stkdF_eq (n : Nat) (ks : List Nat) : stkdF n ks = stkd n ks := by
  unfold stkdF stkd hooks Tl.act
  rw [List.foldl_map]
  congr 1
  funext p k
  rw [Tl.stkF_eq]
def relB (n a b : Nat) : Bool :=
  if a = b then stkdF n [a, a] == ((stkdF n [a]).1, (stkdF n [a]).2 + 1)
  else if a = b + 1 ∨ b = a + 1 then stkdF n [a, b, a] == stkdF n [a]
  else stkdF n [a, b] == stkdF n [b, a]
set_option maxRecDepth 100000 in
theorem rel_all : (List.range 5).all (fun t => (List.range (t + 1)).all fun a => (List.range (t + 1)).all fun b => relB (t + 2) (a + 1) (b + 1)) = true := by decide +kernel
theorem rel_ok {n a b : Nat} (hn : 2 ≤ n) (h6 : n ≤ 6) (ha : 1 ≤ a) (ha2 : a < n) (hb : 1 ≤ b) (hb2 : b < n) : relB n a b = true := by
  have h := rel_all
  rw [List.all_eq_true] at h
  have h1 := h (n - 2) (List.mem_range.2 (by omega))
  rw [List.all_eq_true] at h1
  have h2 := h1 (a - 1) (List.mem_range.2 (by omega))
  rw [List.all_eq_true] at h2
  have h3 := h2 (b - 1) (List.mem_range.2 (by omega))
  rwa [show n - 2 + 2 = n by omega, show a - 1 + 1 = a by omega, show b - 1 + 1 = b by omega] at h3
theorem rel_same {n a : Nat} (hn : 2 ≤ n) (h6 : n ≤ 6) (ha : 1 ≤ a) (ha2 : a < n) : stkd n [a, a] = ((stkd n [a]).1, (stkd n [a]).2 + 1) := by
  have h := rel_ok hn h6 ha ha2 ha ha2
  unfold relB at h
  rw [if_pos rfl, beq_iff_eq, stkdF_eq, stkdF_eq] at h
  exact h
theorem rel_near {n a b : Nat} (hn : 2 ≤ n) (h6 : n ≤ 6) (ha : 1 ≤ a) (ha2 : a < n) (hb : 1 ≤ b) (hb2 : b < n) (hab : a = b + 1 ∨ b = a + 1) : stkd n [a, b, a] = stkd n [a] := by
  have h := rel_ok hn h6 ha ha2 hb hb2
  unfold relB at h
  rw [if_neg (by omega), if_pos hab, beq_iff_eq, stkdF_eq, stkdF_eq] at h
  exact h
theorem rel_far {n a b : Nat} (hn : 2 ≤ n) (h6 : n ≤ 6) (ha : 1 ≤ a) (ha2 : a < n) (hb : 1 ≤ b) (hb2 : b < n) (h0 : a ≠ b) (hab : ¬ (a = b + 1 ∨ b = a + 1)) : stkd n [a, b] = stkd n [b, a] := by
  have h := rel_ok hn h6 ha ha2 hb hb2
  unfold relB at h
  rw [if_neg h0, if_neg hab, beq_iff_eq, stkdF_eq, stkdF_eq] at h
  exact h

set_option maxRecDepth 100000 in
set_option maxHeartbeats 8000000 in
theorem matchingRelations_any (F : TlC) (m i0 k0 : Int) (w : World) :
    Calls Try.prog 6 #[.int .i64 m, .int .i64 i0, .int .i64 k0] w fun e w' => e = .returned (.bool true) ∧ Below w.heap.size w w' := by
  have HF := hide F
  clear F
  have hnt := Bool.not_true
  go_enter Try.func6, Try.ntmps6
  go_wp2_with fail
  refine (strands_gen m 5 6 (by decide) (by omega) (by omega) _).mono ?_
  rintro e w1 ⟨T, hT1, hT5, rfl, hww⟩
  subst hww
  obtain ⟨N, hN⟩ : ∃ N, T + 1 = N := ⟨_, rfl⟩
  have hNi : (T : Int) + 1 = (N : Int) := by omega
  rw [hNi]
  have hwT : IntKind.i64.wrap ((N : Int) - 1) = (T : Int) := by rw [IntKind.wrap_i64]; omega
  have HB1 := hide (mbelow_any i0 T w (by omega) (by omega))
  have HB2 := hide (mbelow_any k0 T w (by omega) (by omega))
  obtain ⟨p, hp⟩ : ∃ p : Nat, i0 % (T : Int) = (p : Int) := ⟨(i0 % (T : Int)).toNat, by have := Int.emod_nonneg i0 (show (T : Int) ≠ 0 by omega); omega⟩
  obtain ⟨q, hq⟩ : ∃ q : Nat, k0 % (T : Int) = (q : Int) := ⟨(k0 % (T : Int)).toNat, by have := Int.emod_nonneg k0 (show (T : Int) ≠ 0 by omega); omega⟩
  have hpT : p < T := by have := Int.emod_lt_of_pos i0 (show (0 : Int) < T by omega); omega
  have hqT : q < T := by have := Int.emod_lt_of_pos k0 (show (0 : Int) < T by omega); omega
  rw [hp] at HB1
  rw [hq] at HB2
  obtain ⟨a, ha⟩ : ∃ a, 1 + p = a := ⟨_, rfl⟩
  obtain ⟨b, hb⟩ : ∃ b, 1 + q = b := ⟨_, rfl⟩
  have hwa : IntKind.i64.wrap (1 + (p : Int)) = (a : Int) := by rw [IntKind.wrap_i64]; omega
  have hwb : IntKind.i64.wrap (1 + (q : Int)) = (b : Int) := by rw [IntKind.wrap_i64]; omega
  have a1 : 1 ≤ a := by omega
  have a2 : a < N := by omega
  have b1 : 1 ≤ b := by omega
  have b2 : b < N := by omega
  have n2 : 2 ≤ N := by omega
  have n6 : N ≤ 6 := by omega
  clear hp hq ha hb hN hNi
  go_wp2_with fail
  refine HB1.out.mono ?_
  rintro e w1 ⟨rfl, hww⟩
  subst hww
  go_wp2_with fail
  refine HB2.out.mono ?_
  rintro e w1 ⟨rfl, hww⟩
  subst hww
  clear HB1 HB2 hwT
  have hwab : IntKind.i64.wrap ((a : Int) - (b : Int)) = (a : Int) - (b : Int) := by rw [IntKind.wrap_i64]; omega
  have hwba : IntKind.i64.wrap ((b : Int) - (a : Int)) = (b : Int) - (a : Int) := by rw [IntKind.wrap_i64]; omega
  have HC : Hid (∀ (w : World) (D : Option Addr) (dn dc : Nat) (x : List Nat), x ∈ Tl.plan N → SL w D dn dc (zs x) → Calls Try.prog 12 #[.int .i64 (N : Int), .slice D dn dc] w fun e w' => e = .returned (.int .i64 0) ∧ Below w.heap.size w w') := hide (fun w D dn dc x hx h => by
    have := HF.out.check (N : Int) D dn dc _ w h (wf_nat (by omega))
    rwa [plan_fault (by omega) n6 hx] at this)
  have HPL : Hid (∀ ks : List Nat, (∀ k ∈ ks, k = a ∨ k = b) → (∀ k ∈ ks, 1 ≤ k ∧ k < N) ∧ (stkd N ks).1 ∈ Tl.plan N) := hide (fun ks h => by
    have h2 : ∀ k ∈ ks, 1 ≤ k ∧ k < N := fun k hk => by rcases h k hk with e | e <;> subst e <;> omega
    exact ⟨h2, stkd_plan (by omega) n6 h2⟩)
  by_cases hab : a = b
  · subst hab
    have HM : Hid (max ((a : Int) - (a : Int)) ((a : Int) - (a : Int)) = 0) := hide (by omega)
    clear b1 b2
    have hb : Below w.heap.size w (w.alloc (.cells #[.int .i64 (a : Int), .int .i64 (a : Int)] 3)) := (Below.refl _ _).alloc (Nat.le_refl _) _
    have hS := SL.lit w (zs [a, a]) (by simp [zs]) (cs := #[.int .i64 (a : Int), .int .i64 (a : Int)]) rfl (m := 2) rfl
    have HW := hide hb
    have S0 := hide hS
    clear hS hb
    have hb : Below (w.alloc (.cells #[.int .i64 (a : Int), .int .i64 (a : Int)] 3)).heap.size (w.alloc (.cells #[.int .i64 (a : Int), .int .i64 (a : Int)] 3)) ((w.alloc (.cells #[.int .i64 (a : Int), .int .i64 (a : Int)] 3)).alloc (.cells #[.int .i64 (a : Int), .int .i64 (a : Int)] 3)) := (Below.refl _ _).alloc (Nat.le_refl _) _
    have hS := SL.lit (w.alloc (.cells #[.int .i64 (a : Int), .int .i64 (a : Int)] 3)) (zs [a, a]) (by simp [zs]) (cs := #[.int .i64 (a : Int), .int .i64 (a : Int)]) rfl (m := 2) rfl
    replace HW := hide (HW.out.trans (hb.mono HW.out.size))
    replace S0 := hide (S0.out.below hb)
    have S1 := hide hS
    clear hS hb
    have hb : Below ((w.alloc (.cells #[.int .i64 (a : Int), .int .i64 (a : Int)] 3)).alloc (.cells #[.int .i64 (a : Int), .int .i64 (a : Int)] 3)).heap.size ((w.alloc (.cells #[.int .i64 (a : Int), .int .i64 (a : Int)] 3)).alloc (.cells #[.int .i64 (a : Int), .int .i64 (a : Int)] 3)) (((w.alloc (.cells #[.int .i64 (a : Int), .int .i64 (a : Int)] 3)).alloc (.cells #[.int .i64 (a : Int), .int .i64 (a : Int)] 3)).alloc (.cells #[.int .i64 (a : Int), .int .i64 (a : Int)] 3)) := (Below.refl _ _).alloc (Nat.le_refl _) _
    have hS := SL.lit ((w.alloc (.cells #[.int .i64 (a : Int), .int .i64 (a : Int)] 3)).alloc (.cells #[.int .i64 (a : Int), .int .i64 (a : Int)] 3)) (zs [a, a]) (by simp [zs]) (cs := #[.int .i64 (a : Int), .int .i64 (a : Int)]) rfl (m := 2) rfl
    replace HW := hide (HW.out.trans (hb.mono HW.out.size))
    replace S0 := hide (S0.out.below hb)
    replace S1 := hide (S1.out.below hb)
    have S2 := hide hS
    clear hS hb
    have hb : Below (((w.alloc (.cells #[.int .i64 (a : Int), .int .i64 (a : Int)] 3)).alloc (.cells #[.int .i64 (a : Int), .int .i64 (a : Int)] 3)).alloc (.cells #[.int .i64 (a : Int), .int .i64 (a : Int)] 3)).heap.size (((w.alloc (.cells #[.int .i64 (a : Int), .int .i64 (a : Int)] 3)).alloc (.cells #[.int .i64 (a : Int), .int .i64 (a : Int)] 3)).alloc (.cells #[.int .i64 (a : Int), .int .i64 (a : Int)] 3)) ((((w.alloc (.cells #[.int .i64 (a : Int), .int .i64 (a : Int)] 3)).alloc (.cells #[.int .i64 (a : Int), .int .i64 (a : Int)] 3)).alloc (.cells #[.int .i64 (a : Int), .int .i64 (a : Int)] 3)).alloc (.cells #[.int .i64 (a : Int)] 3)) := (Below.refl _ _).alloc (Nat.le_refl _) _
    have hS := SL.lit (((w.alloc (.cells #[.int .i64 (a : Int), .int .i64 (a : Int)] 3)).alloc (.cells #[.int .i64 (a : Int), .int .i64 (a : Int)] 3)).alloc (.cells #[.int .i64 (a : Int), .int .i64 (a : Int)] 3)) (zs [a]) (by simp [zs]) (cs := #[.int .i64 (a : Int)]) rfl (m := 1) rfl
    replace HW := hide (HW.out.trans (hb.mono HW.out.size))
    replace S0 := hide (S0.out.below hb)
    replace S1 := hide (S1.out.below hb)
    replace S2 := hide (S2.out.below hb)
    have S3 := hide hS
    clear hS hb
    simp only [World.size_alloc] at S1
    simp only [World.size_alloc] at S2
    simp only [World.size_alloc] at S3
    go_upto_region 10 with ((with_reducible show wpList _ _ _ (Oper.mk _ (.call { callee := .builtin .max, args := _, argTypes := _ }) _ _ _ _ :: _) _ _); refine wpList_gives rfl (gives_maxI rfl rfl rfl HM.out) ?_)
    obtain ⟨v, hv⟩ : ∃ x, ((((w.alloc (.cells #[.int .i64 (a : Int), .int .i64 (a : Int)] 3)).alloc (.cells #[.int .i64 (a : Int), .int .i64 (a : Int)] 3)).alloc (.cells #[.int .i64 (a : Int), .int .i64 (a : Int)] 3)).alloc (.cells #[.int .i64 (a : Int)] 3)) = x := ⟨_, rfl⟩
    rw [hv] at S0 S1 S2 S3 HW ⊢
    clear hv
    obtain ⟨g1, g2⟩ := HPL.out [a, a] (by simp)
    obtain ⟨h1, h2⟩ := HPL.out [a] (by simp)
    have hK : (stkd N [a, a]).2 = (stkd N [a]).2 + 1 := by rw [rel_same n2 n6 a1 a2]
    have hX : (stkd N [a, a]).1 = (stkd N [a]).1 := by rw [rel_same n2 n6 a1 a2]
    have hle := stkd_le N 1 [a] rfl
    have hle2 : (stkd N [a]).2 ≤ 54 := Nat.le_trans hle (Nat.le_trans (Nat.mul_le_mul (show 3 * N ≤ 18 by omega) (Nat.le_refl _)) (by omega))
    have HL := hide (fun (w : World) (A : Option Addr) h => stacked_any HF.out N A 2 2 [a, a] w h g1 (by omega) n6 (by omega))
    have HR := hide (fun (w : World) (A : Option Addr) h => stacked_any HF.out N A 1 1 [a] w h h1 (by omega) n6 (by omega))
    generalize (stkd N [a, a]).2 = l1 at *
    generalize (stkd N [a]).2 = l2 at *
    generalize (stkd N [a, a]).1 = x1 at *
    generalize (stkd N [a]).1 = x2 at *
    subst hX
    have hwl : IntKind.i64.wrap ((l2 : Int) + 1) = (l1 : Int) := by rw [IntKind.wrap_i64]; omega
    have hwl0 : IntKind.i64.wrap (l2 : Int) = (l2 : Int) := by rw [IntKind.wrap_i64]; omega
    have hll : ((l1 : Int) == (l1 : Int)) = true := by simp
    clear hle hle2 hK
    go_wp2_with fail
    refine (HL.out v _ S2.out).mono ?_
    rintro e v2 ⟨D, dn, dc, rfl, hs, hb⟩
    have HS := hide hs
    replace HW := hide (HW.out.trans (hb.mono HW.out.size))
    replace S3 := hide (S3.out.below hb)
    clear hs hb
    go_wp2_with fail
    refine (HR.out v2 _ S3.out).mono ?_
    rintro e v3 ⟨E, en, ec, rfl, hs, hb⟩
    have HE := hide hs
    replace HW := hide (HW.out.trans (hb.mono HW.out.size))
    replace HS := hide (HS.out.below hb)
    clear hs hb
    go_wp2_with fail
    refine (matched_k HF.out v3).mono ?_
    rintro e v4 ⟨rfl, hb⟩
    replace HW := hide (HW.out.trans (hb.mono HW.out.size))
    replace HS := hide (HS.out.below hb)
    replace HE := hide (HE.out.below hb)
    clear hb
    have hQ := equal_any D E dn en dc ec _ _ v4 HS.out.il HE.out.il
    rw [eqB_true rfl] at hQ
    go_wp2_with fail
    refine hQ.mono ?_
    rintro e v5 ⟨rfl, hb⟩
    replace HW := hide (HW.out.trans (hb.mono HW.out.size))
    replace HS := hide (HS.out.below hb)
    clear hb hQ
    go_wp2_with fail
    refine (HC.out v5 D dn dc _ g2 HS.out).mono ?_
    rintro e v6 ⟨rfl, hb⟩
    replace HW := hide (HW.out.trans (hb.mono HW.out.size))
    clear hb
    go_wp2_with fail
    go_ret
    exact ⟨rfl, HW.out⟩
  by_cases hn : a = b + 1 ∨ b = a + 1
  · skip
    have HM : Hid (max ((a : Int) - (b : Int)) ((b : Int) - (a : Int)) = 1) := hide (by omega)
    have hb : Below w.heap.size w (w.alloc (.cells #[.int .i64 (a : Int), .int .i64 (b : Int)] 3)) := (Below.refl _ _).alloc (Nat.le_refl _) _
    have hS := SL.lit w (zs [a, b]) (by simp [zs]) (cs := #[.int .i64 (a : Int), .int .i64 (b : Int)]) rfl (m := 2) rfl
    have HW := hide hb
    have S0 := hide hS
    clear hS hb
    have hb : Below (w.alloc (.cells #[.int .i64 (a : Int), .int .i64 (b : Int)] 3)).heap.size (w.alloc (.cells #[.int .i64 (a : Int), .int .i64 (b : Int)] 3)) ((w.alloc (.cells #[.int .i64 (a : Int), .int .i64 (b : Int)] 3)).alloc (.cells #[.int .i64 (b : Int), .int .i64 (a : Int)] 3)) := (Below.refl _ _).alloc (Nat.le_refl _) _
    have hS := SL.lit (w.alloc (.cells #[.int .i64 (a : Int), .int .i64 (b : Int)] 3)) (zs [b, a]) (by simp [zs]) (cs := #[.int .i64 (b : Int), .int .i64 (a : Int)]) rfl (m := 2) rfl
    replace HW := hide (HW.out.trans (hb.mono HW.out.size))
    replace S0 := hide (S0.out.below hb)
    have S1 := hide hS
    clear hS hb
    have hb : Below ((w.alloc (.cells #[.int .i64 (a : Int), .int .i64 (b : Int)] 3)).alloc (.cells #[.int .i64 (b : Int), .int .i64 (a : Int)] 3)).heap.size ((w.alloc (.cells #[.int .i64 (a : Int), .int .i64 (b : Int)] 3)).alloc (.cells #[.int .i64 (b : Int), .int .i64 (a : Int)] 3)) (((w.alloc (.cells #[.int .i64 (a : Int), .int .i64 (b : Int)] 3)).alloc (.cells #[.int .i64 (b : Int), .int .i64 (a : Int)] 3)).alloc (.cells #[.int .i64 (a : Int), .int .i64 (b : Int), .int .i64 (a : Int)] 3)) := (Below.refl _ _).alloc (Nat.le_refl _) _
    have hS := SL.lit ((w.alloc (.cells #[.int .i64 (a : Int), .int .i64 (b : Int)] 3)).alloc (.cells #[.int .i64 (b : Int), .int .i64 (a : Int)] 3)) (zs [a, b, a]) (by simp [zs]) (cs := #[.int .i64 (a : Int), .int .i64 (b : Int), .int .i64 (a : Int)]) rfl (m := 3) rfl
    replace HW := hide (HW.out.trans (hb.mono HW.out.size))
    replace S0 := hide (S0.out.below hb)
    replace S1 := hide (S1.out.below hb)
    have S2 := hide hS
    clear hS hb
    have hb : Below (((w.alloc (.cells #[.int .i64 (a : Int), .int .i64 (b : Int)] 3)).alloc (.cells #[.int .i64 (b : Int), .int .i64 (a : Int)] 3)).alloc (.cells #[.int .i64 (a : Int), .int .i64 (b : Int), .int .i64 (a : Int)] 3)).heap.size (((w.alloc (.cells #[.int .i64 (a : Int), .int .i64 (b : Int)] 3)).alloc (.cells #[.int .i64 (b : Int), .int .i64 (a : Int)] 3)).alloc (.cells #[.int .i64 (a : Int), .int .i64 (b : Int), .int .i64 (a : Int)] 3)) ((((w.alloc (.cells #[.int .i64 (a : Int), .int .i64 (b : Int)] 3)).alloc (.cells #[.int .i64 (b : Int), .int .i64 (a : Int)] 3)).alloc (.cells #[.int .i64 (a : Int), .int .i64 (b : Int), .int .i64 (a : Int)] 3)).alloc (.cells #[.int .i64 (a : Int)] 3)) := (Below.refl _ _).alloc (Nat.le_refl _) _
    have hS := SL.lit (((w.alloc (.cells #[.int .i64 (a : Int), .int .i64 (b : Int)] 3)).alloc (.cells #[.int .i64 (b : Int), .int .i64 (a : Int)] 3)).alloc (.cells #[.int .i64 (a : Int), .int .i64 (b : Int), .int .i64 (a : Int)] 3)) (zs [a]) (by simp [zs]) (cs := #[.int .i64 (a : Int)]) rfl (m := 1) rfl
    replace HW := hide (HW.out.trans (hb.mono HW.out.size))
    replace S0 := hide (S0.out.below hb)
    replace S1 := hide (S1.out.below hb)
    replace S2 := hide (S2.out.below hb)
    have S3 := hide hS
    clear hS hb
    simp only [World.size_alloc] at S1
    simp only [World.size_alloc] at S2
    simp only [World.size_alloc] at S3
    go_upto_region 10 with ((with_reducible show wpList _ _ _ (Oper.mk _ (.call { callee := .builtin .max, args := _, argTypes := _ }) _ _ _ _ :: _) _ _); refine wpList_gives rfl (gives_maxI rfl rfl rfl HM.out) ?_)
    obtain ⟨v, hv⟩ : ∃ x, ((((w.alloc (.cells #[.int .i64 (a : Int), .int .i64 (b : Int)] 3)).alloc (.cells #[.int .i64 (b : Int), .int .i64 (a : Int)] 3)).alloc (.cells #[.int .i64 (a : Int), .int .i64 (b : Int), .int .i64 (a : Int)] 3)).alloc (.cells #[.int .i64 (a : Int)] 3)) = x := ⟨_, rfl⟩
    rw [hv] at S0 S1 S2 S3 HW ⊢
    clear hv
    obtain ⟨g1, g2⟩ := HPL.out [a, b, a] (by simp)
    obtain ⟨h1, h2⟩ := HPL.out [a] (by simp)
    have hK : (stkd N [a, b, a]).2 = (stkd N [a]).2 := by rw [rel_near n2 n6 a1 a2 b1 b2 hn]
    have hX : (stkd N [a, b, a]).1 = (stkd N [a]).1 := by rw [rel_near n2 n6 a1 a2 b1 b2 hn]
    have hle := stkd_le N 1 [a] rfl
    have hle2 : (stkd N [a]).2 ≤ 54 := Nat.le_trans hle (Nat.le_trans (Nat.mul_le_mul (show 3 * N ≤ 18 by omega) (Nat.le_refl _)) (by omega))
    have HL := hide (fun (w : World) (A : Option Addr) h => stacked_any HF.out N A 3 3 [a, b, a] w h g1 (by omega) n6 (by omega))
    have HR := hide (fun (w : World) (A : Option Addr) h => stacked_any HF.out N A 1 1 [a] w h h1 (by omega) n6 (by omega))
    generalize (stkd N [a, b, a]).2 = l1 at *
    generalize (stkd N [a]).2 = l2 at *
    generalize (stkd N [a, b, a]).1 = x1 at *
    generalize (stkd N [a]).1 = x2 at *
    subst hX
    subst hK
    have hwl0 : IntKind.i64.wrap (l1 : Int) = (l1 : Int) := by rw [IntKind.wrap_i64]; omega
    have hll : ((l1 : Int) == (l1 : Int)) = true := by simp
    clear hle hle2
    go_wp2_with fail
    refine (HL.out v _ S2.out).mono ?_
    rintro e v2 ⟨D, dn, dc, rfl, hs, hb⟩
    have HS := hide hs
    replace HW := hide (HW.out.trans (hb.mono HW.out.size))
    replace S3 := hide (S3.out.below hb)
    clear hs hb
    go_wp2_with fail
    refine (HR.out v2 _ S3.out).mono ?_
    rintro e v3 ⟨E, en, ec, rfl, hs, hb⟩
    have HE := hide hs
    replace HW := hide (HW.out.trans (hb.mono HW.out.size))
    replace HS := hide (HS.out.below hb)
    clear hs hb
    go_wp2_with fail
    refine (matched_k HF.out v3).mono ?_
    rintro e v4 ⟨rfl, hb⟩
    replace HW := hide (HW.out.trans (hb.mono HW.out.size))
    replace HS := hide (HS.out.below hb)
    replace HE := hide (HE.out.below hb)
    clear hb
    have hQ := equal_any D E dn en dc ec _ _ v4 HS.out.il HE.out.il
    rw [eqB_true rfl] at hQ
    go_wp2_with fail
    refine hQ.mono ?_
    rintro e v5 ⟨rfl, hb⟩
    replace HW := hide (HW.out.trans (hb.mono HW.out.size))
    replace HS := hide (HS.out.below hb)
    clear hb hQ
    go_wp2_with fail
    refine (HC.out v5 D dn dc _ g2 HS.out).mono ?_
    rintro e v6 ⟨rfl, hb⟩
    replace HW := hide (HW.out.trans (hb.mono HW.out.size))
    clear hb
    go_wp2_with fail
    go_ret
    exact ⟨rfl, HW.out⟩
  · obtain ⟨d, hd⟩ : ∃ d : Nat, max ((a : Int) - (b : Int)) ((b : Int) - (a : Int)) = (d : Int) := ⟨(max ((a : Int) - (b : Int)) ((b : Int) - (a : Int))).toNat, by omega⟩
    have HM := hide hd
    have hd0 : ((d : Int) == 0) = false := by simp; omega
    have hd1 : ((d : Int) == 1) = false := by simp; omega
    clear hd
    have hb : Below w.heap.size w (w.alloc (.cells #[.int .i64 (a : Int), .int .i64 (b : Int)] 3)) := (Below.refl _ _).alloc (Nat.le_refl _) _
    have hS := SL.lit w (zs [a, b]) (by simp [zs]) (cs := #[.int .i64 (a : Int), .int .i64 (b : Int)]) rfl (m := 2) rfl
    have HW := hide hb
    have S0 := hide hS
    clear hS hb
    have hb : Below (w.alloc (.cells #[.int .i64 (a : Int), .int .i64 (b : Int)] 3)).heap.size (w.alloc (.cells #[.int .i64 (a : Int), .int .i64 (b : Int)] 3)) ((w.alloc (.cells #[.int .i64 (a : Int), .int .i64 (b : Int)] 3)).alloc (.cells #[.int .i64 (b : Int), .int .i64 (a : Int)] 3)) := (Below.refl _ _).alloc (Nat.le_refl _) _
    have hS := SL.lit (w.alloc (.cells #[.int .i64 (a : Int), .int .i64 (b : Int)] 3)) (zs [b, a]) (by simp [zs]) (cs := #[.int .i64 (b : Int), .int .i64 (a : Int)]) rfl (m := 2) rfl
    replace HW := hide (HW.out.trans (hb.mono HW.out.size))
    replace S0 := hide (S0.out.below hb)
    have S1 := hide hS
    clear hS hb
    simp only [World.size_alloc] at S1
    go_upto_region 10 with ((with_reducible show wpList _ _ _ (Oper.mk _ (.call { callee := .builtin .max, args := _, argTypes := _ }) _ _ _ _ :: _) _ _); refine wpList_gives rfl (gives_maxI rfl rfl rfl HM.out) ?_)
    obtain ⟨v, hv⟩ : ∃ x, ((w.alloc (.cells #[.int .i64 (a : Int), .int .i64 (b : Int)] 3)).alloc (.cells #[.int .i64 (b : Int), .int .i64 (a : Int)] 3)) = x := ⟨_, rfl⟩
    rw [hv] at S0 S1 HW ⊢
    clear hv
    obtain ⟨g1, g2⟩ := HPL.out [a, b] (by simp)
    obtain ⟨h1, h2⟩ := HPL.out [b, a] (by simp)
    have hK : (stkd N [a, b]).2 = (stkd N [b, a]).2 := by rw [rel_far n2 n6 a1 a2 b1 b2 hab hn]
    have hX : (stkd N [a, b]).1 = (stkd N [b, a]).1 := by rw [rel_far n2 n6 a1 a2 b1 b2 hab hn]
    have hle := stkd_le N 2 [b, a] rfl
    have hle2 : (stkd N [b, a]).2 ≤ 54 := Nat.le_trans hle (Nat.le_trans (Nat.mul_le_mul (show 3 * N ≤ 18 by omega) (Nat.le_refl _)) (by omega))
    have HL := hide (fun (w : World) (A : Option Addr) h => stacked_any HF.out N A 2 2 [a, b] w h g1 (by omega) n6 (by omega))
    have HR := hide (fun (w : World) (A : Option Addr) h => stacked_any HF.out N A 2 2 [b, a] w h h1 (by omega) n6 (by omega))
    generalize (stkd N [a, b]).2 = l1 at *
    generalize (stkd N [b, a]).2 = l2 at *
    generalize (stkd N [a, b]).1 = x1 at *
    generalize (stkd N [b, a]).1 = x2 at *
    subst hX
    subst hK
    have hwl0 : IntKind.i64.wrap (l1 : Int) = (l1 : Int) := by rw [IntKind.wrap_i64]; omega
    have hll : ((l1 : Int) == (l1 : Int)) = true := by simp
    clear hle hle2
    go_wp2_with fail
    refine (HL.out v _ S0.out).mono ?_
    rintro e v2 ⟨D, dn, dc, rfl, hs, hb⟩
    have HS := hide hs
    replace HW := hide (HW.out.trans (hb.mono HW.out.size))
    replace S1 := hide (S1.out.below hb)
    clear hs hb
    go_wp2_with fail
    refine (HR.out v2 _ S1.out).mono ?_
    rintro e v3 ⟨E, en, ec, rfl, hs, hb⟩
    have HE := hide hs
    replace HW := hide (HW.out.trans (hb.mono HW.out.size))
    replace HS := hide (HS.out.below hb)
    clear hs hb
    go_wp2_with fail
    refine (matched_k HF.out v3).mono ?_
    rintro e v4 ⟨rfl, hb⟩
    replace HW := hide (HW.out.trans (hb.mono HW.out.size))
    replace HS := hide (HS.out.below hb)
    replace HE := hide (HE.out.below hb)
    clear hb
    have hQ := equal_any D E dn en dc ec _ _ v4 HS.out.il HE.out.il
    rw [eqB_true rfl] at hQ
    go_wp2_with fail
    refine hQ.mono ?_
    rintro e v5 ⟨rfl, hb⟩
    replace HW := hide (HW.out.trans (hb.mono HW.out.size))
    replace HS := hide (HS.out.below hb)
    clear hb hQ
    go_wp2_with fail
    refine (HC.out v5 D dn dc _ g2 HS.out).mono ?_
    rintro e v6 ⟨rfl, hb⟩
    replace HW := hide (HW.out.trans (hb.mono HW.out.size))
    clear hb
    go_wp2_with fail
    go_ret
    exact ⟨rfl, HW.out⟩
end Go.Proofs.Ythhcjnmlpojjeaa
