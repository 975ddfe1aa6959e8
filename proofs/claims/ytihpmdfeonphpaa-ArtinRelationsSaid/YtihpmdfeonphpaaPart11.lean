/- Several texts of the walk in one. -/
import Derived.Test.YtihpmdfeonphpaaPart4
import Derived.Test.YtihpmdfeonphpaaPart10
import Derived.Test.YtihpmdfeonphpaaPart5
import Derived.Test.YtihpmdfeonphpaaBase
import Derived.Test.YtihpmdfeonphpaaPart2
import Derived.Test.YtihpmdfeonphpaaPart1
import Derived.Maps.RangeWalk
import Derived.Maps.Keyed
/- timblaw1.ArtinImages, for a package artin that answers as it should. (Written by tools/gen_aimg.py.) -/
namespace Go.Proofs.Ytihpmdfeonphpaa
set_option linter.unusedVariables false
set_option linter.unusedSimpArgs false
open Go.RowKit

theorem artI_one : artE 2 [1] = 0 ∧ artI 2 [1] = [[1, 2, -1], [1]] := by decide +kernel
theorem imgs_succ (k : Nat) (w : List Int) : imgs (k + 1) w = imgs k w ++ [nf (artC w [(k : Int) + 1])] := by unfold imgs; rw [List.range_succ, List.map_append]; rfl

set_option maxRecDepth 100000 in
set_option maxHeartbeats 8000000 in
theorem artinImages_any (F : ArtinC) (m : Int) (A : Option Addr) (n c : Nat) (xs : List Int) (w : World) (ha : SL w A n c xs) (wm : (Lit.int .i64 m).wf = true) :
    Calls Try.prog 3 #[.int .i64 m, .slice A n c] w fun e w' => e = .returned (.bool true) ∧ Below w.heap.size w w' := by
  have HF := hide F
  have HWM := hide wm
  have HA := hide ha
  have HW := hide (Below.refl w.heap.size w)
  have HL := hide ha.il.len
  obtain ⟨fx, hfx⟩ : ∃ q, bfault m xs = q := ⟨_, rfl⟩
  have HFX := hide hfx
  clear F wm ha hfx
  obtain ⟨i0, hi0, hz0, hz1, hz2⟩ := info_parts int_info
  have HI0 := hide hi0
  have HZ0 := hide hz0
  have HZ1 := hide hz1
  have HZ2 := hide hz2
  clear hi0 hz0 hz1 hz2
  go_enter Try.func3, Try.ntmps3
  go_wp2_with fail
  have hlit : SL (w.alloc (.cells #[.int .i64 1] 3)) (some ⟨w.heap.size, 0, none⟩) 1 1 [1] := SL.lit w [1] (by decide) rfl rfl
  have hal : Below w.heap.size w (w.alloc (.cells #[.int .i64 1] 3)) := (Below.refl _ _).alloc (Nat.le_refl _) _
  refine (HF.out.images 2 _ 1 1 [1] _ hlit (by decide)).mono ?_
  rintro e w1 ⟨P, pn, pc, rfl, hs, hb0⟩
  have hb := hal.trans (hb0.mono hal.size)
  replace HA := hide (HA.out.below hb)
  replace HW := hide (HW.out.trans (hb.mono HW.out.size))
  rw [artI_one.1]
  rw [artI_one.2] at hs
  have SP := hide hs
  clear hs hb hb0 hal hlit
  go_upto_region 2 with fail
  go_wp2_with fail
  obtain ⟨b, hsz⟩ : ∃ q, w1.heap.size = q := ⟨_, rfl⟩
  have HZb := hide hsz
  rw [hsz] at  ⊢
  have hb : Below w1.heap.size w1 (w1.alloc (.cells #[.int .i64 1, .int .i64 2, .int .i64 (-1)] 3)) := (Below.refl _ _).alloc (Nat.le_refl _) _
  have L1 : Hid (SL (w1.alloc (.cells #[.int .i64 1, .int .i64 2, .int .i64 (-1)] 3)) (some ⟨w1.heap.size, 0, none⟩) 3 3 [1, 2, -1]) := hide (SL.lit w1 [1, 2, -1] (by decide) rfl rfl)
  replace HA := hide (HA.out.below hb)
  replace HW := hide (HW.out.trans (hb.mono HW.out.size))
  replace SP := hide (SP.out.below hb)
  rw [hsz] at L1
  obtain ⟨w2, hw⟩ : ∃ x, w1.alloc (.cells #[.int .i64 1, .int .i64 2, .int .i64 (-1)] 3) = x := ⟨_, rfl⟩
  replace hsz : w2.heap.size = b + 1 := by rw [← hw, World.size_alloc, hsz]
  rw [hw] at L1 HA HW SP ⊢
  clear hb hw
  have hb : Below w2.heap.size w2 (w2.alloc (.cells #[.int .i64 1] 3)) := (Below.refl _ _).alloc (Nat.le_refl _) _
  have L2 : Hid (SL (w2.alloc (.cells #[.int .i64 1] 3)) (some ⟨w2.heap.size, 0, none⟩) 1 1 [1]) := hide (SL.lit w2 [1] (by decide) rfl rfl)
  replace HA := hide (HA.out.below hb)
  replace HW := hide (HW.out.trans (hb.mono HW.out.size))
  replace SP := hide (SP.out.below hb)
  replace L1 := hide (L1.out.below hb)
  rw [hsz] at L2
  obtain ⟨w3, hw⟩ : ∃ x, w2.alloc (.cells #[.int .i64 1] 3) = x := ⟨_, rfl⟩
  replace hsz : w3.heap.size = b + 1 + 1 := by rw [← hw, World.size_alloc, hsz]
  rw [hw] at L2 HA HW SP L1 ⊢
  clear hb hw
  have hb : Below w3.heap.size w3 (w3.alloc (.cells #[.slice (some ⟨b, 0, none⟩) 3 3, .slice (some ⟨b + 1, 0, none⟩) 1 1] 22)) := (Below.refl _ _).alloc (Nat.le_refl _) _
  have L3 := hide (Blk.new w3 22 #[.slice (some ⟨b, 0, none⟩) 3 3, .slice (some ⟨b + 1, 0, none⟩) 1 1])
  replace HA := hide (HA.out.below hb)
  replace HW := hide (HW.out.trans (hb.mono HW.out.size))
  replace SP := hide (SP.out.below hb)
  replace L1 := hide (L1.out.below hb)
  replace L2 := hide (L2.out.below hb)
  rw [hsz] at L3
  obtain ⟨w4, hw⟩ : ∃ x, w3.alloc (.cells #[.slice (some ⟨b, 0, none⟩) 3 3, .slice (some ⟨b + 1, 0, none⟩) 1 1] 22) = x := ⟨_, rfl⟩
  replace hsz : w4.heap.size = b + 1 + 1 + 1 := by rw [← hw, World.size_alloc, hsz]
  rw [hw] at L3 HA HW SP L1 L2 ⊢
  clear hb hw
  clear hsz
  refine (lists_yes P (some ⟨b + 1 + 1, 0, none⟩) pn 2 pc 2 _ _ SP.out.ill (ILL.two_blk L3.out L1.out.il L2.out.il)).mono ?_
  rintro e w5 ⟨rfl, hb⟩
  replace HA := hide (HA.out.below hb)
  replace HW := hide (HW.out.trans (hb.mono HW.out.size))
  replace SP := hide (SP.out.below hb)
  replace L1 := hide (L1.out.below hb)
  replace L2 := hide (L2.out.below hb)
  replace L3 := hide (L3.out.below hb L3.out.lt)
  clear hb
  clear SP L1 L2 L3
  clear HZb
  go_upto_region 4 with fail
  go_wp2_with fail
  refine (braidFault_any m A n c xs _ HA.out.il HWM.out).mono ?_
  rintro e w6 ⟨rfl, hww⟩
  replace hww := hww.symm
  subst hww
  rw [HFX.out]
  by_cases h0 : fx = 0
  · subst h0
    by_cases h10 : 10 < n
    · go_wp2_with fail
      go_ret
      exact ⟨rfl, HW.out⟩
    have HE := hide (artE_short (n := m) (w := xs) (by have := HL.out; omega))
    rw [HFX.out] at HE
    obtain ⟨hm1, hm6, hxl, hxx⟩ := bfault_zero HFX.out
    obtain ⟨M, rfl⟩ : ∃ M : Nat, m = (M : Int) := ⟨m.toNat, by omega⟩
    have HI : Hid (artI (M : Int) xs = imgs M xs) := hide (by unfold artI; rw [HE.out, if_pos rfl, Int.toNat_natCast])
    have HXX := hide (fun x hx => by have := hxx x hx; omega : ∀ x ∈ xs, x ≠ 0 ∧ x.natAbs ≤ 800)
    have HNF : Hid (∀ k : Nat, artF xs [(k : Int) + 1] = nf (artC xs [(k : Int) + 1])) := hide (fun k => by
      have h := artF_nf (w := xs) (u := [(k : Int) + 1]) (fun x hx => (hxx x hx).1) (fun x hx => by simp at hx; omega)
      rwa [show nf [(k : Int) + 1] = [(k : Int) + 1] from rfl] at h)
    have hM6 : M ≤ 6 := by omega
    have hn12 : n ≤ 12 := by omega
    clear hxx hm1 hm6 hxl
    go_upto_region 7 with fail
    go_wp2_with fail
    refine (HF.out.images M A n c xs _ HA.out HWM.out).mono ?_
    rintro e w7 ⟨P, pn, pc, rfl, hs, hb⟩
    replace HA := hide (HA.out.below hb)
    replace HW := hide (HW.out.trans (hb.mono HW.out.size))
    rw [HE.out]
    rw [HI.out] at hs
    have SP := hide hs
    clear hb hs
    go_upto_region 10 with fail
    skip
    have HST0 := hide (MSt.start w7)
    obtain ⟨i2, hj0, hk0, hk1, hk2⟩ := info_parts rows_info
    have HJ0 := hide hj0
    have HK0 := hide hk0
    have HK1 := hide hk1
    have HK2 := hide hk2
    clear hj0 hk0 hk1 hk2
    go_wp2_with fail
    go_loopw [8, 9] (fun cv kv wr => ∃ (k d : Nat) (C : Option Addr) (vs : List Value), k ≤ M ∧ kv = .int .i64 ((k : Int) + 1) ∧ cv = .slice C k d ∧ Hid (MSt w7 wr C k d vs (imgs k xs))) (fun _ kv _ => M + 1 - (intOf kv).toNat)
    case atStart => exact ⟨0, 0, none, [], Nat.zero_le _, rfl, rfl, HST0⟩
    case round =>
      clear HST0
      obtain ⟨k, d, C, vs, hk, rfl, rfl, HST⟩ := hrel
      have hb := HST.out.below
      replace HA := hide (HA.out.below hb)
      replace HW := hide (HW.out.trans (hb.mono HW.out.size))
      replace SP := hide (SP.out.below hb)
      clear hb
      by_cases hlt : k < M
      · have HS := hide (imgs_succ k xs)
        have HLT := hide hlt
        have hk6 : k ≤ 6 := by omega
        have HKM := hide hk
        clear hk hlt
        have hlt := HLT.out
        go_wp2_with fail
        refine (image_any ((k : Int) + 1) A n c xs _ HA.out (by omega) HXX.out hn12).mono ?_
        rintro e wi ⟨I, ic, id, rfl, ho, hb⟩
        rw [HNF.out] at ho
        have HST2 := hide (HST.out.to hb)
        have HO := hide (ho.mono HST.out.below.size)
        have hbs2 := HST2.out.below.size
        have HOV := hide HST2.out.own
        have hm1 : k + 1 ≤ 1000000 := by omega
        clear ho hb HST
        go_wp2_with (at_builtin; refine wpList_append_val _ rfl (.tmp 48) (.tmp 52) 23 rfl w7.heap.size i2 Try.underlying23 HJ0.out HK0.out HK1.out HK2.out C k d vs rfl (HOV.out.alloc _) ⟨_, 0, none⟩ 1 (.slice I ic id) rfl (by simp [World.cell?_alloc_new]) rfl hm1 (Nat.le_trans hbs2 (by simp)) ?_; intro A9 c9 w9 happ)
        have hN := HST2.out.add HO.out happ
        rw [← HS.out] at hN
        have HN := hide hN
        clear hN happ
        go_roundw
        case rel => exact ⟨k + 1, c9, A9, _, by omega, by go_num, rfl, HN⟩
        case measure => simp [intOf]; omega
      · have hkM : k = M := by omega
        subst hkM
        have HQ := hide HST.out.sll
        clear HST
        go_wp2_with fail
        refine (lists_yes P C pn k pc d _ _ SP.out.ill HQ.out.ill).mono ?_
        rintro e w8 ⟨rfl, hb⟩
        replace HA := hide (HA.out.below hb)
        replace HW := hide (HW.out.trans (hb.mono HW.out.size))
        replace SP := hide (SP.out.below hb)
        replace HQ := hide (HQ.out.below hb)
        clear hb
        go_wp2_with fail
        go_ret
        exact ⟨rfl, HW.out⟩
  · have hfe : (fx == 0) = false := by simpa using h0
    have hff : (fx == fx) = true := by simp
    have HE : Hid (artE m xs = fx) := hide (by unfold artE; rw [if_pos (by rw [HFX.out]; exact h0), HFX.out])
    have HI : Hid (artI m xs = []) := hide (by unfold artI; rw [HE.out, if_neg h0])
    clear h0
    go_upto_region 7 with fail
    go_wp2_with fail
    refine (HF.out.images m A n c xs _ HA.out HWM.out).mono ?_
    rintro e w7 ⟨P, pn, pc, rfl, hs, hb⟩
    replace HA := hide (HA.out.below hb)
    replace HW := hide (HW.out.trans (hb.mono HW.out.size))
    rw [HE.out]
    rw [HI.out] at hs
    have SP := hide hs
    clear hb hs
    go_wp2_with fail
    refine (lists_yes P none pn 0 pc 0 _ _ SP.out.ill (SLL.nil_ _).ill).mono ?_
    rintro e w8 ⟨rfl, hb⟩
    replace HA := hide (HA.out.below hb)
    replace HW := hide (HW.out.trans (hb.mono HW.out.size))
    replace SP := hide (SP.out.below hb)
    clear hb
    go_wp2_with fail
    go_ret
    exact ⟨rfl, HW.out⟩
end Go.Proofs.Ytihpmdfeonphpaa
/- timbmake.Strands; timbkeep1.sides. -/
namespace Go.Proofs.Ytihpmdfeonphpaa
set_option linter.unusedVariables false
set_option linter.unusedSimpArgs false
open Go.RowKit

set_option maxRecDepth 100000 in
theorem strands_any (n : Int) (w : World) : Calls Try.prog 13 #[.int .i64 n, .int .i64 6] w fun e w' => ∃ T : Nat, 1 ≤ T ∧ T ≤ 5 ∧ e = .returned (.int .i64 ((T : Int) + 1)) ∧ w' = w := by
  obtain ⟨p, hp⟩ : ∃ p : Nat, n % 5 = (p : Int) := ⟨(n % 5).toNat, by omega⟩
  have hp5 : p < 5 := by omega
  have HP := hide hp
  have hadd : IntKind.i64.wrap (2 + (p : Int)) = ((p + 1 : Nat) : Int) + 1 := by rw [IntKind.wrap_i64]; omega
  have HA := hide hadd
  clear hp hadd
  go_enter Try.func13, Try.ntmps13
  go_wp2_with fail
  refine (mbelow_any n 5 _ (by omega) (by omega)).mono ?_
  rintro e w1 ⟨rfl, hww⟩
  subst hww
  rw [show n % ((5 : Nat) : Int) = (p : Int) from HP.out]
  go_wp2_with ((with_reducible show wpList _ _ _ (Oper.mk _ (.binOp .add _ _ _) _ _ _ _ :: _) _ _); refine wpList_gives rfl (gives_add rfl rfl rfl HA.out) ?_)
  go_ret
  exact ⟨p + 1, by omega, by omega, by show Ending.returned (.int .i64 (2 + (p : Int))) = _; rw [show (2 : Int) + (p : Int) = ((p + 1 : Nat) : Int) + 1 by omega], rfl⟩

theorem wsum_cons (f : Int → Int) (x : Int) (w : List Int) : wsum f (x :: w) = f x + wsum f w := by simp [wsum]
theorem wsum_nil (f : Int → Int) : wsum f [] = 0 := rfl
/-- Two words that are equal by a relation. -/
structure Side (N : Nat) (xs ys : List Int) : Prop where
  b : RelB xs ys
  e : RelE xs ys
  x : LP.expo xs = LP.expo ys
  ok1 : okB N xs
  ok2 : okB N ys
  l1 : xs.length ≤ 3
  l2 : ys.length ≤ 3
  a : RelA xs ys
theorem side_inv {N : Nat} {a : Int} (h1 : 1 ≤ a) (h2 : a < N) : Side N [a, -a] [] := by
  obtain ⟨m, rfl⟩ : ∃ m : Nat, a = (m : Int) := ⟨a.toNat, by omega⟩
  refine ⟨relB_inv (by omega), relE_x (by omega), ?_, fun x hx => ?_, fun x hx => (by cases hx), (by simp), (by simp), relA_pn (by omega)⟩
  · show wsum Int.sign [_, _] = wsum Int.sign []
    simp only [wsum_cons, wsum_nil, Int.sign_neg]
    omega
  · simp at hx; rcases hx with rfl | rfl <;> omega
theorem side_braid {N : Nat} {a b : Int} (h1 : 1 ≤ a) (h2 : a < N) (h3 : 1 ≤ b) (h4 : b < N) (h : b = a + 1 ∨ a = b + 1) : Side N [a, b, a] [b, a, b] := by
  obtain ⟨m, rfl⟩ : ∃ m : Nat, a = (m : Int) := ⟨a.toNat, by omega⟩
  obtain ⟨k, rfl⟩ : ∃ k : Nat, b = (k : Int) := ⟨b.toNat, by omega⟩
  have ok : ∀ u v : Nat, 1 ≤ u → u < N → 1 ≤ v → v < N → okB N [(u : Int), (v : Int), (u : Int)] := fun u v a1 a2 a3 a4 x hx => by
    simp at hx; rcases hx with rfl | rfl | rfl <;> omega
  have hne : LP.expo [(m : Int), (k : Int), (m : Int)] = 3 ∧ LP.expo [(k : Int), (m : Int), (k : Int)] = 3 := by
    have hm : (0 : Int) < (m : Int) := by omega
    have hk : (0 : Int) < (k : Int) := by omega
    have e1 := Int.sign_eq_one_of_pos hm
    have e2 := Int.sign_eq_one_of_pos hk
    constructor
    · show wsum Int.sign [_, _, _] = 3
      simp only [wsum_cons, wsum_nil, e1, e2]
      rfl
    · show wsum Int.sign [_, _, _] = 3
      simp only [wsum_cons, wsum_nil, e1, e2]
      rfl
  rcases h with h | h
  · obtain rfl : k = m + 1 := by omega
    exact ⟨relB_braid (by omega), relE_braid (by omega), by rw [hne.1, hne.2], ok _ _ (by omega) (by omega) (by omega) (by omega), ok _ _ (by omega) (by omega) (by omega) (by omega), by simp, by simp, relA_braid (by omega)⟩
  · obtain rfl : m = k + 1 := by omega
    exact ⟨(relB_braid (by omega)).symm, fun s => (relE_braid (by omega) s).symm, by rw [hne.1, hne.2], ok _ _ (by omega) (by omega) (by omega) (by omega), ok _ _ (by omega) (by omega) (by omega) (by omega), by simp, by simp, (relA_braid (by omega)).symm⟩
theorem side_comm {N : Nat} {a b : Int} (h1 : 1 ≤ a) (h2 : a < N) (h3 : 1 ≤ b) (h4 : b < N) (h : a + 2 ≤ b ∨ b + 2 ≤ a) : Side N [a, -b] [-b, a] := by
  obtain ⟨m, rfl⟩ : ∃ m : Nat, a = (m : Int) := ⟨a.toNat, by omega⟩
  obtain ⟨k, rfl⟩ : ∃ k : Nat, b = (k : Int) := ⟨b.toNat, by omega⟩
  refine ⟨relB_comm (by omega) (by omega) (by omega), relE_comm (by omega) (by omega) (by omega), ?_, fun x hx => ?_, fun x hx => ?_, by simp, by simp, relA_comm (by omega) (by omega) (by omega)⟩
  · show wsum Int.sign [_, _] = wsum Int.sign [_, _]
    simp only [wsum_cons, wsum_nil]
    omega
  · simp at hx; rcases hx with rfl | rfl <;> omega
  · simp at hx; rcases hx with rfl | rfl <;> omega
/-- Two words out of a function. -/
def GivesSides (N : Nat) (w : World) (e : Ending) (w' : World) : Prop :=
  ∃ A n c B m d xs ys, e = .returned (.tuple #[.slice A n c, .slice B m d]) ∧ SL w' A n c xs ∧ SL w' B m d ys ∧ Side N xs ys ∧ Below w.heap.size w w'
set_option maxRecDepth 100000 in
set_option maxHeartbeats 2000000 in
theorem sides_braid (T : Nat) (hT : 1 ≤ T ∧ T ≤ 5) (i k : Int) (p q : Nat) (w : World) (hp : i % (T : Int) = p) (hq : k % (T : Int) = q) (hp5 : p < 5) (hq5 : q < 5) (h : q = p + 1 ∨ p = q + 1) (HS : Hid (Side (T + 1) [(1 + (p : Int)), (1 + (q : Int)), (1 + (p : Int))] [(1 + (q : Int)), (1 + (p : Int)), (1 + (q : Int))])) :
    Calls Try.prog 43 #[.int .i64 ((T : Int) + 1), .int .i64 i, .int .i64 k] w (GivesSides (T + 1) w) := by
  have HMX : Hid (max (1 + (p : Int) - (1 + (q : Int))) (1 + (q : Int) - (1 + (p : Int))) = 1) := hide (by omega)
  have HMY : Hid (max ((p : Int) - (q : Int)) ((q : Int) - (p : Int)) = 1) := hide (by omega)
  clear h
  have HP := hide hp
  have HQ := hide hq
  clear hp hq
  go_enter Try.func43, Try.ntmps43
  go_wp2_with fail
  refine (mbelow_any i T _ (by omega) (by omega)).mono ?_
  rintro e w1 ⟨rfl, hww⟩
  subst hww
  rw [HP.out]
  go_wp2_with fail
  refine (mbelow_any k T _ (by omega) (by omega)).mono ?_
  rintro e w1 ⟨rfl, hww⟩
  subst hww
  rw [HQ.out]
  go_wp2_with ((with_reducible show wpList _ _ _ (Oper.mk _ (.call { callee := .builtin .max, args := _, argTypes := _ }) _ _ _ _ :: _) _ _); first | refine wpList_gives rfl (gives_maxI rfl rfl rfl HMX.out) ?_ | refine wpList_gives rfl (gives_maxI rfl rfl rfl HMY.out) ?_)
  go_ret2
  have S1 := SL.lit w [(1 + (p : Int)), (1 + (q : Int)), (1 + (p : Int))] (by simp) (cs := #[.int .i64 (1 + (p : Int)), .int .i64 (1 + (q : Int)), .int .i64 (1 + (p : Int))]) rfl (m := 3) rfl
  have h1 : Below w.heap.size w (w.alloc (.cells #[.int .i64 (1 + (p : Int)), .int .i64 (1 + (q : Int)), .int .i64 (1 + (p : Int))] 3)) := (Below.refl _ _).alloc (Nat.le_refl _) _
  have h2 : Below (w.alloc (.cells #[.int .i64 (1 + (p : Int)), .int .i64 (1 + (q : Int)), .int .i64 (1 + (p : Int))] 3)).heap.size (w.alloc (.cells #[.int .i64 (1 + (p : Int)), .int .i64 (1 + (q : Int)), .int .i64 (1 + (p : Int))] 3)) ((w.alloc (.cells #[.int .i64 (1 + (p : Int)), .int .i64 (1 + (q : Int)), .int .i64 (1 + (p : Int))] 3)).alloc (.cells #[.int .i64 (1 + (q : Int)), .int .i64 (1 + (p : Int)), .int .i64 (1 + (q : Int))] 3)) := (Below.refl _ _).alloc (Nat.le_refl _) _
  have S2 := SL.lit (w.alloc (.cells #[.int .i64 (1 + (p : Int)), .int .i64 (1 + (q : Int)), .int .i64 (1 + (p : Int))] 3)) [(1 + (q : Int)), (1 + (p : Int)), (1 + (q : Int))] (by simp) (cs := #[.int .i64 (1 + (q : Int)), .int .i64 (1 + (p : Int)), .int .i64 (1 + (q : Int))]) rfl (m := 3) rfl
  rw [World.size_alloc] at S2
  exact ⟨_, _, _, _, _, _, _, _, rfl, S1.below h2, S2, HS.out, h1.trans (h2.mono h1.size)⟩
set_option maxRecDepth 100000 in
set_option maxHeartbeats 2000000 in
theorem sides_inv (T : Nat) (hT : 1 ≤ T ∧ T ≤ 5) (i k : Int) (p q : Nat) (w : World) (hp : i % (T : Int) = p) (hq : k % (T : Int) = q) (hp5 : p < 5) (hq5 : q < 5) (h : q = p) (HS : Hid (Side (T + 1) [(1 + (p : Int)), -(1 + (p : Int))] [])) :
    Calls Try.prog 43 #[.int .i64 ((T : Int) + 1), .int .i64 i, .int .i64 k] w (GivesSides (T + 1) w) := by
  have HMX : Hid (max (0 : Int) 0 = 0) := hide (by omega)
  have HMY : Hid (max (1 + (p : Int) - (1 + (p : Int))) (1 + (p : Int) - (1 + (p : Int))) = 0) := hide (by omega)
  replace hq : k % (T : Int) = p := by rw [hq, h]
  clear h
  have HP := hide hp
  have HQ := hide hq
  clear hp hq
  go_enter Try.func43, Try.ntmps43
  go_wp2_with fail
  refine (mbelow_any i T _ (by omega) (by omega)).mono ?_
  rintro e w1 ⟨rfl, hww⟩
  subst hww
  rw [HP.out]
  go_wp2_with fail
  refine (mbelow_any k T _ (by omega) (by omega)).mono ?_
  rintro e w1 ⟨rfl, hww⟩
  subst hww
  rw [HQ.out]
  go_wp2_with ((with_reducible show wpList _ _ _ (Oper.mk _ (.call { callee := .builtin .max, args := _, argTypes := _ }) _ _ _ _ :: _) _ _); first | refine wpList_gives rfl (gives_maxI rfl rfl rfl HMX.out) ?_ | refine wpList_gives rfl (gives_maxI rfl rfl rfl HMY.out) ?_)
  go_ret2
  have S1 := SL.lit w [(1 + (p : Int)), (-(1 + (p : Int)))] (by simp) (cs := #[.int .i64 (1 + (p : Int)), .int .i64 (-(1 + (p : Int)))]) rfl (m := 2) rfl
  have h1 : Below w.heap.size w (w.alloc (.cells #[.int .i64 (1 + (p : Int)), .int .i64 (-(1 + (p : Int)))] 3)) := (Below.refl _ _).alloc (Nat.le_refl _) _
  exact ⟨_, _, _, _, _, _, _, _, rfl, S1, SL.nil_ _, HS.out, h1⟩
set_option maxRecDepth 100000 in
set_option maxHeartbeats 2000000 in
theorem sides_comm (T : Nat) (hT : 1 ≤ T ∧ T ≤ 5) (i k : Int) (p q : Nat) (w : World) (hp : i % (T : Int) = p) (hq : k % (T : Int) = q) (hp5 : p < 5) (hq5 : q < 5) (h : q + 2 ≤ p ∨ p + 2 ≤ q) (HS : Hid (Side (T + 1) [(1 + (p : Int)), -(1 + (q : Int))] [-(1 + (q : Int)), (1 + (p : Int))])) :
    Calls Try.prog 43 #[.int .i64 ((T : Int) + 1), .int .i64 i, .int .i64 k] w (GivesSides (T + 1) w) := by
  obtain ⟨D, hD⟩ : ∃ D : Nat, max ((p : Int) - (q : Int)) ((q : Int) - (p : Int)) = D := ⟨(max ((p : Int) - (q : Int)) ((q : Int) - (p : Int))).toNat, by omega⟩
  have hD2 : 2 ≤ D := by omega
  have HMY := hide hD
  have HMX : Hid (max (1 + (p : Int) - (1 + (q : Int))) (1 + (q : Int) - (1 + (p : Int))) = D) := hide (by omega)
  have t1 : ((D : Int) == 1) = false := by simp; omega
  have t2 : ((D : Int) == 0) = false := by simp; omega
  clear h hD
  have HP := hide hp
  have HQ := hide hq
  clear hp hq
  go_enter Try.func43, Try.ntmps43
  go_wp2_with fail
  refine (mbelow_any i T _ (by omega) (by omega)).mono ?_
  rintro e w1 ⟨rfl, hww⟩
  subst hww
  rw [HP.out]
  go_wp2_with fail
  refine (mbelow_any k T _ (by omega) (by omega)).mono ?_
  rintro e w1 ⟨rfl, hww⟩
  subst hww
  rw [HQ.out]
  go_wp2_with ((with_reducible show wpList _ _ _ (Oper.mk _ (.call { callee := .builtin .max, args := _, argTypes := _ }) _ _ _ _ :: _) _ _); first | refine wpList_gives rfl (gives_maxI rfl rfl rfl HMX.out) ?_ | refine wpList_gives rfl (gives_maxI rfl rfl rfl HMY.out) ?_)
  go_ret2
  have S1 := SL.lit w [(1 + (p : Int)), (-(1 + (q : Int)))] (by simp) (cs := #[.int .i64 (1 + (p : Int)), .int .i64 (-(1 + (q : Int)))]) rfl (m := 2) rfl
  have h1 : Below w.heap.size w (w.alloc (.cells #[.int .i64 (1 + (p : Int)), .int .i64 (-(1 + (q : Int)))] 3)) := (Below.refl _ _).alloc (Nat.le_refl _) _
  have h2 : Below (w.alloc (.cells #[.int .i64 (1 + (p : Int)), .int .i64 (-(1 + (q : Int)))] 3)).heap.size (w.alloc (.cells #[.int .i64 (1 + (p : Int)), .int .i64 (-(1 + (q : Int)))] 3)) ((w.alloc (.cells #[.int .i64 (1 + (p : Int)), .int .i64 (-(1 + (q : Int)))] 3)).alloc (.cells #[.int .i64 (-(1 + (q : Int))), .int .i64 (1 + (p : Int))] 3)) := (Below.refl _ _).alloc (Nat.le_refl _) _
  have S2 := SL.lit (w.alloc (.cells #[.int .i64 (1 + (p : Int)), .int .i64 (-(1 + (q : Int)))] 3)) [(-(1 + (q : Int))), (1 + (p : Int))] (by simp) (cs := #[.int .i64 (-(1 + (q : Int))), .int .i64 (1 + (p : Int))]) rfl (m := 2) rfl
  rw [World.size_alloc] at S2
  exact ⟨_, _, _, _, _, _, _, _, rfl, S1.below h2, S2, HS.out, h1.trans (h2.mono h1.size)⟩
theorem sides_any (T : Nat) (hT : 1 ≤ T ∧ T ≤ 5) (i k : Int) (w : World) : Calls Try.prog 43 #[.int .i64 ((T : Int) + 1), .int .i64 i, .int .i64 k] w (GivesSides (T + 1) w) := by
  have m1 := Int.emod_lt_of_pos i (show (0 : Int) < (T : Int) by omega)
  have m2 := Int.emod_nonneg i (show (T : Int) ≠ 0 by omega)
  have m3 := Int.emod_lt_of_pos k (show (0 : Int) < (T : Int) by omega)
  have m4 := Int.emod_nonneg k (show (T : Int) ≠ 0 by omega)
  obtain ⟨p, hp⟩ : ∃ p : Nat, i % (T : Int) = p := ⟨(i % (T : Int)).toNat, by omega⟩
  obtain ⟨q, hq⟩ : ∃ q : Nat, k % (T : Int) = q := ⟨(k % (T : Int)).toNat, by omega⟩
  have c : q = p ∨ (q = p + 1 ∨ p = q + 1) ∨ (q + 2 ≤ p ∨ p + 2 ≤ q) := by omega
  rcases c with h | h | h
  · exact sides_inv T hT i k p q w hp hq (by omega) (by omega) h (hide (side_inv (by omega) (by omega)))
  · exact sides_braid T hT i k p q w hp hq (by omega) (by omega) h (hide (side_braid (by omega) (by omega) (by omega) (by omega) (by omega)))
  · exact sides_comm T hT i k p q w hp hq (by omega) (by omega) h (hide (side_comm (by omega) (by omega) (by omega) (by omega) (by omega)))
end Go.Proofs.Ytihpmdfeonphpaa
/- Maps from integers to integers as lists of terms; a range over one, whatever its order. -/
namespace Go.Proofs.Ytihpmdfeonphpaa
set_option linter.unusedVariables false
set_option linter.unusedSimpArgs false
open Go.RowKit Go.Maps

theorem keyI : Keyed Try.prog 3 := int_keyed Try.underlying3
theorem keyI_mk {x : Int} (h : (Lit.int .i64 x).wf = true) : keyOf Try.prog 3 (.int .i64 x) = some (.int .i64 x) := keyOf_int_mk Try.underlying3 h
theorem wfI {x : Int} (h : x.natAbs ≤ 4000000000000000000) : (Lit.int .i64 x).wf = true := by
  have h1 : IntKind.i64.min = -9223372036854775808 := by decide
  simp [Lit.wf, h1]
  omega
/-- The element at a key. -/
def lookT : List Tm → Int → Option Int
  | [], _ => none
  | (e, c) :: l, x => if e = x then some c else lookT l x
def lookV (o : List Tm) : Value → Option Value
  | .int .i64 x => (lookT o x).map (Value.int .i64)
  | _ => none
theorem lookT_none : ∀ {o : List Tm} {x : Int}, lookT o x = none ↔ ∀ p ∈ o, p.1 ≠ x
  | [], x => by simp [lookT]
  | (e, c) :: l, x => by
    unfold lookT
    by_cases h : e = x
    · rw [if_pos h]; simp [h]
    · rw [if_neg h, lookT_none]; simp [h]
theorem lookT_mem : ∀ {o : List Tm} {x c : Int}, lookT o x = some c → (x, c) ∈ o
  | [], x, c, h => by cases h
  | (e, d) :: l, x, c, h => by
    unfold lookT at h
    by_cases he : e = x
    · rw [if_pos he] at h
      injection h with h
      subst he; subst h
      exact List.mem_cons_self
    · rw [if_neg he] at h
      exact List.mem_cons_of_mem _ (lookT_mem h)
theorem lookT_of_mem : ∀ {o : List Tm} {x c : Int}, (o.map (·.1)).Nodup → (x, c) ∈ o → lookT o x = some c
  | (e, d) :: l, x, c, hn, h => by
    have hn' := List.nodup_cons.1 hn
    unfold lookT
    rcases List.mem_cons.1 h with h | h
    · injection h with h1 h2
      subst h1; subst h2
      rw [if_pos rfl]
    · have : e ≠ x := fun e' => hn'.1 (by rw [e']; exact List.mem_map.2 ⟨(x, c), h, rfl⟩)
      rw [if_neg this]
      exact lookT_of_mem hn'.2 h
theorem coefT_not {o : List Tm} {x : Int} (h : ∀ p ∈ o, p.1 ≠ x) : coefT o x = 0 := by
  induction o with
  | nil => rfl
  | cons p l ih =>
    show (if p.1 = x then p.2 else 0) + coefT l x = 0
    rw [if_neg (h p (by simp)), ih fun q hq => h q (by simp [hq])]
    rfl
theorem coefT_look : ∀ {o : List Tm} {x : Int}, (o.map (·.1)).Nodup → coefT o x = (lookT o x).getD 0
  | [], x, _ => rfl
  | (e, d) :: l, x, hn => by
    have hn' := List.nodup_cons.1 hn
    show (if e = x then d else 0) + coefT l x = _
    unfold lookT
    by_cases h : e = x
    · rw [if_pos h, if_pos h, coefT_not fun p hp e' => hn'.1 (by rw [h, ← e']; exact List.mem_map.2 ⟨p, hp, rfl⟩)]
      show d + 0 = d
      omega
    · rw [if_neg h, if_neg h, coefT_look hn'.2, Int.zero_add]
/-- v is put at x. -/
def putT : List Tm → Int → Int → List Tm
  | [], x, v => [(x, v)]
  | (e, c) :: l, x, v => if e = x then (x, v) :: l else (e, c) :: putT l x v
theorem putT_keys : ∀ (o : List Tm) (x v : Int), ∀ p ∈ putT o x v, p ∈ o ∨ p = (x, v)
  | [], x, v, p, h => .inr (by simpa [putT] using h)
  | (e, c) :: l, x, v, p, h => by
    unfold putT at h
    by_cases he : e = x
    · rw [if_pos he] at h
      rcases List.mem_cons.1 h with h | h
      · exact .inr h
      · exact .inl (List.mem_cons_of_mem _ h)
    · rw [if_neg he] at h
      rcases List.mem_cons.1 h with h | h
      · exact .inl (by rw [h]; exact List.mem_cons_self)
      · rcases putT_keys l x v p h with h | h
        · exact .inl (List.mem_cons_of_mem _ h)
        · exact .inr h
theorem putT_look : ∀ (o : List Tm) (x v y : Int), lookT (putT o x v) y = if y = x then some v else lookT o y
  | [], x, v, y => by
    show (if x = y then some v else none) = if y = x then some v else none
    by_cases h : x = y
    · rw [if_pos h, if_pos h.symm]
    · rw [if_neg h, if_neg fun e => h e.symm]
  | (e, c) :: l, x, v, y => by
    unfold putT
    by_cases he : e = x
    · rw [if_pos he]
      show (if x = y then some v else lookT l y) = if y = x then some v else if e = y then some c else lookT l y
      by_cases h : x = y
      · rw [if_pos h, if_pos h.symm]
      · rw [if_neg h, if_neg fun e' => h e'.symm, if_neg (by omega)]
    · rw [if_neg he]
      show (if e = y then some c else lookT (putT l x v) y) = if y = x then some v else if e = y then some c else lookT l y
      rw [putT_look l x v y]
      by_cases h : e = y
      · rw [if_pos h, if_pos h, if_neg (by omega)]
      · rw [if_neg h, if_neg h]
theorem putT_nodup : ∀ (o : List Tm) (x v : Int), (o.map (·.1)).Nodup → ((putT o x v).map (·.1)).Nodup
  | [], x, v, _ => by simp [putT]
  | (e, c) :: l, x, v, h => by
    have h' := List.nodup_cons.1 h
    unfold putT
    by_cases he : e = x
    · rw [if_pos he]
      subst he
      exact h
    · rw [if_neg he]
      refine List.nodup_cons.2 ⟨fun hm => ?_, putT_nodup l x v h'.2⟩
      obtain ⟨p, hp, e1⟩ := List.mem_map.1 hm
      rcases putT_keys l x v p hp with h1 | h1
      · exact h'.1 (by rw [← show p.1 = e from e1]; exact List.mem_map.2 ⟨p, h1, rfl⟩)
      · rw [h1] at e1
        exact he e1.symm
theorem putT_length : ∀ (o : List Tm) (x v : Int), (putT o x v).length = if (lookT o x).isSome then o.length else o.length + 1
  | [], x, v => rfl
  | (e, c) :: l, x, v => by
    unfold putT lookT
    by_cases he : e = x
    · rw [if_pos he, if_pos he]; rfl
    · rw [if_neg he, if_neg he]
      show (putT l x v).length + 1 = _
      rw [putT_length l x v]
      split <;> rfl
theorem coefT_put {o : List Tm} {x v : Int} (h : (o.map (·.1)).Nodup) (y : Int) : coefT (putT o x v) y = if y = x then v else coefT o y := by
  rw [coefT_look (putT_nodup o x v h), putT_look, coefT_look h]
  split <;> rfl
/-- Distinct keys from a small range are few. -/
theorem nodup_leT {o : List Tm} {E : Nat} (h : (o.map (·.1)).Nodup) (hk : ∀ p ∈ o, p.1.natAbs ≤ E) : o.length ≤ 2 * E + 1 := by
  have h1 : (o.map fun p : Tm => (p.1 + (E : Int)).toNat).Nodup := by
    rw [show (o.map fun p : Tm => (p.1 + (E : Int)).toNat) = (o.map (·.1)).map fun x : Int => (x + (E : Int)).toNat by rw [List.map_map]; rfl]
    unfold List.Nodup at h ⊢
    rw [List.pairwise_map]
    refine h.imp_of_mem fun {a b} ha hb hne e => hne ?_
    obtain ⟨p, hp, rfl⟩ := List.mem_map.1 ha
    obtain ⟨q, hq, rfl⟩ := List.mem_map.1 hb
    have := hk p hp
    have := hk q hq
    have e : (p.1 + (E : Int)).toNat = (q.1 + (E : Int)).toNat := e
    show p.1 = q.1
    omega
  have h2 := nodup_length_le (2 * E + 1) _ h1 fun x hx => by
    obtain ⟨p, hp, rfl⟩ := List.mem_map.1 hx
    have := hk p hp
    show (p.1 + (E : Int)).toNat < 2 * E + 1
    omega
  simpa using h2

/-- Block b is a map with just the entries o. -/
structure MapI (w : World) (b : Nat) (o : List Tm) : Prop where
  dict : Dict Try.prog 3 w b o.length (lookV o)
  nodup : (o.map (·.1)).Nodup
section
variable {w w' : World} {b : Nat} {o : List Tm}
theorem MapI.lt (h : MapI w b o) : b < w.heap.size := h.dict.lt
theorem MapI.below (h : MapI w b o) (hb : Below w.heap.size w w') : MapI w' b o := ⟨h.dict.below hb, h.nodup⟩
theorem MapI.kept {row : Option Nat} (h : MapI w b o) (hg : w.grownBy w' row) (hne : some b ≠ row) : MapI w' b o := ⟨h.dict.kept hg hne, h.nodup⟩
theorem MapI.made (w : World) : MapI (w.alloc (.map #[] 0)) w.heap.size [] := ⟨(Dict.made w _ _).congr rfl fun key kl _ => by unfold lookV; split <;> rfl, List.nodup_nil⟩
theorem MapI.look (h : MapI w b o) {t : TypeId} (ht : Try.prog.underlying t = some (.map 3 3)) {x : Int} (hx : (Lit.int .i64 x).wf = true) :
    (Instr.lookup t (.map (some b)) (.int .i64 x) false).run Try.prog w = .ok (.int .i64 (coefT o x)) w := by
  rw [h.dict.look keyI ht (z := .int .i64 0) (by kernel_rfl) (keyI_mk hx), coefT_look h.nodup]
  have e : lookV o (.int .i64 x) = (lookT o x).map (Value.int .i64) := rfl
  rw [e]
  cases lookT o x <;> rfl
theorem MapI.store (h : MapI w b o) {t : TypeId} (ht : Try.prog.underlying t = some (.map 3 3)) {x v : Int} (hx : (Lit.int .i64 x).wf = true) (hn : o.length < 1000000) :
    ∃ w', (Instr.mapUpdate t (.map (some b)) (.int .i64 x) (.int .i64 v)).run Try.prog w = .ok () w' ∧ MapI w' b (putT o x v) ∧ w.grownBy w' (some b) ∧ w'.heap.size = w.heap.size := by
  obtain ⟨w', h1, h2, h3, h4⟩ := h.dict.store keyI ht (by unfold maxLen; omega) (keyI_mk hx) (.int .i64 v) (f' := lookV (putT o x v)) (by
    show ((lookT (putT o x v) x).map _) = _
    rw [putT_look, if_pos rfl]; rfl) (fun y l hy hne => by
    obtain ⟨z, rfl, _, _⟩ := keyOf_int_inv Try.underlying3 hy
    show ((lookT (putT o x v) z).map _) = (lookT o z).map _
    rw [putT_look, if_neg fun e => hne (by rw [e])])
  refine ⟨w', h1, ⟨h2.congr ?_ fun _ _ _ => rfl, putT_nodup o x v h.nodup⟩, h3, h4⟩
  rw [putT_length]
  show (if ((lookT o x).map (Value.int .i64)).isSome = true then _ else _) = _
  rw [Option.isSome_map]
end

/-! ### a range -/
/-- A range over the map with entries T: done and rem(aining). -/
structure RangeI (w : World) (b r : Nat) (T done rem : List Tm) (cnt : Nat) : Prop where
  nodup : (T.map (·.1)).Nodup
  perm : (done ++ rem).Perm T
  run : ∃ (n : Nat) (D : DataW Value) (left : Lit → Bool), w.ranges Try.prog 3 HR b r n D left cnt ∧ (∀ p ∈ T, ∀ z, D.atKey (.int .i64 p.1) z = .held (.int .i64 p.2)) ∧ (∀ x : Int, (Lit.int .i64 x).wf = true → (left (.int .i64 x) = true ↔ ∃ c, (x, c) ∈ rem)) ∧ ∀ p ∈ T, (Lit.int .i64 p.1).wf = true
section
variable {w w' : World} {b r cnt : Nat} {T done rem : List Tm}
theorem RangeI.kept {row : Option Nat} (h : RangeI w b r T done rem cnt) (hg : w.grownBy w' row) (hb : some b ≠ row) (hr : some r ≠ row) : RangeI w' b r T done rem cnt := by
  obtain ⟨n, D, left, h1, h2⟩ := h.run
  exact ⟨h.nodup, h.perm, n, D, left, h1.kept hg hb hr, h2⟩
theorem RangeI.left_eq (h : RangeI w b r T done rem cnt) : w.rangeLeft b r = cnt := by
  obtain ⟨n, D, left, h1, _⟩ := h.run
  exact h1.left_eq
theorem RangeI.lt (h : RangeI w b r T done rem cnt) : r < w.heap.size := by
  obtain ⟨n, D, left, h1, _⟩ := h.run
  exact h1.lt
theorem RangeI.mem (h : RangeI w b r T done rem cnt) : ∀ p ∈ done, p ∈ T := fun p hp => h.perm.subset (List.mem_append_left _ hp)
end
section
variable (w : World) {ops : Array Oper} {rest : List Oper} {o : Oper} {a : Act} {Q : Exit → Act → World → Prop}
theorem wpList_rangeI (hg : o.guard = none) (m : Operand) (t : TypeId) (hop : o.op = Op.range t m) (ht : Try.prog.underlying t = some (.map 3 3)) (b : Nat) (T : List Tm) (hm : a.eval m = .map (some b)) (h : MapI w b T) (hwf : ∀ p ∈ T, (Lit.int .i64 p.1).wf = true)
    (hK : ∀ w' cnt, RangeI w' b w.heap.size T [] T cnt → w.grownBy w' none → w'.heap.size = w.heap.size + 1 → wpList Try.prog ops Q rest (a.put o.dst (.pointer (some ⟨w.heap.size, 0, none⟩))) w') :
    wpList Try.prog ops Q (o :: rest) a w := by
  obtain ⟨D, hD, hT, hs, hf⟩ := h.dict.own
  refine wpList_range_own w hg m t hop 3 3 keyI ht HR b _ D hm hD fun w' hr hgr hsz => hK w' _ ⟨h.nodup, by simp, _, D, Maps.has D, hr, fun p hp z => ?_, fun x hx => ?_, hwf⟩ hgr hsz
  · have := hf (.int .i64 p.1) _ (keyI_mk (hwf p hp))
    have e : lookV T (.int .i64 p.1) = some (.int .i64 p.2) := by
      show (lookT T p.1).map _ = _
      rw [lookT_of_mem h.nodup (show (p.1, p.2) ∈ T from hp)]; rfl
    rw [e] at this
    exact this.2 z
  · have := hf (.int .i64 x) _ (keyI_mk hx)
    have e : lookV T (.int .i64 x) = (lookT T x).map (Value.int .i64) := rfl
    rw [e] at this
    cases hl : lookT T x with
    | none =>
      rw [hl] at this
      have this : Maps.has D (.int .i64 x) = false := this
      rw [this]
      have h0 := lookT_none.1 hl
      exact ⟨fun h => (by cases h), fun ⟨c, hc⟩ => absurd rfl (h0 _ hc)⟩
    | some c =>
      rw [hl] at this
      have this : Maps.has D (.int .i64 x) = true ∧ _ := this
      exact ⟨fun _ => ⟨c, lookT_mem hl⟩, fun _ => this.1⟩
theorem wpList_nextI (hg : o.guard = none) (it : Operand) (hop : o.op = Op.next it false) (b r : Nat) (T done rem : List Tm) (cnt : Nat) (hit : a.eval it = .pointer (some ⟨r, 0, none⟩)) (h : RangeI w b r T done rem cnt)
    (hDone : rem = [] → wpList Try.prog ops Q rest (a.put o.dst (.tuple #[.bool false])) w)
    (hMore : ∀ (x c : Int) (rem' : List Tm) (w' : World) (cnt' : Nat), rem.Perm ((x, c) :: rem') → RangeI w' b r T (done ++ [(x, c)]) rem' cnt' → cnt' < cnt → w.grownBy w' (some r) → w'.heap.size = w.heap.size →
      (Instr.entry (.pointer (some ⟨r, 0, none⟩))).run Try.prog w' = .ok (.tuple #[.int .i64 x, .int .i64 c]) w' → wpList Try.prog ops Q rest (a.put o.dst (.tuple #[.bool true, .int .i64 x, .int .i64 c])) w') :
    wpList Try.prog ops Q (o :: rest) a w := by
  obtain ⟨n, D, left, h1, h2, h3, h4⟩ := h.run
  refine wpList_next_ranges w hg it hop 3 keyI HR (fun v : Value => v) (fun v : Value => v) (fun key kl _ => ⟨key, rfl⟩) (fun v y _ => ⟨v, rfl⟩) b r n D left cnt hit h1 (fun _ hl => hDone ?_) ?_
  · match rem, h3, h.perm with
    | [], _, _ => rfl
    | (x, c) :: l, h3, hp =>
      have hx := h4 _ (hp.subset (List.mem_append_right _ List.mem_cons_self))
      have := (h3 x hx).2 ⟨c, List.mem_cons_self⟩
      rw [hl] at this
      cases this
  · intro key v kl y w' cnt' hkey hlk hv hat hrg hlt hgr hsz hen
    obtain ⟨x, rfl, rfl, hx⟩ := keyOf_int_inv Try.underlying3 hkey
    obtain ⟨c, hc⟩ := (h3 x hx).1 hlk
    have hmT : (x, c) ∈ T := h.perm.subset (List.mem_append_right _ hc)
    have hvy := HR_inv (v := v) (d := y.1) (ps := y.2) hv
    have e1 := h2 _ hmT (.held v)
    rw [hat, hvy] at e1
    injection e1 with e1
    subst e1
    obtain ⟨l1, l2, hl⟩ := List.append_of_mem hc
    have hp2 : rem.Perm ((x, c) :: (l1 ++ l2)) := by rw [hl]; exact List.perm_middle
    have hperm : (done ++ [(x, c)] ++ (l1 ++ l2)).Perm T := by
      refine List.Perm.trans ?_ h.perm
      rw [List.append_assoc]
      exact List.Perm.append_left done hp2.symm
    have hnd : ((done ++ [(x, c)] ++ (l1 ++ l2)).map (·.1)).Nodup := (hperm.map (·.1)).nodup_iff.2 h.nodup
    refine hMore x c (l1 ++ l2) w' cnt' hp2 ⟨h.nodup, hperm, n, D, _, hrg, h2, fun z hz => ?_, h4⟩ hlt hgr hsz hen
    show (left (.int .i64 z) && !(Lit.int .i64 z).sameKey (.int .i64 x)) = true ↔ _
    have hnx : ∀ d, (x, d) ∉ l1 ++ l2 := fun d hd => by
      rw [List.map_append, List.map_append] at hnd
      have h5 := (List.nodup_append.1 hnd).2.2 x (List.mem_append_right _ (by simp)) x (List.mem_map.2 ⟨(x, d), hd, rfl⟩)
      exact h5 rfl
    by_cases e : z = x
    · subst e
      have : (Lit.int .i64 z).sameKey (.int .i64 z) = true := by simp [Lit.sameKey]
      rw [this]
      simp only [Bool.not_true, Bool.and_false]
      exact ⟨fun h => (by cases h), fun ⟨d, hd⟩ => absurd hd (hnx d)⟩
    · have : (Lit.int .i64 z).sameKey (.int .i64 x) = false := by simp [Lit.sameKey, e]
      rw [this]
      simp only [Bool.not_false, Bool.and_true]
      rw [h3 z hz]
      constructor
      · rintro ⟨d, hd⟩
        refine ⟨d, ?_⟩
        rcases List.mem_cons.1 (hp2.subset hd) with h | h
        · injection h with h _; exact absurd h e
        · exact h
      · rintro ⟨d, hd⟩
        exact ⟨d, hp2.symm.subset (List.mem_cons_of_mem _ hd)⟩
end
end Go.Proofs.Ytihpmdfeonphpaa
