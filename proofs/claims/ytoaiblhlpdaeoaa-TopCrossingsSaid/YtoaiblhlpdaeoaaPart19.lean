/- Several texts in one. -/
import Derived.Test.YtoaiblhlpdaeoaaPart5
import Derived.Test.YtoaiblhlpdaeoaaPart1
import Derived.Test.YtoaiblhlpdaeoaaPart2
import Derived.Test.YtoaiblhlpdaeoaaBase1
import Derived.Test.YtoaiblhlpdaeoaaPart18
import Derived.Test.YtoaiblhlpdaeoaaPart8
import Derived.Test.YtoaiblhlpdaeoaaPart4
/- perm.Rank (out of XRank, beside XGives). -/
namespace Go.Proofs.Ytoaiblhlpdaeoaa
set_option linter.unusedVariables false
set_option linter.unusedSimpArgs false
open Go.RowKit

theorem IL.cutR {w : World} {ad : Addr} {n k : Nat} {xs : List Int} (h : IL w (some ad) n xs) (hk : k ≤ n) : IL w (some (ad.add k)) (n - k) (xs.drop k) := by
  refine ⟨by rw [List.length_drop, h.len], by have := h.small; omega, fun hn => ?_⟩
  obtain ⟨ad', e, hlt, hc⟩ := h.mem (by omega)
  injection e with e
  subst e
  refine ⟨_, rfl, by rw [block_of_add]; exact hlt, fun j hj => ?_⟩
  rw [add_of_add, hc (k + j) (by omega)]
  simp [List.getD, List.getElem?_drop]

set_option maxHeartbeats 1000000 in
theorem rank_ok (A : Option Addr) (n c : Nat) (a : List Nat) (w : World) (ha : IL w A n (zs a)) (hc : n ≤ c) (pa : isP a) (h9 : a.length ≤ 9) :
    Calls Try.prog 46 #[.slice A n c] w fun e w' => e = .returned (.tuple #[.int .i64 (rankN a : Nat), .int .i64 0]) ∧ Below w.heap.size w w' := by
  have HA := hide (pa.pf h9)
  have HL : Hid (a.length = n) := by have := ha.len; rwa [zs_length] at this
  have hn9 : n ≤ 9 := by have := HL.out; omega
  clear h9
  have HP := hide pa
  clear pa
  go_enter Try.func46, Try.ntmps46
  go_wp2_with fail
  refine (check_any _ _ _ _ _ ha).mono ?_
  rw [HA.out]
  rintro e w1 ⟨rfl, hb1⟩
  go_wp2
  go_loopw [5, 16] (fun s i wr => ∃ k : Nat, k ≤ n ∧ i = .int .i64 k ∧ s = .int .i64 (rkGo a k : Nat) ∧ Below w.heap.size w wr) (fun _ i _ => n - (intOf i).toNat)
  case atStart => exact ⟨0, Nat.zero_le _, rfl, rfl, hb1⟩
  case round =>
    obtain ⟨k, hk, rfl, rfl, hnx⟩ := hrel
    have ha' := ha.below hnx
    clear ha
    by_cases hlt : k < n
    · obtain ⟨ad, rfl, hca⟩ := ha'.at_ hlt
      have hcut := ha'.cutR (k := k) (by omega)
      rw [zs_getD] at hca
      have HS : Hid (rkGo a (k + 1) = rkGo a k * (n - k) + cntLt ((zs a).drop k) (a.getD k 0 : Nat)) := by
        rw [rkGo, HL.out]; exact rfl
      have hq := rkGo_mul (a := a) (k := k) (by rw [HL.out]; exact hn9) (by rw [HL.out]; exact hlt)
      have hc9 := cnt_drop_lt (a := a) (k := k) (by rw [HL.out]; exact hlt)
      rw [HL.out] at hq hc9
      have hp0 : (0 : Int) ≤ (rkGo a k : Nat) * ((n - k : Nat) : Int) := by rw [← Int.natCast_mul]; omega
      have hp1 : (rkGo a k : Nat) * ((n - k : Nat) : Int) ≤ 362880 := by rw [← Int.natCast_mul]; omega
      have HM : Hid (((rkGo a k * (n - k) : Nat) : Int) = (rkGo a k : Nat) * ((n - k : Nat) : Int)) := Int.natCast_mul _ _
      have HC := hide (countSmaller_any (some (ad.add k)) (n - k) (c - k) ((zs a).drop k) ((a.getD k 0 : Nat) : Int) wr hcut)
      clear ha' hcut hq
      generalize a.getD k 0 = x at *
      generalize cntLt ((zs a).drop k) ((x : Nat) : Int) = y at *
      generalize rkGo a k = r at *
      go_wp2_with fail
      refine HC.out.mono ?_
      rintro e w' ⟨rfl, rfl⟩
      go_wp2
      go_roundw
      case rel => exact ⟨k + 1, by omega, by go_num, by rw [HS.out]; have := HM.out; rw [show ((r * (n - k) + y : Nat) : Int) = ((r * (n - k) : Nat) : Int) + (y : Int) from by omega, this], hnx⟩
      case measure => simp [intOf]; omega
    · have HF : Hid (rkGo a k = rankN a) := by
        unfold rankN
        rw [HL.out, show k = n from by omega]; exact rfl
      generalize rkGo a k = r at *
      go_wp2
      go_ret2
      rw [HF.out]
      exact ⟨rfl, hnx⟩

end Go.Proofs.Ytoaiblhlpdaeoaa
/- timbmake.Strands for any greatest number; slices.Concat of two slices. -/
namespace Go.Proofs.Ytoaiblhlpdaeoaa
set_option linter.unusedVariables false
set_option linter.unusedSimpArgs false
open Go.RowKit

set_option maxRecDepth 100000 in
theorem strands_gen (n : Int) (K : Nat) (kz : Int) (hkz : kz = (K : Int) + 1) (h1 : 1 ≤ K) (hK : K ≤ 10) (w : World) : Calls Try.prog 23 #[.int .i64 n, .int .i64 kz] w fun e w' => ∃ T : Nat, 1 ≤ T ∧ T ≤ K ∧ e = .returned (.int .i64 ((T : Int) + 1)) ∧ w = w' := by
  subst hkz
  obtain ⟨p, hp⟩ : ∃ p : Nat, n % (K : Int) = (p : Int) := ⟨(n % (K : Int)).toNat, by have := Int.emod_nonneg n (show (K : Int) ≠ 0 by omega); omega⟩
  have hp5 : p < K := by have := Int.emod_lt_of_pos n (show (0 : Int) < (K : Int) by omega); omega
  have HP := hide hp
  have hadd : IntKind.i64.wrap (2 + (p : Int)) = ((p + 1 : Nat) : Int) + 1 := by rw [IntKind.wrap_i64]; omega
  have HA := hide hadd
  have hs1 : (K : Int) + 1 - 1 = (K : Int) := by omega
  have hs2 : IntKind.i64.wrap (K : Int) = (K : Int) := by rw [IntKind.wrap_i64]; omega
  clear hp hadd
  go_enter Try.func23, Try.ntmps23
  go_wp2_with fail
  refine (mbelow_any n K _ h1 (by omega)).mono ?_
  rintro e w1 ⟨rfl, hww⟩
  subst hww
  rw [HP.out]
  go_wp2_with ((with_reducible show wpList _ _ _ (Oper.mk _ (.binOp .add _ _ _) _ _ _ _ :: _) _ _); refine wpList_gives rfl (gives_add rfl rfl rfl HA.out) ?_)
  go_ret
  exact ⟨p + 1, by omega, by omega, by
    have e : IntKind.i64.wrap (2 + (p : Int)) = ((p + 1 : Nat) : Int) + 1 := HA.out
    first | rfl | (simp; omega) | (simp [e]; omega), rfl⟩
theorem concat2_any (A : Option Addr) (n c : Nat) (xs : List Int) (B : Option Addr) (m d : Nat) (ys : List Int) (w : World) (ha : SL w A n c xs) (hb : SL w B m d ys) (hl : xs.length + ys.length ≤ 1000000) :
    Calls Try.prog 29 #[.slice (some ⟨w.heap.size, 0, none⟩) 2 2] (w.alloc (.cells #[.slice A n c, .slice B m d] 22)) fun e w' => ∃ D dn dc, e = .returned (.slice D dn dc) ∧ OwnI w' w.heap.size D dn dc (xs ++ ys) ∧ Below w.heap.size w w' := by
  have hlit := (show ILL (w.alloc (.cells #[.slice A n c, .slice B m d] 22)) (some ⟨w.heap.size, 0, none⟩) 2 [xs, ys] from
    ILL.lit (vs := [.slice A n c, .slice B m d]) rfl (by simp) (fun j hj => by
      match j, hj with
      | 0, _ => exact ⟨_, _, _, rfl, ha.il⟩
      | 1, _ => exact ⟨_, _, _, rfl, hb.il⟩
      | j + 2, h => exact absurd h (by simp)) rfl rfl)
  have hal : Below w.heap.size w (w.alloc (.cells #[.slice A n c, .slice B m d] 22)) := (Below.refl _ _).alloc (Nat.le_refl _) _
  have hfl : [xs, ys].flatten = xs ++ ys := by simp
  refine (concat_any (some ⟨w.heap.size, 0, none⟩) 2 2 _ _ hlit (by rw [hfl, List.length_append]; exact hl)).mono ?_
  rintro e w2 ⟨D, dn, dc, rfl, ho, hb0⟩
  rw [hfl] at ho
  exact ⟨D, dn, dc, rfl, ho.mono hal.size, hal.trans (hb0.mono hal.size)⟩
end Go.Proofs.Ytoaiblhlpdaeoaa
/- timbkeep1.BraidRelations, for a package braid that answers as it should. (Written by tools/gen_brrel.py.) -/
namespace Go.Proofs.Ytoaiblhlpdaeoaa
set_option linter.unusedVariables false
set_option linter.unusedSimpArgs false
open Go.RowKit

theorem buL_congr {n : Nat} {a b : List Int} (h : EqM n (bu n a) (bu n b)) : buL n a = buL n b := by
  unfold buL
  exact List.map_congr_left fun i hi => List.map_congr_left fun j hj => by rw [h i (List.mem_range.1 hi) j (List.mem_range.1 hj)]
theorem okB_append {n : Nat} {a b : List Int} (ha : okB n a) (hb : okB n b) : okB n (a ++ b) := fun x hx => (List.mem_append.1 hx).elim (ha x) (hb x)
theorem bfault_T {T : Nat} (h5 : T ≤ 5) {a : List Int} (ha : okB (T + 1) a) (hl : a.length ≤ 30) : bfault ((T : Int) + 1) a = 0 :=
  bfault_ok (by omega) (by omega) hl fun x hx => by have := ha x hx; omega
theorem burE_T {T : Nat} (h5 : T ≤ 5) {a : List Int} (ha : okB (T + 1) a) (hl : a.length ≤ 16) : burE ((T : Int) + 1) a = 0 := by
  unfold burE
  rw [bfault_T h5 ha (by omega), if_pos rfl, if_neg (by omega)]
theorem burL_T {T : Nat} (h5 : T ≤ 5) {a : List Int} (ha : okB (T + 1) a) (hl : a.length ≤ 16) : burL ((T : Int) + 1) a = buL (T + 1) a := by
  unfold burL
  rw [burE_T h5 ha hl, if_pos rfl]
  rfl
theorem permE_T {T : Nat} (h5 : T ≤ 5) {a : List Int} (ha : okB (T + 1) a) (hl : a.length ≤ 30) : permE ((T : Int) + 1) a = zs (endsL (T + 1) a) := by
  unfold permE
  rw [bfault_T h5 ha hl, if_pos rfl]
  rfl
theorem expoB_T {T : Nat} (h5 : T ≤ 5) {a : List Int} (ha : okB (T + 1) a) (hl : a.length ≤ 30) : expoB ((T : Int) + 1) a = LP.expo a := by
  unfold expoB
  rw [bfault_T h5 ha hl, if_pos rfl]
theorem expo_app (a b : List Int) : LP.expo (a ++ b) = LP.expo a + LP.expo b := wsum_append _ _ _
/-- What is alike in two words that are equal by a relation. -/
structure Alike (T : Nat) (a b : List Int) : Prop where
  fa : bfault ((T : Int) + 1) a = 0
  fb : bfault ((T : Int) + 1) b = 0
  ba : burE ((T : Int) + 1) a = 0
  bb : burE ((T : Int) + 1) b = 0
  perm : permE ((T : Int) + 1) a = permE ((T : Int) + 1) b
  expo : expoB ((T : Int) + 1) a = expoB ((T : Int) + 1) b
  bur : burL ((T : Int) + 1) a = burL ((T : Int) + 1) b
  len : (burL ((T : Int) + 1) a).length = T + 1
theorem alike {T : Nat} (h5 : T ≤ 5) {us vs xs ys : List Int} (h : Side (T + 1) xs ys) (hu : okB (T + 1) us) (hv : okB (T + 1) vs) (lu : us.length ≤ 6) (lv : vs.length ≤ 6) : Alike T (us ++ xs ++ vs) (us ++ ys ++ vs) := by
  have oa := okB_append (okB_append hu h.ok1) hv
  have ob := okB_append (okB_append hu h.ok2) hv
  have la : (us ++ xs ++ vs).length ≤ 16 := by simp only [List.length_append]; have := h.l1; omega
  have lb : (us ++ ys ++ vs).length ≤ 16 := by simp only [List.length_append]; have := h.l2; omega
  refine ⟨bfault_T h5 oa (by omega), bfault_T h5 ob (by omega), burE_T h5 oa la, burE_T h5 ob lb, ?_, ?_, ?_, ?_⟩
  · rw [permE_T h5 oa (by omega), permE_T h5 ob (by omega), h.e.ends]
  · rw [expoB_T h5 oa (by omega), expoB_T h5 ob (by omega), expo_app, expo_app, expo_app, expo_app, h.x]
  · rw [burL_T h5 oa la, burL_T h5 ob lb]
    exact buL_congr (h.b.bu h.ok1 h.ok2 us vs)
  · rw [burL_T h5 oa la]
    simp [buL]

end Go.Proofs.Ytoaiblhlpdaeoaa
/- timbkeep1.BraidHomomorphisms, for a package braid that answers as it should. (Written by tools/gen_brhom.py.) -/
namespace Go.Proofs.Ytoaiblhlpdaeoaa
set_option linter.unusedVariables false
set_option linter.unusedSimpArgs false
open Go.RowKit

theorem endsL_getD {n j : Nat} (w : List Int) (hj : j < n) : (endsL n w).getD j 0 = endE w j := by
  simp [endsL, List.getD, hj]
theorem endE_inj {w : List Int} (h : ∀ x ∈ w, x ≠ 0) {s t : Nat} (e : endE w s = endE w t) : s = t := by
  have h1 := endE_inv w h s
  have h2 := endE_inv w h t
  rw [endE_append] at h1 h2
  rw [← h1, e, h2]
theorem ends_isP {n : Nat} {w : List Int} (h : okB n w) : isP (endsL n w) := by
  refine ⟨fun x hx => ?_, ?_⟩
  · rw [endsL_length]
    obtain ⟨s, hs, rfl⟩ := List.mem_map.1 hx
    exact endE_lt h (List.mem_range.1 hs)
  · unfold endsL
    rw [List.nodup_iff_pairwise_ne, List.pairwise_map]
    exact List.nodup_range.imp fun hne e => hne (endE_inj (fun x hx => (h x hx).1) e)
theorem ends_comp {n : Nat} {x y : List Int} (hx : okB n x) : comp (endsL n x) (endsL n y) = endsL n (x ++ y) := by
  refine list_ext_getD (by rw [comp_length, endsL_length, endsL_length]) fun j hj => ?_
  rw [comp_length, endsL_length] at hj
  rw [comp_getD (by rw [endsL_length]; exact hj), endsL_getD x hj, endsL_getD y (endE_lt hx hj), endsL_getD (x ++ y) hj, endE_append]
end Go.Proofs.Ytoaiblhlpdaeoaa
/- TopCrossings. -/

namespace Go.Proofs.Ytoaiblhlpdaeoaa
set_option linter.unusedVariables false
set_option linter.unusedSimpArgs false
open Go.RowKit Gar

theorem ends_abs (n : Nat) (z : Int) : endsL n [z] = endsL n [(z.natAbs : Int)] := by
  unfold endsL
  refine List.map_congr_left fun s _ => ?_
  show stepE s z = stepE s (z.natAbs : Int)
  unfold stepE
  rw [Int.natAbs_natCast]
theorem sgn_letters : (List.range 7).all (fun N => decide (N < 2) || (List.range N).all fun a => decide (a = 0) || decide (sgnL (cycs (endsL N [(a : Int)])) = -1)) = true := by decide +kernel
theorem sgn_units : (List.range 7).all (fun N => decide (sgnL (cycs (endsL N [])) = 1)) = true := by decide +kernel
theorem sgn_letter {N : Nat} (h2 : 2 ≤ N) (h6 : N ≤ 6) {z : Int} (h0 : z ≠ 0) (hz : z.natAbs < N) : sgnL (cycs (endsL N [z])) = -1 := by
  rw [ends_abs]
  have h := List.all_eq_true.1 sgn_letters N (List.mem_range.2 (by omega))
  rw [decide_eq_false (by omega), Bool.false_or] at h
  have h3 := List.all_eq_true.1 h z.natAbs (List.mem_range.2 hz)
  rw [decide_eq_false (by omega), Bool.false_or] at h3
  exact of_decide_eq_true h3
theorem sgn_word {N : Nat} (h2 : 2 ≤ N) (h6 : N ≤ 6) : ∀ (k : Nat) {x : List Int}, x.length = k → okB N x → sgnL (cycs (endsL N x)) = 1 - 2 * ((k % 2 : Nat) : Int)
  | 0, x, hk, _ => by
    rw [List.eq_nil_of_length_eq_zero hk]
    exact of_decide_eq_true (List.all_eq_true.1 sgn_units N (List.mem_range.2 (by omega)))
  | k + 1, x, hk, hx => by
    obtain ⟨y, z, rfl⟩ : ∃ y z, x = y ++ [z] := by
      rcases List.eq_nil_or_concat x with h | ⟨y, z, h⟩
      · subst h; simp at hk
      · exact ⟨y, z, by rw [h]; simp⟩
    have hy : okB N y := fun a ha => hx a (by simp [ha])
    have hz := hx z (by simp)
    have ozz : okB N [z] := fun a ha => by simp at ha; subst ha; exact hz
    have ih := sgn_word h2 h6 k (x := y) (by simpa using hk) hy
    rw [← ends_comp hy, sgn_comp (ends_isP hy) (ends_isP ozz) (by rw [endsL_length, endsL_length]), ih, sgn_letter h2 h6 hz.1 hz.2]
    omega
theorem permE_N {N : Nat} (h1 : 1 ≤ N) (h6 : N ≤ 6) {a : List Int} (ha : okB N a) (hl : a.length ≤ 30) : permE (N : Int) a = zs (endsL N a) := by
  unfold permE
  rw [if_pos (bf_ok h1 h6 ha hl), Int.toNat_natCast]

set_option maxRecDepth 100000 in
set_option maxHeartbeats 8000000 in
theorem topCrossings_any (F : GarC) (G : ArtinC) (FB : BraidC) (nn : Int) (A : Option Addr) (n c : Nat) (us : List Int) (B : Option Addr) (m d : Nat) (vs : List Int) (w : World) (ha : SL w A n c us) (hb : SL w B m d vs) :
    Calls Try.prog 12 #[.int .i64 nn, .slice A n c, .slice B m d] w fun e w' => e = .returned (.bool true) ∧ Below w.heap.size w w' := by
  have HEQ := hide (equal_top F G)
  have HFB := hide FB
  have HA := hide ha
  have HB := hide hb
  clear F G FB ha hb
  go_enter Try.func12, Try.ntmps12
  go_wp2_with fail
  refine (strands_gen nn 5 6 rfl (by omega) (by omega) w).mono ?_
  rintro e w0 ⟨T, hT1, hT5, rfl, hww⟩
  subst hww
  have hw1 : IntKind.i64.wrap (T : Int) = (T : Int) := by rw [IntKind.wrap_i64]; omega
  have hs1 : (T : Int) + 1 - 1 = (T : Int) := by omega
  go_wp2_with fail
  refine (word_any A T n c 14 us w HA.out.il HA.out.cap (by omega) (by omega) (by omega)).mono ?_
  rintro e w1 ⟨xs, X, xn, xc, rfl, ho, hx, hxn, hb⟩
  have hxl := ho.len
  have SX := hide ho.sl
  replace HB := hide (HB.out.below hb)
  have HW := hide hb
  have hokx := word_okB hx
  clear ho hb hx
  go_wp2_with fail
  refine (word_any B T m d 14 vs w1 HB.out.il HB.out.cap (by omega) (by omega) (by omega)).mono ?_
  rintro e w2 ⟨ys, Y, yn, yc, rfl, ho, hy, hyn, hb⟩
  have hyl := ho.len
  have SY := hide ho.sl
  replace SX := hide (SX.out.below hb)
  replace HW := hide (HW.out.trans (hb.mono HW.out.size))
  have hoky := word_okB hy
  obtain ⟨N, hN⟩ : ∃ N, T + 1 = N := ⟨_, rfl⟩
  rw [hN] at hokx hoky
  have hTi : (T : Int) + 1 = (N : Int) := by omega
  rw [hTi]
  have hN2 : 2 ≤ N := by omega
  have hN6 : N ≤ 6 := by omega
  have hokxy := okB_app hokx hoky
  have lx : xs.length ≤ 30 := by omega
  have ly : ys.length ≤ 30 := by omega
  have lxy : (xs ++ ys).length ≤ 30 := by simp; omega
  have HWM := hide (wfI (x := (N : Int)) (by omega))
  have HFX := hide (bf_ok (by omega) hN6 hokx lx)
  have HFY := hide (bf_ok (by omega) hN6 hoky ly)
  have HFZ := hide (bf_ok (by omega) hN6 hokxy lxy)
  have HPX := hide (permE_N (by omega) hN6 hokx lx)
  have HPY := hide (permE_N (by omega) hN6 hoky ly)
  have HPZ := hide (permE_N (by omega) hN6 hokxy lxy)
  have HIX := hide (ends_isP hokx)
  have HIY := hide (ends_isP hoky)
  have HIZ := hide (ends_isP hokxy)
  have HCM := hide (ends_comp (y := ys) hokx)
  have HSG := hide (sgn_word hN2 hN6 xn hxl hokx)
  have HLX : Hid ((endsL N xs).length = N) := hide (endsL_length _ _)
  have HLY : Hid ((endsL N ys).length = N) := hide (endsL_length _ _)
  have HLZ : Hid ((endsL N (xs ++ ys)).length = N) := hide (endsL_length _ _)
  have HLL := hide lxy
  clear ho hb hy HA HB hw1 hs1 hN hTi hT1 hT5 hokx hoky hokxy lx ly lxy hxl hyl
  generalize endsL N xs = p at *
  generalize endsL N ys = q at *
  generalize endsL N (xs ++ ys) = r at *
  go_wp2_with fail
  refine (HFB.out.perm (N : Int) X xn xc xs w2 SX.out HWM.out).mono ?_
  rintro e w3 ⟨P, pn, pc, rfl, hs, hb⟩
  rw [HFX.out]
  rw [HPX.out] at hs
  have SP := hide hs.il
  replace SX := hide (SX.out.below hb)
  replace SY := hide (SY.out.below hb)
  replace HW := hide (HW.out.trans (hb.mono HW.out.size))
  clear hs hb
  go_upto_region 4 with fail
  go_wp2_with fail
  refine (HFB.out.perm (N : Int) Y yn yc ys w3 SY.out HWM.out).mono ?_
  rintro e w4 ⟨Q, qn, qc, rfl, hs, hb⟩
  rw [HFY.out]
  rw [HPY.out] at hs
  have SQ := hide hs.il
  replace SX := hide (SX.out.below hb)
  replace SY := hide (SY.out.below hb)
  replace SP := hide (SP.out.below hb)
  replace HW := hide (HW.out.trans (hb.mono HW.out.size))
  clear hs hb
  go_upto_region 5 with fail
  go_wp2_with fail
  refine (concat2_any X xn xc _ Y yn yc _ w4 SX.out SY.out (by have := HLL.out; rw [List.length_append] at this; omega)).mono ?_
  rintro e w5 ⟨Z, zn, zc, rfl, ho, hb⟩
  replace SP := hide (SP.out.below hb)
  replace SQ := hide (SQ.out.below hb)
  replace HW := hide (HW.out.trans (hb.mono HW.out.size))
  have SZ := hide ho.sl
  clear hb ho SX SY
  go_wp2_with fail
  refine (HFB.out.perm (N : Int) Z zn zc _ w5 SZ.out HWM.out).mono ?_
  rintro e w6 ⟨R, rn, rc, rfl, hs, hb⟩
  rw [HFZ.out]
  rw [HPZ.out] at hs
  have SR := hide hs.il
  have HRC := hide hs.cap
  replace SP := hide (SP.out.below hb)
  replace SQ := hide (SQ.out.below hb)
  replace HW := hide (HW.out.trans (hb.mono HW.out.size))
  clear hs hb SZ
  go_upto_region 6 with fail
  go_wp2_with fail
  refine (sign_ok P pn pc p w6 SP.out HIX.out (by rw [HLX.out]; omega)).mono ?_
  rintro e w7 ⟨rfl, hb⟩
  rw [HSG.out]
  replace SP := hide (SP.out.below hb)
  replace SQ := hide (SQ.out.below hb)
  replace SR := hide (SR.out.below hb)
  replace HW := hide (HW.out.trans (hb.mono HW.out.size))
  clear hb HSG
  go_upto_region 7 with fail
  go_wp2_with fail
  refine (compose_ok P Q pn qn pc qc p q w7 SP.out SQ.out HIX.out HIY.out (by rw [HLX.out, HLY.out]) (by rw [HLX.out]; omega)).mono ?_
  rintro e w8 ⟨C, cn, cc, rfl, ho, hb⟩
  rw [HCM.out] at ho
  have SC := hide ho.il
  have HCC := hide ho.sl.cap
  replace SR := hide (SR.out.below hb)
  replace HW := hide (HW.out.trans (hb.mono HW.out.size))
  clear hb ho SP SQ
  go_upto_region 8 with fail
  go_wp2_with fail
  refine (rank_ok C cn cc r w8 SC.out HCC.out HIZ.out (by rw [HLZ.out]; omega)).mono ?_
  rintro e w9 ⟨rfl, hb⟩
  replace SR := hide (SR.out.below hb)
  replace HW := hide (HW.out.trans (hb.mono HW.out.size))
  clear hb
  go_upto_region 9 with fail
  go_wp2_with fail
  refine (rank_ok R rn rc r w9 SR.out HRC.out HIZ.out (by rw [HLZ.out]; omega)).mono ?_
  rintro e w10 ⟨rfl, hb⟩
  replace HW := hide (HW.out.trans (hb.mono HW.out.size))
  clear hb SC SR
  generalize rankN r = rk at *
  go_upto_region 10 with fail
  go_wp2_with fail
  refine (HEQ.out w10).mono ?_
  rintro e w11 ⟨rfl, hb⟩
  replace HW := hide (HW.out.trans (hb.mono HW.out.size))
  clear hb
  obtain ⟨o, ho⟩ : ∃ o : Nat, xn % 2 = o := ⟨_, rfl⟩
  have ho2 : o < 2 := by omega
  have hand : bits BinOp.and IntKind.i64 (xn : Int) 1 = (o : Int) := by
    rw [i64_and1 (xn : Int), ← ho]
    omega
  rw [show (xn : Int) % 2 = (o : Int) by omega]
  have h1 : IntKind.i64.wrap (2 * (o : Int)) = 2 * (o : Int) := by rw [IntKind.wrap_i64]; omega
  have h2 : IntKind.i64.wrap (1 - 2 * (o : Int)) = 1 - 2 * (o : Int) := by rw [IntKind.wrap_i64]; omega
  have h3 : ((1 - 2 * (o : Int)) == (1 - 2 * (o : Int))) = true := by simp
  have h4 : ((rk : Int) == (rk : Int)) = true := by simp
  have HAND := hide hand
  clear ho hand
  go_wp2_with (simp only [HAND.out])
  go_ret
  exact ⟨rfl, HW.out⟩
end Go.Proofs.Ytoaiblhlpdaeoaa
