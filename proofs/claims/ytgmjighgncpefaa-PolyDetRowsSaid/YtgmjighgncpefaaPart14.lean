/- Several texts of the walk in one. -/
import Derived.Test.YtgmjighgncpefaaPart9
import Derived.Test.YtgmjighgncpefaaPart13
import Derived.Test.YtgmjighgncpefaaPart6
import Derived.Test.YtgmjighgncpefaaPart7
import Derived.Test.YtgmjighgncpefaaBase
/- timbkeep1.PolyDetRows, for packages polymatrix and laurent that answer as they should. (Written by tools/gen_pdrows.py.) -/
namespace Go.Proofs.Ytgmjighgncpefaa
set_option linter.unusedVariables false
set_option linter.unusedSimpArgs false
open Go.RowKit

theorem pe_wf {raw : List (List Int)} {q : Nat} {lo : Int} {ps : List Int} (h : cP (pe raw q) = (lo, ps)) : (Lit.int .i64 lo).wf = true := by
  have h1 : LP.Rt (pe raw q) := (pe_n1 raw q).rt (by omega) (by omega)
  have h2 := h1.wf
  rw [show (LP.canon (pe raw q)).1 = lo from congrArg Prod.fst h] at h2
  exact h2
theorem cP_wf {x : LP} {lo : Int} {ps : List Int} (hr : LP.Rt x) (h : cP x = (lo, ps)) : (Lit.int .i64 lo).wf = true := by
  have h2 := hr.wf
  rw [show (LP.canon x).1 = lo from congrArg Prod.fst h] at h2
  exact h2
theorem diag_mul {raw : List (List Int)} {N r q : Nat} {dl lo : Int} {ds ps : List Int} (hN : N ≤ 3) (hr : r < N) (hd : cP (diagP (peT raw N) r) = (dl, ds)) (hp : cP (pe raw q) = (lo, ps)) (hq : q = r * N + r) :
    LP.mulR dl ds lo ps = (0, (cP (diagP (peT raw N) (r + 1))).1, (cP (diagP (peT raw N) (r + 1))).2) := by
  have h1 : (LP.canon (diagP (peT raw N) r)).1 = dl := congrArg Prod.fst hd
  have h2 : (LP.canon (diagP (peT raw N) r)).2 = ds := congrArg Prod.snd hd
  have h3 : (LP.canon (pe raw q)).1 = lo := congrArg Prod.fst hp
  have h4 : (LP.canon (pe raw q)).2 = ps := congrArg Prod.snd hp
  have e : diagP (peT raw N) (r + 1) = diagP (peT raw N) r * pe raw q := by
    show diagP (peT raw N) r * peT raw N r r = _
    unfold peT
    rw [if_neg (by omega), hq]
  have h := LP.mulR_canon (diag_rt raw N (k := r) (by omega)) ((pe_n1 raw q).rt (by omega) (by omega)) (by rw [← e]; exact diag_rt raw N (by omega))
  rw [h1, h2, h3, h4] at h
  rw [h, ← e]
  rfl
theorem take_min {xs : List Int} {m K : Nat} (h : min m 4 = K) (hl : xs.length = m) : xs.take K = xs.take 4 := by
  rcases Nat.lt_or_ge m 4 with h1 | h1
  · rw [List.take_of_length_le (i := K) (by omega), List.take_of_length_le (i := 4) (by omega)]
  · rw [show K = 4 by omega]
theorem negdet_rt (raw : List (List Int)) {n : Nat} (hn : n ≤ 3) : LP.Rt (-(detR n (peM raw n))) :=
  (LP.N1.detR (M := peM raw n) fun i _ j _ => pe_n1 raw _).neg.rt (by have : n * 14 ≤ 3 * 14 := Nat.mul_le_mul_right _ hn; omega) (Nat.le_trans (fct3 hn) (by omega))
theorem add_neg_canon {raw : List (List Int)} {n : Nat} {d1 d2 : Int} {s1 s2 : List Int} (hn : n ≤ 3) (h1 : LP.canon (detR n (peM raw n)) = (d1, s1)) (h2 : LP.canon (-(detR n (peM raw n))) = (d2, s2)) : LP.addR d1 s1 d2 s2 = (0, 0, []) := by
  have h := LP.addR_canon (det_rt (M := peM raw n) hn fun i _ j _ => pe_n1 raw _) (negdet_rt raw hn) (by rw [CR.add_neg]; exact LP.N1.zero.rt (by omega) (by omega))
  rw [h1, h2, CR.add_neg, LP.canon_zero] at h
  exact h
def swapP (xss : List (List Po)) (x y : Nat) : List (List Po) := (xss.set x (xss.getD y [])).set y (xss.getD x [])
theorem swapP_get {xss : List (List Po)} {x y : Nat} (hx : x < xss.length) (hy : y < xss.length) (i : Nat) : (swapP xss x y).getD i [] = if i = y then xss.getD x [] else if i = x then xss.getD y [] else xss.getD i [] := by
  unfold swapP
  by_cases h1 : i = y
  · subst h1
    rw [if_pos rfl]
    simp [List.getD, hy]
  · rw [if_neg h1]
    by_cases h2 : i = x
    · subst h2
      rw [if_pos rfl]
      simp [List.getD, List.getElem?_set, hx, Ne.symm h1]
    · rw [if_neg h2]
      simp [List.getD, List.getElem?_set, Ne.symm h1, Ne.symm h2]
theorem swapP_mP {xss : List (List Po)} {x y : Nat} (hx : x < xss.length) (hy : y < xss.length) (i : Nat) : mP (swapP xss x y) i = swapR (mP xss) x y i := by
  funext j
  unfold mP swapR updR
  rw [swapP_get hx hy]
  by_cases h1 : i = y
  · rw [if_pos h1, if_pos h1]
  · rw [if_neg h1, if_neg h1]
    by_cases h2 : i = x
    · rw [if_pos h2, if_pos h2]
    · rw [if_neg h2, if_neg h2]
theorem swap_det (raw : List (List Int)) {n x y : Nat} (hn : n ≤ 3) (hx : x < n) (hy : y < n) (hxy : x ≠ y) :
    detPR (swapP (mM raw n n) x y) = (0, (LP.canon (-(detR n (peM raw n)))).1, (LP.canon (-(detR n (peM raw n)))).2) := by
  have hl : (swapP (mM raw n n) x y).length = n := by unfold swapP; rw [List.length_set, List.length_set, mM_len]
  have hxl : x < (mM raw n n).length := by rw [mM_len]; exact hx
  have hyl : y < (mM raw n n).length := by rw [mM_len]; exact hy
  have hsq := sqE_zero (mM_sq raw n (by omega))
  rw [mM_len] at hsq
  refine detPR_rt (sqE_all (by rw [hl]; omega) fun r hr => ?_) ?_ (negdet_rt raw hn)
  · obtain ⟨i, hi, rfl⟩ := List.getElem_of_mem hr
    have h1 := swapP_get hxl hyl i
    rw [getD_of_lt [] hi] at h1
    rw [hl] at hi ⊢
    rw [h1]
    split
    · rw [getD_of_lt [] hxl]; exact hsq.2 _ (List.getElem_mem _)
    · split
      · rw [getD_of_lt [] hyl]; exact hsq.2 _ (List.getElem_mem _)
      · rw [getD_of_lt [] (by rw [mM_len]; exact hi)]; exact hsq.2 _ (List.getElem_mem _)
  · rw [hl]
    have h := (detR_alt (R := LP) n).swap (peM raw n) hx hy hxy
    rw [← h]
    refine detR_congr fun i hi j hj => ?_
    rw [swapP_mP hxl hyl]
    unfold swapR updR
    by_cases h1 : i = y
    · rw [if_pos h1, if_pos h1]; exact mP_mM raw n x hx j hj
    · rw [if_neg h1, if_neg h1]
      by_cases h2 : i = x
      · rw [if_pos h2, if_pos h2]; exact mP_mM raw n y hy j hj
      · rw [if_neg h2, if_neg h2]; exact mP_mM raw n i hi j hj
theorem ePoly : ∀ args w, (callFunc 14 args).run Try.prog w = .ok (.enter 14 args) w := enters (fn := Try.f14) (by kernel_rfl) (by kernel_rfl) (by kernel_rfl)

set_option maxRecDepth 100000 in
set_option maxHeartbeats 16000000 in
theorem polyDetRows_any (FP : PolyC) (F : PmC) (RA : Option Addr) (rn rcap : Nat) (n0 i0 k0 : Int) (raw : List (List Int)) (w : World) (ha : SLL w RA rn rcap raw) :
    Calls Try.prog 4 #[.int .i64 n0, .slice RA rn rcap, .int .i64 i0, .int .i64 k0] w fun e w' => e = .returned (.bool true) ∧ Below w.heap.size w w' := by
  have HFP := hide FP
  have HF := hide F
  have HA := hide ha
  have HL := hide ha.len
  have HSMALL := hide ha.small
  obtain ⟨j2, hj2, hj22⟩ : ∃ j : Nat, j < 2 ∧ n0 % ((2 : Nat) : Int) = (j : Int) := ⟨(n0 % 2).toNat, by omega, by omega⟩
  have HMN : Hid (∀ w, Calls Try.prog 13 #[.int .i64 n0, .int .i64 2] w fun e w' => e = .returned (.int .i64 j2) ∧ w = w') := hide (fun w => by
    have h := mbelow_any n0 2 w (by omega) (by omega)
    rw [hj22] at h
    exact h)
  obtain ⟨N, hN⟩ : ∃ N, 2 + j2 = N := ⟨_, rfl⟩
  have hN1 : 2 ≤ N := by omega
  have hN3 : N ≤ 3 := by omega
  have hjN : (2 : Int) + (j2 : Int) = (N : Int) := by omega
  obtain ⟨x, hx, hx2⟩ : ∃ x : Nat, x < N ∧ i0 % ((N : Nat) : Int) = (x : Int) := ⟨(i0 % N).toNat, by
    have := Int.emod_nonneg i0 (show (N : Int) ≠ 0 by omega)
    have := Int.emod_lt_of_pos i0 (show (0 : Int) < (N : Int) by omega)
    omega, by
    have := Int.emod_nonneg i0 (show (N : Int) ≠ 0 by omega)
    omega⟩
  have HMI : Hid (∀ w, Calls Try.prog 13 #[.int .i64 i0, .int .i64 N] w fun e w' => e = .returned (.int .i64 x) ∧ w = w') := hide (fun w => by
    have h := mbelow_any i0 N w (by omega) (by omega)
    rw [hx2] at h
    exact h)
  obtain ⟨b, hb, hb2⟩ : ∃ b : Nat, b < N - 1 ∧ k0 % ((N - 1 : Nat) : Int) = (b : Int) := ⟨(k0 % ((N - 1 : Nat) : Int)).toNat, by
    have := Int.emod_nonneg k0 (show ((N - 1 : Nat) : Int) ≠ 0 by omega)
    have := Int.emod_lt_of_pos k0 (show (0 : Int) < ((N - 1 : Nat) : Int) by omega)
    omega, by
    have := Int.emod_nonneg k0 (show ((N - 1 : Nat) : Int) ≠ 0 by omega)
    omega⟩
  have HMK : Hid (∀ w, Calls Try.prog 13 #[.int .i64 k0, .int .i64 ((N : Int) - 1)] w fun e w' => e = .returned (.int .i64 b) ∧ w = w') := hide (fun w => by
    have h := mbelow_any k0 (N - 1) w (by omega) (by omega)
    rw [hb2, show ((N - 1 : Nat) : Int) = (N : Int) - 1 by omega] at h
    exact h)
  obtain ⟨y, hy⟩ : ∃ y, (x + 1 + b) % N = y := ⟨_, rfl⟩
  have hyk : y < N := by rw [← hy]; exact Nat.mod_lt _ (by omega)
  have hxy : x ≠ y := by
    rw [← hy]
    by_cases h : x + 1 + b < N
    · rw [Nat.mod_eq_of_lt h]; omega
    · rw [Nat.mod_eq_sub_mod (by omega), Nat.mod_eq_of_lt (by omega)]; omega
  have hyi : ((x : Int) + 1 + (b : Int)).tmod (N : Int) = (y : Int) := by
    rw [Int.tmod_eq_emod_of_nonneg (by omega), ← hy]
    push_cast
    rfl
  have HYI := hide hyi
  have HXY := hide hxy
  have hbN : b < N := by omega
  have HW := hide (Below.refl w.heap.size w)
  clear FP F ha hj22 hN hx2 hb2 hy hxy hyi hb
  obtain ⟨ip, hip, hpz0, hpz1, hpz2⟩ := info_parts polys_info
  obtain ⟨ir, hir, hrz0, hrz1, hrz2⟩ := info_parts prows_info
  have HIP := hide hip
  have HPZ0 := hide hpz0
  have HPZ1 := hide hpz1
  have HPZ2 := hide hpz2
  have HIR := hide hir
  have HRZ0 := hide hrz0
  have HRZ1 := hide hrz1
  have HRZ2 := hide hrz2
  clear hip hpz0 hpz1 hpz2 hir hrz0 hrz1 hrz2
  go_enter Try.func4, Try.ntmps4
  go_wp2_with fail
  refine (HMN.out _).mono ?_
  rintro e w1 ⟨rfl, rfl⟩
  clear HMN hj2
  go_upto_region 5 with fail
  obtain ⟨c4, hsz⟩ : ∃ q, w.heap.size = q := ⟨_, rfl⟩
  have HZc4 := hide hsz
  rw [hsz] at  ⊢
  have hb : Below w.heap.size w (w.alloc (.cells #[.int .i64 1] 3)) := (Below.refl _ _).alloc (Nat.le_refl _) _
  have S1 : Hid (SL (w.alloc (.cells #[.int .i64 1] 3)) (some ⟨w.heap.size, 0, none⟩) 1 1 [1]) := hide (SL.lit w [1] (by decide) rfl rfl)
  replace HW := hide (HW.out.trans (hb.mono HW.out.size))
  rw [hsz] at S1
  obtain ⟨w2, hw⟩ : ∃ x, w.alloc (.cells #[.int .i64 1] 3) = x := ⟨_, rfl⟩
  replace hsz : w2.heap.size = c4 + 1 := by rw [← hw, World.size_alloc, hsz]
  rw [hw] at S1 HW ⊢
  clear hb hw
  have hb : Below w2.heap.size w2 (w2.alloc (.cells #[.int .i64 0, .slice (some ⟨c4, 0, none⟩) 1 1] 25)) := (Below.refl _ _).alloc (Nat.le_refl _) _
  have B12 := hide (Blk.new w2 25 #[.int .i64 0, .slice (some ⟨c4, 0, none⟩) 1 1])
  replace HW := hide (HW.out.trans (hb.mono HW.out.size))
  replace S1 := hide (S1.out.below hb)
  rw [hsz] at B12
  obtain ⟨w3, hw⟩ : ∃ x, w2.alloc (.cells #[.int .i64 0, .slice (some ⟨c4, 0, none⟩) 1 1] 25) = x := ⟨_, rfl⟩
  replace hsz : w3.heap.size = c4 + 1 + 1 := by rw [← hw, World.size_alloc, hsz]
  rw [hw] at B12 HW S1 ⊢
  clear hb hw
  clear hsz
  have HC4 : Hid (w.heap.size ≤ c4 + 1) := hide (by have := HZc4.out; omega)
  have HJ0 : Hid (J4 (c4 + 1) w.heap.size none w3 none none none none 0 0 0 0 0 0 0 0 [] [] [] [] [] [] [] [] (some ⟨c4, 0, none⟩) 1 1 0 [1]) := hide (J4.start B12.out S1.out (by intro ad e; injection e with e; subst e; simp) )
  clear S1 B12
  have HD0 : Hid (cP (diagP (peT raw N) 0) = (0, [1])) := hide (by show (_, _) = _; rw [show diagP (peT raw N) 0 = LP.term 0 1 from rfl, LP.canon_term1])
  go_wp2_with fail
  go_loopw [9, 10, 11, 33] (fun mv tv av iv wr => ∃ (r : Nat) (M T : Option Addr) (mc tc : Nat) (vm vt : List Value) (D : Option Addr) (dn dd : Nat) (dl : Int) (ds : List Int), iv = .int .i64 r ∧ r ≤ N ∧ mv = .slice M r mc ∧ tv = .slice T r tc ∧ av = .int .i64 ((r * N : Nat) : Int) ∧ Hid (J4 (c4 + 1) w.heap.size none wr M T none none r r 0 0 mc tc 0 0 vm vt [] [] (mM raw N r) (mT raw N r) [] [] D dn dd dl ds) ∧ Hid (cP (diagP (peT raw N) r) = (dl, ds)) ∧ Hid (Below w.heap.size w wr)) (fun _ _ _ iv _ => N - (intOf iv).toNat)
  case atStart => exact ⟨0, none, none, 0, 0, [], [], some ⟨c4, 0, none⟩, 1, 1, 0, [1], rfl, Nat.zero_le _, rfl, rfl, by rw [Nat.zero_mul]; rfl, HJ0, HD0, HW⟩
  case round =>
    obtain ⟨r, M, T, mc, tc, vm, vt, D, dn, dd, dl, ds, rfl, hr, rfl, rfl, rfl, HJ, HD, HWr⟩ := hrel
    clear HJ0 HD0
    by_cases hlt : r < N
    · rename World => wo
      have HR := hide hr
      clear hr
      have HJ0 : Hid (J4 (c4 + 1) w.heap.size none wo M T none none r r 0 0 mc tc 0 0 vm vt [] [] (mM raw N r) (mT raw N r) (rM raw N r 0) (rT raw N r 0) D dn dd dl ds) := HJ
      have HD0 : Hid (cP (diagP (peT raw N) (if r < 0 then r + 1 else r)) = (dl, ds)) := hide (by rw [if_neg (by omega)]; exact HD.out)
      go_wp2_with fail
      go_loopw [11, 14, 15, 37] (fun av rv lv jv wx => ∃ (j : Nat) (C E : Option Addr) (cc ec : Nat) (vc ve : List Value) (D : Option Addr) (dn dd : Nat) (dl : Int) (ds : List Int), jv = .int .i64 j ∧ j ≤ N ∧ rv = .slice C j cc ∧ lv = .slice E j ec ∧ av = .int .i64 ((r * N + j : Nat) : Int) ∧ Hid (J4 (c4 + 1) w.heap.size none wx M T C E r r j j mc tc cc ec vm vt vc ve (mM raw N r) (mT raw N r) (rM raw N r j) (rT raw N r j) D dn dd dl ds) ∧ Hid (cP (diagP (peT raw N) (if r < j then r + 1 else r)) = (dl, ds)) ∧ Hid (Below w.heap.size w wx)) (fun _ _ _ jv _ => N - (intOf jv).toNat)
      case atStart => exact ⟨0, none, none, 0, 0, [], [], D, dn, dd, dl, ds, rfl, Nat.zero_le _, rfl, rfl, by rw [Nat.add_zero], HJ0, HD0, HWr⟩
      case round =>
        clear HJ0 HD0 HJ HD HWr
        obtain ⟨j, C, E, cc, ec, vc, ve, D, dn, dd, dl, ds, rfl, hj, rfl, rfl, rfl, HJ, HD, HWx⟩ := hrel
        by_cases hjn : j < N
        · obtain ⟨q, hq⟩ : ∃ q, r * N + j = q := ⟨_, rfl⟩
          rw [hq]
          have HQ := hide hq
          have hq2 : q < 10 := by rw [← hq]; have : r * N ≤ 2 * 3 := Nat.mul_le_mul (by omega) hN3; omega
          clear hq
          go_upto_region 13 with fail
          have HB17 := hide (Blk.new wr 25 #[.int .i64 0, .slice none 0 0])
          have hbw := HWx.out.size
          replace HJ := hide (HJ.out.newP (.cells #[.int .i64 0, .slice none 0 0] 25))
          replace HWx := hide (HWx.out.alloc HWx.out.size (.cells #[.int .i64 0, .slice none 0 0] 25))
          have hsz1 : (wr.alloc (.cells #[.int .i64 0, .slice none 0 0] 25)).heap.size = wr.heap.size + 1 := by simp
          obtain ⟨b17, hb17⟩ : ∃ b, wr.heap.size = b := ⟨_, rfl⟩
          obtain ⟨x1, hx1⟩ : ∃ z, wr.alloc (.cells #[.int .i64 0, .slice none 0 0] 25) = z := ⟨_, rfl⟩
          rw [hx1] at HB17 HJ HWx hsz1 ⊢
          rw [hb17] at HB17 HJ hsz1 hbw ⊢
          have HB17W := hide hbw
          have HSZ1 := hide hsz1
          clear hx1 hb17 hbw hsz1
          by_cases hin : q < rn
          · obtain ⟨ad, B, m, d, hRA, hcl0, hsl0⟩ := HA.out.at_ hin
            subst hRA
            have hal : ad.block < w.heap.size := by have := World.block_lt_of_cell? w _ hcl0; rwa [block_of_add] at this
            have hcl : x1.cell? (ad.add q) = some (.slice B m d) := (HWx.out.cell (p := ad.add q) (by rw [block_of_add]; exact hal)).trans hcl0
            have HSL := hide (hsl0.below HWx.out)
            have HCL := hide hcl
            have HAL : Hid (ad.block < b17) := hide (by have := HB17W.out; omega)
            have HPE : Hid (pe raw q = mkP q ((raw.getD q []).take 4)) := hide (by unfold pe; rw [if_pos (by rw [HL.out]; exact hin)])
            generalize raw.getD q [] = xs at *
            have hml := HSL.out.il.len
            have hmc := HSL.out.cap
            have hmsm := HSL.out.il.small
            obtain ⟨K, hK⟩ : ∃ K, min m 4 = K := ⟨_, rfl⟩
            have hKm : K ≤ m := by omega
            have hmin : min (m : Int) 4 = (K : Int) := by omega
            have HTK : Hid (xs.take K = xs.take 4) := hide (take_min hK hml)
            have hS0 : Below x1.heap.size x1 x1.drew := (Below.refl _ _).drew
            have HMP := hide (mpoly_any (cutA B 0 d) (K - 0) (d - 0) (xs.take K) q x1.drew ((HSL.out.below hS0).cut0 hKm))
            rw [HTK.out, ← HPE.out] at HMP
            obtain ⟨⟨lo, ps⟩, hlp⟩ : ∃ z, cP (pe raw q) = z := ⟨_, rfl⟩
            have HLC := hide hlp
            have h1 : (LP.canon (pe raw q)).1 = lo := congrArg Prod.fst hlp
            have h2 : (LP.canon (pe raw q)).2 = ps := congrArg Prod.snd hlp
            rw [h1, h2] at HMP
            clear h1 h2 hlp hcl0 hsl0 hcl hK hal
            have HWF := hide (pe_wf HLC.out)
            go_upto_region 14 with fail
            refine wp_region_noPanic ?_
            have hge : b17 ≤ x1.heap.size := by have := HSZ1.out; omega
            refine wp_region_held_drew (S := fun z => Below b17 x1 z) (by kernel_rfl) (hS0.mono hge) (fun hT0 => ?_)
            refine wpAnyH_tk 0 (v := .int .i64 q) rfl (by kernel_rfl) (by kernel_rfl) (by kernel_rfl) (yi rfl fun w' hw' => gives_move (.inl rfl) rfl) hT0 ?_
            go_frame
            refine wpAnyH_tk 1 (v := .slice (some ad) rn rcap) rfl (by kernel_rfl) (by kernel_rfl) (by kernel_rfl) (yi rfl fun w' hw' => gives_move (.inl rfl) rfl) hT0 ?_
            go_frame
            refine wpAnyH_tk 2 (v := .int .i64 q) rfl (by kernel_rfl) (by kernel_rfl) (by kernel_rfl) (yi rfl fun w' hw' => gives_move (.inl rfl) rfl) hT0 ?_
            go_frame
            refine wpAnyH_tk 3 (v := .pointer (some (ad.add q))) rfl (by kernel_rfl) (by kernel_rfl) (by kernel_rfl) (yi rfl fun w' hw' => gives_indexA rfl Try.underlying41 (fun w => by kernel_rfl) rfl rfl hin) hT0 ?_
            go_frame
            refine wpAnyH_tk 4 (v := .slice B m d) rfl (by kernel_rfl) (by kernel_rfl) (by kernel_rfl) (yi rfl fun w' hw' => gives_load1 rfl (by kernel_rfl) rfl ((hw'.cell (p := ad.add q) (by rw [block_of_add]; exact HAL.out)).trans HCL.out)) hT0 ?_
            go_frame
            refine wpAnyH_tk 5 (v := .slice (some ad) rn rcap) rfl (by kernel_rfl) (by kernel_rfl) (by kernel_rfl) (yi rfl fun w' hw' => gives_move (.inl rfl) rfl) hT0 ?_
            go_frame
            refine wpAnyH_tk 6 (v := .int .i64 q) rfl (by kernel_rfl) (by kernel_rfl) (by kernel_rfl) (yi rfl fun w' hw' => gives_move (.inl rfl) rfl) hT0 ?_
            go_frame
            refine wpAnyH_tk 7 (v := .pointer (some (ad.add q))) rfl (by kernel_rfl) (by kernel_rfl) (by kernel_rfl) (yi rfl fun w' hw' => gives_indexA rfl Try.underlying41 (fun w => by kernel_rfl) rfl rfl hin) hT0 ?_
            go_frame
            refine wpAnyH_tk 8 (v := .slice B m d) rfl (by kernel_rfl) (by kernel_rfl) (by kernel_rfl) (yi rfl fun w' hw' => gives_load1 rfl (by kernel_rfl) rfl ((hw'.cell (p := ad.add q) (by rw [block_of_add]; exact HAL.out)).trans HCL.out)) hT0 ?_
            go_frame
            refine wpAnyH_tk 9 (v := .int .i64 m) rfl (by kernel_rfl) (by kernel_rfl) (by kernel_rfl) (yi rfl fun w' hw' => gives_len rfl Try.underlying23 rfl) hT0 ?_
            go_frame
            refine wpAnyH_tk 10 (v := .int .i64 K) rfl (by kernel_rfl) (by kernel_rfl) (by kernel_rfl) (yi rfl fun w' hw' => gives_minI rfl rfl rfl hmin) hT0 ?_
            go_frame
            refine wpAnyH_tk 11 (v := .slice (cutA B 0 d) (K - 0) (d - 0)) rfl (by kernel_rfl) (by kernel_rfl) (by kernel_rfl) (yi rfl fun w' hw' => gives_cut_h rfl Try.underlying23 (by kernel_rfl) rfl rfl (by omega)) hT0 ?_
            go_frame
            refine wpAnyH_1 12 rfl (by kernel_rfl) ?_
            refine wp_call [.int .i64 q, .slice (cutA B 0 d) (K - 0) (d - 0)] rfl rfl ePoly rfl (HMP.out.mono ?_)
            rintro e x2 ⟨P, pn, pc, rfl, hs, hnw, hb⟩
            have hS1 : Below x1.heap.size x1 x2 := hS0.trans (hb.mono hS0.size)
            have hT1 : Below b17 x1 x2 := hS1.mono hge
            have hnw2 : 0 < pn → ∀ ad, P = some ad → x1.heap.size ≤ ad.block := fun h ad e => hnw h ad e
            have HSP1 : Hid (SLK (fun b => Fr (O6 M T C E (c4 + 1) (some b17)) b ∧ b < x2.heap.size) x2 P pn pc ps) := hide ⟨hs, fun h ad e => ⟨Fr.above HJ.out.dis (hnw2 h ad e), hs.inside h ad e⟩⟩
            have HJ2 := hide (HJ.out.to hS1)
            have hbk := HB17.out.below hS1 HB17.out.lt
            have hw2 := HWx.out.trans (hS1.mono HWx.out.size)
            have hfar : 0 < pn → ∀ ad, P = some ad → ad.block ≠ b17 := fun h ad e => by have := hnw2 h ad e; have := HSZ1.out; omega
            clear hb hs hnw
            refine ⟨_, rfl, hT1, ?_⟩
            go_frame
            refine wpAnyH_1 13 rfl (by kernel_rfl) ?_
            have hT2 : Below b17 x1 (x2.setRow b17 #[.int .i64 lo, .slice P pn pc]) := Below.setRow_ hT1 (Nat.le_refl _) _
            refine wp_storeRow rfl rfl rfl hbk (by kernel_rfl) rfl (by kernel_rfl) ⟨hT2, ?_⟩
            go_frame
            refine wpAnyH_done (by kernel_rfl) (noPanic_mk ?_) _
            have hgr := grownBy_setRow x2 b17 #[.int .i64 lo, .slice P pn pc]
            replace HJ := hide (HJ2.out.putP hgr)
            have HSP : Hid (SLK (fun b => Fr (O6 M T C E (c4 + 1) (some b17)) b ∧ b < (x2.setRow b17 #[.int .i64 lo, .slice P pn pc]).heap.size) (x2.setRow b17 #[.int .i64 lo, .slice P pn pc]) P pn pc ps) := hide ⟨HSP1.out.sl.setRow_ (fun h ad e => hfar h ad e) _, fun h ad e => ⟨(HSP1.out.inK h ad e).1, Nat.lt_of_lt_of_le (HSP1.out.inK h ad e).2 hgr.size⟩⟩
            replace HB17 : Hid (Blk (x2.setRow b17 #[.int .i64 lo, .slice P pn pc]) b17 25 #[.int .i64 lo, .slice P pn pc]) := hide (setRow_heap _ _ _ _ _ _ hbk)
            replace HWx := hide (Below.setRow_ hw2 HB17W.out #[.int .i64 lo, .slice P pn pc])
            clear hgr hT0 hT1 hT2 hS0 hS1 hnw2 hbk hw2 hfar HSP1 HJ2 HMP hmin hKm hml hmc hmsm hge
            generalize x2.setRow b17 #[.int .i64 lo, .slice P pn pc] = x4 at *
            have HRM : Hid (rM raw N r (j + 1) = rM raw N r j ++ [(lo, ps)]) := hide (by rw [rM_succ, HQ.out, HLC.out])
            have hba : Below x4.heap.size x4 (x4.alloc (.cells #[.int .i64 lo, .slice P pn pc] 25)) := (Below.refl _ _).alloc (Nat.le_refl _) _
            have hcl := Blk.new x4 25 #[.int .i64 lo, .slice P pn pc]
            have HBC := hide hcl
            clear hcl
            have HJa := hide (HJ.out.to hba)
            have HB17a := hide (HB17.out.below hba HB17.out.lt)
            have HSPa := hide ((HSP.out.keep ((SameK.below hba).mono fun b hb => hb.2) hba.size).mono fun b hl hb => ⟨hb.1, hl⟩ : SLK (fun b => Fr _ b ∧ b < (x4.alloc (.cells #[.int .i64 lo, .slice P pn pc] 25)).heap.size) _ _ _ _ _)
            have HWa := hide (HWx.out.trans (hba.mono HWx.out.size))
            have hszw := HWa.out.size
            clear hba
            have hy0 := HB17.out.cell 0
            have hy1 := HB17.out.cell 1
            simp at hy0 hy1
            go_upto_region 17 with (at_builtin; refine wpList_append_G _ rfl (.tmp 60) (.tmp 62) 30 rfl w.heap.size 25 ip (.agg #[.int .i64 0, .slice none 0 0]) 2 32 Try.underlying30 HIP.out HPZ0.out HPZ1.out HPZ2.out rfl (by omega) (by omega) C j cc vc rfl HJa.out.bc.own ⟨x4.heap.size, 0, none⟩ 1 1 [.int .i64 lo, .slice P pn pc] rfl rfl (cells_two HBC.out) (by simp [Value.oneCell']) (by omega) hszw ?_; intro C9 cc9 x5 happ)
            have hN := HJa.out.addC (y := (lo, ps)) rfl ⟨P, pn, pc, rfl, HSPa.out, HWF.out⟩ happ
            rw [← HRM.out] at hN
            have hst := HJa.out.stepC happ
            replace HB17 := hide (hst.blk HB17a.out (HJa.out.dis.ne (i := 2) (j := 5) rfl rfl (by decide) _ rfl))
            replace HSP := hide (HSPa.out.step hst)
            replace HWx := hide (HWa.out.grown happ.grown HWa.out.size (fun g0 hg0 => (HJa.out.bc.own.lt g0 (by rw [ownBlock_len C j (j + 1) cc cc]; exact hg0)).1))
            replace HJ := hide hN
            clear hN hst happ HJa HB17a HSPa HWa HBC hy0 hy1 hszw
            by_cases hjr : j < r
            · have HRT : Hid (rT raw N r (j + 1) = rT raw N r j ++ [(0, [])]) := hide (by rw [rT_succ, if_pos hjr])
              have HDE : Hid (cP (diagP (peT raw N) (if r < j + 1 then r + 1 else r)) = (dl, ds)) := hide (by have h := HD.out; rw [if_neg (by omega)] at h; rw [if_neg (by omega)]; exact h)
              have hdc : ((j : Int) == (r : Int)) = false := by simp; omega
              have hf0 := HB17.out.frozen 0
              have hf1 := HB17.out.frozen 1
              have hf2 := HB17.out.lt
              have hy0 := HB17.out.cell 0
              have hy1 := HB17.out.cell 1
              simp at hy0 hy1
              go_upto_region 19 with fail
              have hgr : x5.grownBy ((x5.setCell ⟨b17, 0, none⟩ (.int .i64 0)).setCell ⟨b17, 1, none⟩ (.slice none 0 0)) (some b17) := (grownBy_set1 x5 b17 0 _).trans (grownBy_set1 _ b17 1 _)
              replace HJ := hide (HJ.out.putP hgr)
              have HB17z : Hid (Blk ((x5.setCell ⟨b17, 0, none⟩ (.int .i64 0)).setCell ⟨b17, 1, none⟩ (.slice none 0 0)) b17 25 #[.int .i64 0, .slice none 0 0]) := hide (by have h := (HB17.out.set_ 0 (.int .i64 0)).set_ 1 (.slice none 0 0); simpa using h)
              replace HWx := hide ((HWx.out.setCell (p := ⟨b17, 0, none⟩) HB17W.out (.int .i64 0)).setCell (p := ⟨b17, 1, none⟩) HB17W.out (.slice none 0 0))
              clear HB17 hf0 hf1 hf2 hy0 hy1 hgr HSP
              have HB17 := HB17z
              clear HB17z
              generalize (x5.setCell ⟨b17, 0, none⟩ (.int .i64 0)).setCell ⟨b17, 1, none⟩ (.slice none 0 0) = x6 at *
              have hba : Below x6.heap.size x6 (x6.alloc (.cells #[.int .i64 0, .slice none 0 0] 25)) := (Below.refl _ _).alloc (Nat.le_refl _) _
              have hcl := Blk.new x6 25 #[.int .i64 0, .slice none 0 0]
              have HBC := hide hcl
              clear hcl
              have HJa := hide (HJ.out.to hba)
              have HB17a := hide (HB17.out.below hba HB17.out.lt)
              have HWa := hide (HWx.out.trans (hba.mono HWx.out.size))
              have hszw := HWa.out.size
              clear hba
              have hy0 := HB17.out.cell 0
              have hy1 := HB17.out.cell 1
              simp at hy0 hy1
              go_upto_region 20 with (at_builtin; refine wpList_append_G _ rfl (.tmp 68) (.tmp 70) 30 rfl w.heap.size 25 ip (.agg #[.int .i64 0, .slice none 0 0]) 2 32 Try.underlying30 HIP.out HPZ0.out HPZ1.out HPZ2.out rfl (by omega) (by omega) E j ec ve rfl HJa.out.be.own ⟨x6.heap.size, 0, none⟩ 1 1 [.int .i64 0, .slice none 0 0] rfl rfl (cells_two HBC.out) (by simp [Value.oneCell']) (by omega) hszw ?_; intro E9 ec9 x7 happ)
              have hN := HJa.out.addE (y := (0, [])) rfl ⟨none, 0, 0, rfl, ⟨SL.nil_ _, fun h => absurd h (by omega)⟩, by decide⟩ happ
              rw [← HRT.out] at hN
              have hst := HJa.out.stepE happ
              replace HB17 := hide (hst.blk HB17a.out (HJa.out.dis.ne (i := 3) (j := 5) rfl rfl (by decide) _ rfl))
              replace HWx := hide (HWa.out.grown happ.grown HWa.out.size (fun g0 hg0 => (HJa.out.be.own.lt g0 (by rw [ownBlock_len E j (j + 1) ec ec]; exact hg0)).1))
              replace HJ := hide hN
              clear hN hst happ HJa HB17a HWa HBC hy0 hy1 hszw
              go_wp2_with fail
              go_roundw
              case rel => exact ⟨j + 1, C9, E9, cc9, ec9, _, _, D, dn, dd, dl, ds, by go_num, by omega, rfl, rfl, by rw [← HQ.out]; go_num, hide HJ.out.dropP, HDE, HWx⟩
              case measure => simp [intOf]; omega
            · have HRT : Hid (rT raw N r (j + 1) = rT raw N r j ++ [(lo, ps)]) := hide (by rw [rT_succ, if_neg hjr, HQ.out, HLC.out])
              have hjr2 : decide ((j : Int) < (r : Int)) = false := by simp; omega
              have hba : Below x5.heap.size x5 (x5.alloc (.cells #[.int .i64 lo, .slice P pn pc] 25)) := (Below.refl _ _).alloc (Nat.le_refl _) _
              have hcl := Blk.new x5 25 #[.int .i64 lo, .slice P pn pc]
              have HBC := hide hcl
              clear hcl
              have HJa := hide (HJ.out.to hba)
              have HB17a := hide (HB17.out.below hba HB17.out.lt)
              have HSPa := hide ((HSP.out.keep ((SameK.below hba).mono fun b hb => hb.2) hba.size).mono fun b hl hb => ⟨hb.1, hl⟩ : SLK (fun b => Fr _ b ∧ b < (x5.alloc (.cells #[.int .i64 lo, .slice P pn pc] 25)).heap.size) _ _ _ _ _)
              have HWa := hide (HWx.out.trans (hba.mono HWx.out.size))
              have hszw := HWa.out.size
              clear hba
              have hy0 := HB17.out.cell 0
              have hy1 := HB17.out.cell 1
              simp at hy0 hy1
              go_upto_region 20 with (at_builtin; refine wpList_append_G _ rfl (.tmp 68) (.tmp 70) 30 rfl w.heap.size 25 ip (.agg #[.int .i64 0, .slice none 0 0]) 2 32 Try.underlying30 HIP.out HPZ0.out HPZ1.out HPZ2.out rfl (by omega) (by omega) E j ec ve rfl HJa.out.be.own ⟨x5.heap.size, 0, none⟩ 1 1 [.int .i64 lo, .slice P pn pc] rfl rfl (cells_two HBC.out) (by simp [Value.oneCell']) (by omega) hszw ?_; intro E9 ec9 x7 happ)
              have hN := HJa.out.addE (y := (lo, ps)) rfl ⟨P, pn, pc, rfl, HSPa.out, HWF.out⟩ happ
              rw [← HRT.out] at hN
              have hst := HJa.out.stepE happ
              replace HB17 := hide (hst.blk HB17a.out (HJa.out.dis.ne (i := 3) (j := 5) rfl rfl (by decide) _ rfl))
              replace HSP := hide (HSPa.out.step hst)
              replace HWx := hide (HWa.out.grown happ.grown HWa.out.size (fun g0 hg0 => (HJa.out.be.own.lt g0 (by rw [ownBlock_len E j (j + 1) ec ec]; exact hg0)).1))
              replace HJ := hide hN
              clear hN hst happ HJa HB17a HSPa HWa HBC hy0 hy1 hszw
              clear hjr2
              by_cases hjr3 : j = r
              · have HDE : Hid (cP (diagP (peT raw N) r) = (dl, ds)) := hide (by have h := HD.out; rw [if_neg (by omega)] at h; exact h)
                have HMU : Hid (LP.mulR dl ds lo ps = (0, (cP (diagP (peT raw N) (r + 1))).1, (cP (diagP (peT raw N) (r + 1))).2)) := hide (diag_mul hN3 (by omega) HDE.out HLC.out (by rw [← HQ.out, hjr3]))
                obtain ⟨⟨l9, s9⟩, hls⟩ : ∃ z, cP (diagP (peT raw N) (r + 1)) = z := ⟨_, rfl⟩
                rw [hls] at HMU
                have HDF : Hid (cP (diagP (peT raw N) (if r < j + 1 then r + 1 else r)) = (l9, s9)) := hide (by rw [if_pos (by omega)]; exact hls)
                clear hls
                have hdc : ((j : Int) == (r : Int)) = true := by simp; omega
                have hy0 := HB17.out.cell 0
                have hy1 := HB17.out.cell 1
                simp at hy0 hy1
                have hg0 := HJ.out.dg.cell 0
                have hg1 := HJ.out.dg.cell 1
                simp at hg0 hg1
                have HMC := hide (mul_k HFP.out dl D dn dd ds lo P pn pc ps x7 HJ.out.ds.sl HSP.out.sl (cP_wf (diag_rt raw N (by omega)) HDE.out) HWF.out)
                rw [HMU.out] at HMC
                dsimp only at HMC
                clear hjr hjr3
                go_wp2_with fail
                refine HMC.out.mono ?_
                rintro e x8 ⟨D9, n9, d9, rfl, hs, hnw, hb⟩
                have HS9 : Hid (SLK (fun b => Fr (O6 M T C9 E9 (c4 + 1) (some b17)) b ∧ b < x8.heap.size) x8 D9 n9 d9 s9) := hide ⟨hs, fun h ad e => ⟨Fr.above HJ.out.dis (hnw h ad e), hs.inside h ad e⟩⟩
                replace HJ := hide (HJ.out.to hb)
                replace HB17 := hide (HB17.out.below hb HB17.out.lt)
                replace HWx := hide (HWx.out.trans (hb.mono HWx.out.size))
                clear hs hnw hb hy0 hy1 hg0 hg1 HMC HSP
                have hf0 := HJ.out.dg.frozen 0
                have hf1 := HJ.out.dg.frozen 1
                have hf2 := HJ.out.dg.lt
                have hg0 := HJ.out.dg.cell 0
                have hg1 := HJ.out.dg.cell 1
                simp at hg0 hg1
                have HJn := hide (HJ.out.put (l9 := l9) HS9.out)
                have HWn := hide ((HWx.out.setCell (p := ⟨c4 + 1, 0, none⟩) HC4.out (.int .i64 l9)).setCell (p := ⟨c4 + 1, 1, none⟩) HC4.out (.slice D9 n9 d9))
                go_wp2_with fail
                go_roundw
                case rel => exact ⟨j + 1, C9, E9, cc9, ec9, _, _, D9, n9, d9, l9, s9, by go_num, by omega, rfl, rfl, by rw [← HQ.out]; go_num, hide HJn.out.dropP, HDF, HWn⟩
                case measure => simp [intOf]; omega
              · have HDE : Hid (cP (diagP (peT raw N) (if r < j + 1 then r + 1 else r)) = (dl, ds)) := hide (by have h := HD.out; rw [if_pos (by omega)] at h; rw [if_pos (by omega)]; exact h)
                have hdc : ((j : Int) == (r : Int)) = false := by simp; omega
                clear hjr hjr3
                go_wp2_with fail
                go_roundw
                case rel => exact ⟨j + 1, C9, E9, cc9, ec9, _, _, D, dn, dd, dl, ds, by go_num, by omega, rfl, rfl, by rw [← HQ.out]; go_num, hide HJ.out.dropP, HDE, HWx⟩
                case measure => simp [intOf]; omega
          · have HLC : Hid (cP (pe raw q) = (0, [])) := hide (by unfold pe; rw [if_neg (by rw [HL.out]; exact hin)]; unfold cP; rw [LP.canon_zero])
            have HWF : Hid ((Lit.int .i64 0).wf = true) := hide (by decide)
            have HSP : Hid (SLK (fun b => Fr (O6 M T C E (c4 + 1) (some b17)) b ∧ b < x1.heap.size) x1 none 0 0 []) := hide ⟨SL.nil_ _, fun h => absurd h (by omega)⟩
            go_upto_region 15 with fail
            have HRM : Hid (rM raw N r (j + 1) = rM raw N r j ++ [(0, [])]) := hide (by rw [rM_succ, HQ.out, HLC.out])
            have hba : Below x1.heap.size x1 (x1.alloc (.cells #[.int .i64 0, .slice none 0 0] 25)) := (Below.refl _ _).alloc (Nat.le_refl _) _
            have hcl := Blk.new x1 25 #[.int .i64 0, .slice none 0 0]
            have HBC := hide hcl
            clear hcl
            have HJa := hide (HJ.out.to hba)
            have HB17a := hide (HB17.out.below hba HB17.out.lt)
            have HSPa := hide ((HSP.out.keep ((SameK.below hba).mono fun b hb => hb.2) hba.size).mono fun b hl hb => ⟨hb.1, hl⟩ : SLK (fun b => Fr _ b ∧ b < (x1.alloc (.cells #[.int .i64 0, .slice none 0 0] 25)).heap.size) _ _ _ _ _)
            have HWa := hide (HWx.out.trans (hba.mono HWx.out.size))
            have hszw := HWa.out.size
            clear hba
            have hy0 := HB17.out.cell 0
            have hy1 := HB17.out.cell 1
            simp at hy0 hy1
            go_upto_region 17 with (at_builtin; refine wpList_append_G _ rfl (.tmp 60) (.tmp 62) 30 rfl w.heap.size 25 ip (.agg #[.int .i64 0, .slice none 0 0]) 2 32 Try.underlying30 HIP.out HPZ0.out HPZ1.out HPZ2.out rfl (by omega) (by omega) C j cc vc rfl HJa.out.bc.own ⟨x1.heap.size, 0, none⟩ 1 1 [.int .i64 0, .slice none 0 0] rfl rfl (cells_two HBC.out) (by simp [Value.oneCell']) (by omega) hszw ?_; intro C9 cc9 x5 happ)
            have hN := HJa.out.addC (y := (0, [])) rfl ⟨none, 0, 0, rfl, HSPa.out, HWF.out⟩ happ
            rw [← HRM.out] at hN
            have hst := HJa.out.stepC happ
            replace HB17 := hide (hst.blk HB17a.out (HJa.out.dis.ne (i := 2) (j := 5) rfl rfl (by decide) _ rfl))
            replace HSP := hide (HSPa.out.step hst)
            replace HWx := hide (HWa.out.grown happ.grown HWa.out.size (fun g0 hg0 => (HJa.out.bc.own.lt g0 (by rw [ownBlock_len C j (j + 1) cc cc]; exact hg0)).1))
            replace HJ := hide hN
            clear hN hst happ HJa HB17a HSPa HWa HBC hy0 hy1 hszw
            by_cases hjr : j < r
            · have HRT : Hid (rT raw N r (j + 1) = rT raw N r j ++ [(0, [])]) := hide (by rw [rT_succ, if_pos hjr])
              have HDE : Hid (cP (diagP (peT raw N) (if r < j + 1 then r + 1 else r)) = (dl, ds)) := hide (by have h := HD.out; rw [if_neg (by omega)] at h; rw [if_neg (by omega)]; exact h)
              have hdc : ((j : Int) == (r : Int)) = false := by simp; omega
              have hf0 := HB17.out.frozen 0
              have hf1 := HB17.out.frozen 1
              have hf2 := HB17.out.lt
              have hy0 := HB17.out.cell 0
              have hy1 := HB17.out.cell 1
              simp at hy0 hy1
              go_upto_region 19 with fail
              have hgr : x5.grownBy ((x5.setCell ⟨b17, 0, none⟩ (.int .i64 0)).setCell ⟨b17, 1, none⟩ (.slice none 0 0)) (some b17) := (grownBy_set1 x5 b17 0 _).trans (grownBy_set1 _ b17 1 _)
              replace HJ := hide (HJ.out.putP hgr)
              have HB17z : Hid (Blk ((x5.setCell ⟨b17, 0, none⟩ (.int .i64 0)).setCell ⟨b17, 1, none⟩ (.slice none 0 0)) b17 25 #[.int .i64 0, .slice none 0 0]) := hide (by have h := (HB17.out.set_ 0 (.int .i64 0)).set_ 1 (.slice none 0 0); simpa using h)
              replace HWx := hide ((HWx.out.setCell (p := ⟨b17, 0, none⟩) HB17W.out (.int .i64 0)).setCell (p := ⟨b17, 1, none⟩) HB17W.out (.slice none 0 0))
              clear HB17 hf0 hf1 hf2 hy0 hy1 hgr HSP
              have HB17 := HB17z
              clear HB17z
              generalize (x5.setCell ⟨b17, 0, none⟩ (.int .i64 0)).setCell ⟨b17, 1, none⟩ (.slice none 0 0) = x6 at *
              have hba : Below x6.heap.size x6 (x6.alloc (.cells #[.int .i64 0, .slice none 0 0] 25)) := (Below.refl _ _).alloc (Nat.le_refl _) _
              have hcl := Blk.new x6 25 #[.int .i64 0, .slice none 0 0]
              have HBC := hide hcl
              clear hcl
              have HJa := hide (HJ.out.to hba)
              have HB17a := hide (HB17.out.below hba HB17.out.lt)
              have HWa := hide (HWx.out.trans (hba.mono HWx.out.size))
              have hszw := HWa.out.size
              clear hba
              have hy0 := HB17.out.cell 0
              have hy1 := HB17.out.cell 1
              simp at hy0 hy1
              go_upto_region 20 with (at_builtin; refine wpList_append_G _ rfl (.tmp 68) (.tmp 70) 30 rfl w.heap.size 25 ip (.agg #[.int .i64 0, .slice none 0 0]) 2 32 Try.underlying30 HIP.out HPZ0.out HPZ1.out HPZ2.out rfl (by omega) (by omega) E j ec ve rfl HJa.out.be.own ⟨x6.heap.size, 0, none⟩ 1 1 [.int .i64 0, .slice none 0 0] rfl rfl (cells_two HBC.out) (by simp [Value.oneCell']) (by omega) hszw ?_; intro E9 ec9 x7 happ)
              have hN := HJa.out.addE (y := (0, [])) rfl ⟨none, 0, 0, rfl, ⟨SL.nil_ _, fun h => absurd h (by omega)⟩, by decide⟩ happ
              rw [← HRT.out] at hN
              have hst := HJa.out.stepE happ
              replace HB17 := hide (hst.blk HB17a.out (HJa.out.dis.ne (i := 3) (j := 5) rfl rfl (by decide) _ rfl))
              replace HWx := hide (HWa.out.grown happ.grown HWa.out.size (fun g0 hg0 => (HJa.out.be.own.lt g0 (by rw [ownBlock_len E j (j + 1) ec ec]; exact hg0)).1))
              replace HJ := hide hN
              clear hN hst happ HJa HB17a HWa HBC hy0 hy1 hszw
              go_wp2_with fail
              go_roundw
              case rel => exact ⟨j + 1, C9, E9, cc9, ec9, _, _, D, dn, dd, dl, ds, by go_num, by omega, rfl, rfl, by rw [← HQ.out]; go_num, hide HJ.out.dropP, HDE, HWx⟩
              case measure => simp [intOf]; omega
            · have HRT : Hid (rT raw N r (j + 1) = rT raw N r j ++ [(0, [])]) := hide (by rw [rT_succ, if_neg hjr, HQ.out, HLC.out])
              have hjr2 : decide ((j : Int) < (r : Int)) = false := by simp; omega
              have hba : Below x5.heap.size x5 (x5.alloc (.cells #[.int .i64 0, .slice none 0 0] 25)) := (Below.refl _ _).alloc (Nat.le_refl _) _
              have hcl := Blk.new x5 25 #[.int .i64 0, .slice none 0 0]
              have HBC := hide hcl
              clear hcl
              have HJa := hide (HJ.out.to hba)
              have HB17a := hide (HB17.out.below hba HB17.out.lt)
              have HSPa := hide ((HSP.out.keep ((SameK.below hba).mono fun b hb => hb.2) hba.size).mono fun b hl hb => ⟨hb.1, hl⟩ : SLK (fun b => Fr _ b ∧ b < (x5.alloc (.cells #[.int .i64 0, .slice none 0 0] 25)).heap.size) _ _ _ _ _)
              have HWa := hide (HWx.out.trans (hba.mono HWx.out.size))
              have hszw := HWa.out.size
              clear hba
              have hy0 := HB17.out.cell 0
              have hy1 := HB17.out.cell 1
              simp at hy0 hy1
              go_upto_region 20 with (at_builtin; refine wpList_append_G _ rfl (.tmp 68) (.tmp 70) 30 rfl w.heap.size 25 ip (.agg #[.int .i64 0, .slice none 0 0]) 2 32 Try.underlying30 HIP.out HPZ0.out HPZ1.out HPZ2.out rfl (by omega) (by omega) E j ec ve rfl HJa.out.be.own ⟨x5.heap.size, 0, none⟩ 1 1 [.int .i64 0, .slice none 0 0] rfl rfl (cells_two HBC.out) (by simp [Value.oneCell']) (by omega) hszw ?_; intro E9 ec9 x7 happ)
              have hN := HJa.out.addE (y := (0, [])) rfl ⟨none, 0, 0, rfl, HSPa.out, HWF.out⟩ happ
              rw [← HRT.out] at hN
              have hst := HJa.out.stepE happ
              replace HB17 := hide (hst.blk HB17a.out (HJa.out.dis.ne (i := 3) (j := 5) rfl rfl (by decide) _ rfl))
              replace HSP := hide (HSPa.out.step hst)
              replace HWx := hide (HWa.out.grown happ.grown HWa.out.size (fun g0 hg0 => (HJa.out.be.own.lt g0 (by rw [ownBlock_len E j (j + 1) ec ec]; exact hg0)).1))
              replace HJ := hide hN
              clear hN hst happ HJa HB17a HSPa HWa HBC hy0 hy1 hszw
              clear hjr2
              by_cases hjr3 : j = r
              · have HDE : Hid (cP (diagP (peT raw N) r) = (dl, ds)) := hide (by have h := HD.out; rw [if_neg (by omega)] at h; exact h)
                have HMU : Hid (LP.mulR dl ds 0 [] = (0, (cP (diagP (peT raw N) (r + 1))).1, (cP (diagP (peT raw N) (r + 1))).2)) := hide (diag_mul hN3 (by omega) HDE.out HLC.out (by rw [← HQ.out, hjr3]))
                obtain ⟨⟨l9, s9⟩, hls⟩ : ∃ z, cP (diagP (peT raw N) (r + 1)) = z := ⟨_, rfl⟩
                rw [hls] at HMU
                have HDF : Hid (cP (diagP (peT raw N) (if r < j + 1 then r + 1 else r)) = (l9, s9)) := hide (by rw [if_pos (by omega)]; exact hls)
                clear hls
                have hdc : ((j : Int) == (r : Int)) = true := by simp; omega
                have hy0 := HB17.out.cell 0
                have hy1 := HB17.out.cell 1
                simp at hy0 hy1
                have hg0 := HJ.out.dg.cell 0
                have hg1 := HJ.out.dg.cell 1
                simp at hg0 hg1
                have HMC := hide (mul_k HFP.out dl D dn dd ds 0 none 0 0 [] x7 HJ.out.ds.sl HSP.out.sl (cP_wf (diag_rt raw N (by omega)) HDE.out) HWF.out)
                rw [HMU.out] at HMC
                dsimp only at HMC
                clear hjr hjr3
                go_wp2_with fail
                refine HMC.out.mono ?_
                rintro e x8 ⟨D9, n9, d9, rfl, hs, hnw, hb⟩
                have HS9 : Hid (SLK (fun b => Fr (O6 M T C9 E9 (c4 + 1) (some b17)) b ∧ b < x8.heap.size) x8 D9 n9 d9 s9) := hide ⟨hs, fun h ad e => ⟨Fr.above HJ.out.dis (hnw h ad e), hs.inside h ad e⟩⟩
                replace HJ := hide (HJ.out.to hb)
                replace HB17 := hide (HB17.out.below hb HB17.out.lt)
                replace HWx := hide (HWx.out.trans (hb.mono HWx.out.size))
                clear hs hnw hb hy0 hy1 hg0 hg1 HMC HSP
                have hf0 := HJ.out.dg.frozen 0
                have hf1 := HJ.out.dg.frozen 1
                have hf2 := HJ.out.dg.lt
                have hg0 := HJ.out.dg.cell 0
                have hg1 := HJ.out.dg.cell 1
                simp at hg0 hg1
                have HJn := hide (HJ.out.put (l9 := l9) HS9.out)
                have HWn := hide ((HWx.out.setCell (p := ⟨c4 + 1, 0, none⟩) HC4.out (.int .i64 l9)).setCell (p := ⟨c4 + 1, 1, none⟩) HC4.out (.slice D9 n9 d9))
                go_wp2_with fail
                go_roundw
                case rel => exact ⟨j + 1, C9, E9, cc9, ec9, _, _, D9, n9, d9, l9, s9, by go_num, by omega, rfl, rfl, by rw [← HQ.out]; go_num, hide HJn.out.dropP, HDF, HWn⟩
                case measure => simp [intOf]; omega
              · have HDE : Hid (cP (diagP (peT raw N) (if r < j + 1 then r + 1 else r)) = (dl, ds)) := hide (by have h := HD.out; rw [if_pos (by omega)] at h; rw [if_pos (by omega)]; exact h)
                have hdc : ((j : Int) == (r : Int)) = false := by simp; omega
                clear hjr hjr3
                go_wp2_with fail
                go_roundw
                case rel => exact ⟨j + 1, C9, E9, cc9, ec9, _, _, D, dn, dd, dl, ds, by go_num, by omega, rfl, rfl, by rw [← HQ.out]; go_num, hide HJ.out.dropP, HDE, HWx⟩
                case measure => simp [intOf]; omega
        · have hjN2 : j = N := by omega
          subst hjN2
          obtain ⟨hJc, hRC, hRE⟩ := HJ.out.close
          have hba : Below wr.heap.size wr (wr.alloc (.cells #[.slice C j cc] 30)) := (Below.refl _ _).alloc (Nat.le_refl _) _
          have HJa := hide (hJc.to hba)
          have HRC : Hid (RdS QP 2 (fun b => Fr (O6 M T none none (c4 + 1) none) b ∧ b < (wr.alloc (.cells #[.slice C j cc] 30)).heap.size) (wr.alloc (.cells #[.slice C j cc] 30)) C j cc (rM raw j r j)) := hide ((hRC.keep QP_ok ((SameK.below hba).mono fun b hb => hb.2) hba.size).mono QP_ok fun b hl hb => ⟨hb.1, hl⟩)
          have HRE : Hid (RdS QP 2 (fun b => Fr (O6 M T none none (c4 + 1) none) b ∧ b < (wr.alloc (.cells #[.slice C j cc] 30)).heap.size) (wr.alloc (.cells #[.slice C j cc] 30)) E j ec (rT raw j r j)) := hide ((hRE.keep QP_ok ((SameK.below hba).mono fun b hb => hb.2) hba.size).mono QP_ok fun b hl hb => ⟨hb.1, hl⟩)
          have HBC := hide (Blk.new wr 30 #[.slice C j cc])
          have HWa := hide (HWx.out.trans (hba.mono HWx.out.size))
          have hszw := HWa.out.size
          have HDE : Hid (cP (diagP (peT raw j) (r + 1)) = (dl, ds)) := hide (by have h := HD.out; rw [if_pos hlt] at h; exact h)
          clear hba hJc hRC hRE HJ HWx HD
          go_wp2_with (first | (at_builtin; refine wpList_append_G _ rfl (.tmp 79) (.tmp 81) 22 rfl w.heap.size 30 ir (.slice none 0 0) 1 24 Try.underlying22 HIR.out HRZ0.out HRZ1.out HRZ2.out rfl (by omega) (by omega) M r mc vm rfl HJa.out.bm.own ⟨wr.heap.size, 0, none⟩ 1 1 [.slice C j cc] rfl rfl (cells_one HBC.out) (by simp [Value.oneCell']) (by omega) hszw ?_; intro M9 mc9 x1 happ; have hN := HJa.out.addM rfl ⟨C, j, cc, rfl, HRC.out⟩ happ; rw [← mM_succ] at hN; have hst := HJa.out.stepM happ; replace HRE := hide (HRE.out.step QP_ok hst); replace HWa := hide (HWa.out.grown happ.grown HWa.out.size (fun g0 hg0 => (HJa.out.bm.own.lt g0 (by rw [ownBlock_len M r (r + 1) mc mc]; exact hg0)).1)); replace HJa := hide hN; clear hN hst happ HRC HBC hszw; have hba : Below x1.heap.size x1 (x1.alloc (.cells #[.slice E j ec] 30)) := (Below.refl _ _).alloc (Nat.le_refl _) _; have HJb := hide (HJa.out.to hba); have HRF : Hid (RdS QP 2 (fun b => Fr (O6 M9 T none none (c4 + 1) none) b ∧ b < (x1.alloc (.cells #[.slice E j ec] 30)).heap.size) (x1.alloc (.cells #[.slice E j ec] 30)) E j ec (rT raw j r j)) := hide ((HRE.out.keep QP_ok ((SameK.below hba).mono fun b hb => hb.2) hba.size).mono QP_ok fun b hl hb => ⟨hb.1, hl⟩); have HBC := hide (Blk.new x1 30 #[.slice E j ec]); replace HWa := hide (HWa.out.trans (hba.mono HWa.out.size)); have hszw := HWa.out.size; clear hba HJa HRE) | (at_builtin; refine wpList_append_G _ rfl (.tmp 83) (.tmp 85) 22 rfl w.heap.size 30 ir (.slice none 0 0) 1 24 Try.underlying22 HIR.out HRZ0.out HRZ1.out HRZ2.out rfl (by omega) (by omega) T r tc vt rfl HJb.out.bt.own ⟨x1.heap.size, 0, none⟩ 1 1 [.slice E j ec] rfl rfl (cells_one HBC.out) (by simp [Value.oneCell']) (by omega) hszw ?_; intro T9 tc9 x2 happ))
          have hN := HJb.out.addT rfl ⟨E, j, ec, rfl, HRF.out⟩ happ
          rw [← mT_succ] at hN
          replace HWa := hide (HWa.out.grown happ.grown HWa.out.size (fun g0 hg0 => (HJb.out.bt.own.lt g0 (by rw [ownBlock_len T r (r + 1) tc tc]; exact hg0)).1))
          have HJn := hide hN
          clear hN happ HRF HBC hszw HJb
          go_wp2_with fail
          go_roundw
          case rel => exact ⟨r + 1, M9, T9, mc9, tc9, _, _, D, dn, dd, dl, ds, by go_num, by omega, rfl, rfl, by rw [Nat.succ_mul]; go_num, HJn, HDE, HWa⟩
          case measure => simp [intOf]; omega
    · have hrN : r = N := by omega
      subst hrN
      have HM : Hid (SPP wr M r mc (mM raw r r)) := hide (Rd.spp (HJ.out.bm.rd QPs_ok (by omega)))
      have HT : Hid (SPP wr T r tc (mT raw r r)) := hide (Rd.spp (HJ.out.bt.rd QPs_ok (by omega)))
      have HG := hide HJ.out.dg
      have SD := hide HJ.out.ds.sl
      have HXW := hide HWr.out
      have HDM := hide (detPR_rt (mM_sq raw r (by omega)) (D := detR r (peM raw r)) (by rw [mM_len]; exact detR_congr (mP_mM raw r)) (det_rt (by omega) fun i _ j _ => pe_n1 raw _))
      have HDT := hide (detPR_rt (mT_sq raw r (by omega)) (D := diagP (peT raw r) r) (by rw [mT_len, detR_congr (mP_mT raw r)]; exact detR_tri r _ fun i j _ hji => if_pos hji) (diag_rt raw r (by omega)))
      have HDS := hide (swap_det raw (n := r) (by omega) hx hyk HXY.out)
      have HMS := hide (mM_sq raw r (by omega))
      clear HJ HWr hr hlt
      have hyi := HYI.out
      go_wp2_with fail
      refine (HMI.out _).mono ?_
      rintro e w1 ⟨rfl, rfl⟩
      go_wp2_with fail
      refine (HMK.out _).mono ?_
      rintro e w1 ⟨rfl, rfl⟩
      go_wp2_with fail
      refine (clonePP_any M r mc (mM raw r r) wr HM.out (by omega) (by omega)).mono ?_
      rintro e w9 ⟨g, c9, vs, rfl, hov, hrs, hb⟩
      obtain ⟨ad, By, my, dy, hMa, hcy8, hsy⟩ := HM.out.at_ hyk
      subst hMa
      obtain ⟨ad', Bx, mx, dx', e, hcx8, hsx⟩ := HM.out.at_ hx
      injection e with e
      subst e
      have hadl : ad.block < wr.heap.size := by have := World.block_lt_of_cell? wr _ hcy8; rwa [block_of_add] at this
      have hg := (hov.lt g rfl).1
      have HCY : Hid (w9.cell? (ad.add y) = some (.slice By my dy)) := hide (by rw [hb.cell (by rw [block_of_add]; exact hadl)]; exact hcy8)
      have HCX : Hid (w9.cell? (ad.add x) = some (.slice Bx mx dx')) := hide (by rw [hb.cell (by rw [block_of_add]; exact hadl)]; exact hcx8)
      have HAL : Hid (ad.block < w9.heap.size) := hide (Nat.lt_of_lt_of_le hadl hb.size)
      have HOV := hide (hov.below (Below.refl _ _).drew)
      have HRS := hide (RowsP.set_ (j := y) (RowsP.set_ (j := x) hrs hsy) hsx)
      have HB9 := hide hb
      have HDN : Hid (ad.block ≠ g) := hide (by omega)
      have HVL : Hid (vs.length = r) := hide (by have h := hov.len; rw [Nat.mul_one] at h; exact h)
      clear hov hrs hb hcy8 hcx8 hsy hsx hadl hg hyi
      go_upto_region 28 with fail
      refine wp_region_noPanic ?_
      refine wp_region_held_drew (S := fun w' => w9.grownBy w' (some g)) (by kernel_rfl) ((World.grownBy.refl _ _).trans (grownBy_of_below (Below.refl _ _).drew _)) (fun hT0 => ?_)
      refine wpAnyH_tk 0 (v := .slice (some ⟨g, 0, none⟩) r c9) rfl (by kernel_rfl) (by kernel_rfl) (by kernel_rfl) (yi rfl fun w' hw' => gives_move (.inl rfl) rfl) hT0 ?_
      go_frame
      refine wpAnyH_tk 1 (v := .int .i64 x) rfl (by kernel_rfl) (by kernel_rfl) (by kernel_rfl) (yi rfl fun w' hw' => gives_move (.inl rfl) rfl) hT0 ?_
      go_frame
      refine wpAnyH_tk 2 (v := .slice (some ⟨g, 0, none⟩) r c9) rfl (by kernel_rfl) (by kernel_rfl) (by kernel_rfl) (yi rfl fun w' hw' => gives_move (.inl rfl) rfl) hT0 ?_
      go_frame
      refine wpAnyH_tk 3 (v := .int .i64 y) rfl (by kernel_rfl) (by kernel_rfl) (by kernel_rfl) (yi rfl fun w' hw' => gives_move (.inl rfl) rfl) hT0 ?_
      go_frame
      refine wpAnyH_tk 4 (v := .slice (some ad) r mc) rfl (by kernel_rfl) (by kernel_rfl) (by kernel_rfl) (yi rfl fun w' hw' => gives_move (.inl rfl) rfl) hT0 ?_
      go_frame
      refine wpAnyH_tk 5 (v := .int .i64 y) rfl (by kernel_rfl) (by kernel_rfl) (by kernel_rfl) (yi rfl fun w' hw' => gives_move (.inl rfl) rfl) hT0 ?_
      go_frame
      refine wpAnyH_tk 6 (v := .pointer (some (ad.add y))) rfl (by kernel_rfl) (by kernel_rfl) (by kernel_rfl) (yi rfl fun w' hw' => gives_indexA rfl Try.underlying22 (fun w => by kernel_rfl) rfl rfl hyk) hT0 ?_
      go_frame
      refine wpAnyH_tk 7 (v := .slice By my dy) rfl (by kernel_rfl) (by kernel_rfl) (by kernel_rfl) (yi rfl fun w' hw' => gives_load1 rfl (by kernel_rfl) rfl ((hw'.cell_far (ad.add y) (by rw [block_of_add]; exact HAL.out) (by rw [block_of_add]; exact fun e => HDN.out (by injection e))).trans HCY.out)) hT0 ?_
      go_frame
      refine wpAnyH_tk 8 (v := .slice (some ad) r mc) rfl (by kernel_rfl) (by kernel_rfl) (by kernel_rfl) (yi rfl fun w' hw' => gives_move (.inl rfl) rfl) hT0 ?_
      go_frame
      refine wpAnyH_tk 9 (v := .int .i64 x) rfl (by kernel_rfl) (by kernel_rfl) (by kernel_rfl) (yi rfl fun w' hw' => gives_move (.inl rfl) rfl) hT0 ?_
      go_frame
      refine wpAnyH_tk 10 (v := .pointer (some (ad.add x))) rfl (by kernel_rfl) (by kernel_rfl) (by kernel_rfl) (yi rfl fun w' hw' => gives_indexA rfl Try.underlying22 (fun w => by kernel_rfl) rfl rfl hx) hT0 ?_
      go_frame
      refine wpAnyH_tk 11 (v := .slice Bx mx dx') rfl (by kernel_rfl) (by kernel_rfl) (by kernel_rfl) (yi rfl fun w' hw' => gives_load1 rfl (by kernel_rfl) rfl ((hw'.cell_far (ad.add x) (by rw [block_of_add]; exact HAL.out) (by rw [block_of_add]; exact fun e => HDN.out (by injection e))).trans HCX.out)) hT0 ?_
      go_frame
      refine wpAnyH_tk 12 (v := .pointer (some ⟨g, x * 1, none⟩)) rfl (by kernel_rfl) (by kernel_rfl) (by kernel_rfl) (yi rfl fun w' hw' => gives_indexB rfl Try.underlying22 (fun w => by kernel_rfl) rfl rfl hx) hT0 ?_
      go_frame
      rw [Nat.mul_one]
      have hvx := HOV.out.cellAt (j := x) (by omega)
      refine wpAnyH_1 13 rfl (by kernel_rfl) ?_
      refine wp_storeS rfl (by kernel_rfl) (by kernel_rfl) rfl rfl (hvx.trans (List.getElem?_eq_getElem (by rw [HVL.out]; exact hx))) (HOV.out.frozen x) ?_
      have hov2 := HOV.out.set_ x (.slice By my dy)
      have hS2 : w9.grownBy (w9.drew.setCell ⟨g, x, none⟩ (.slice By my dy)) (some g) := hT0.trans (grownBy_set1 _ g x _)
      refine ⟨hS2, ?_⟩
      go_frame
      refine wpAnyH_tk 14 (v := .pointer (some ⟨g, y * 1, none⟩)) rfl (by kernel_rfl) (by kernel_rfl) (by kernel_rfl) (yi rfl fun w' hw' => gives_indexB rfl Try.underlying22 (fun w => by kernel_rfl) rfl rfl hyk) hS2 ?_
      go_frame
      rw [Nat.mul_one]
      have hvy := hov2.cellAt (j := y) (by omega)
      refine wpAnyH_1 15 rfl (by kernel_rfl) ?_
      refine wp_storeS rfl (by kernel_rfl) (by kernel_rfl) rfl rfl (hvy.trans (List.getElem?_eq_getElem (by rw [List.length_set, HVL.out]; exact hyk))) (hov2.frozen y) ?_
      have hov3 := hov2.set_ y (.slice Bx mx dx')
      have hS3 : w9.grownBy ((w9.drew.setCell ⟨g, x, none⟩ (.slice By my dy)).setCell ⟨g, y, none⟩ (.slice Bx mx dx')) (some g) := hS2.trans (grownBy_set1 _ g y _)
      refine ⟨hS3, ?_⟩
      go_frame
      refine wpAnyH_done (by kernel_rfl) (noPanic_mk ?_) _
      have hgg := (HOV.out.lt g rfl).1
      have hb : Below wr.heap.size wr ((w9.drew.setCell ⟨g, x, none⟩ (.slice By my dy)).setCell ⟨g, y, none⟩ (.slice Bx mx dx')) := (HB9.out.drew.setCell hgg _).setCell hgg _
      have HSW : Hid (SPP ((w9.drew.setCell ⟨g, x, none⟩ (.slice By my dy)).setCell ⟨g, y, none⟩ (.slice Bx mx dx')) (some ⟨g, 0, none⟩) r c9 (swapP (mM raw r r) x y)) := hide (hov3.spp (HRS.out.below hb))
      replace HM := hide (HM.out.below hb)
      replace HT := hide (HT.out.below hb)
      replace HG := hide (HG.out.below hb HG.out.lt)
      replace SD := hide (SD.out.below hb)
      replace HXW := hide (HXW.out.trans (hb.mono HXW.out.size))
      clear hgg hb hov2 hov3 hT0 hS2 hS3 hvx hvy HOV HRS HB9 HDN HAL HVL HCX HCY
      generalize (w9.drew.setCell ⟨g, x, none⟩ (.slice By my dy)).setCell ⟨g, y, none⟩ (.slice Bx mx dx') = w10 at *
      obtain ⟨⟨d1, s1⟩, hd1⟩ : ∃ z, LP.canon (detR r (peM raw r)) = z := ⟨_, rfl⟩
      obtain ⟨⟨d2, s2⟩, hd2⟩ : ∃ z, LP.canon (-(detR r (peM raw r))) = z := ⟨_, rfl⟩
      have HSL : Hid (s2.length = s1.length) := hide (by have h := neg_canon (detR r (peM raw r)); rw [hd1, hd2] at h; exact h)
      have HAD : Hid (LP.addR d1 s1 d2 s2 = (0, 0, [])) := hide (add_neg_canon (by omega) hd1 hd2)
      have HW1 := hide (cP_wf (x := detR r (peM raw r)) (det_rt (by omega) fun i _ j _ => pe_n1 raw _) hd1)
      have HW2 := hide (cP_wf (x := -(detR r (peM raw r))) (negdet_rt raw (by omega)) hd2)
      rw [hd1] at HDM
      rw [hd2] at HDS
      have HDT2 : Hid (detPR (mT raw r r) = (0, dl, ds)) := hide (by rw [HDT.out, show (LP.canon (diagP (peT raw r) r)).1 = dl from congrArg Prod.fst HD.out, show (LP.canon (diagP (peT raw r) r)).2 = ds from congrArg Prod.snd HD.out])
      clear HDT HD hd1 hd2
      go_wp2_with fail
      refine (HF.out.det _ r mc _ _ HM.out).mono ?_
      rintro e w21 ⟨P1, p1, c1, rfl, hs, hnw, hb⟩
      replace HM := hide (HM.out.below hb)
      replace HT := hide (HT.out.below hb)
      replace HG := hide (HG.out.below hb HG.out.lt)
      replace SD := hide (SD.out.below hb)
      replace HXW := hide (HXW.out.trans (hb.mono HXW.out.size))
      replace HSW := hide (HSW.out.below hb)
      rw [HDM.out] at hs ⊢
      dsimp only at hs ⊢
      have S1 := hide hs
      clear hb hs hnw
      go_upto_region 30 with fail
      have hb : Below w21.heap.size w21 (w21.alloc (.cells #[.int .i64 d1, .slice P1 p1 c1] 25)) := (Below.refl _ _).alloc (Nat.le_refl _) _
      have B21 := hide (Blk.new w21 25 #[.int .i64 d1, .slice P1 p1 c1])
      replace HM := hide (HM.out.below hb)
      replace HT := hide (HT.out.below hb)
      replace HG := hide (HG.out.below hb HG.out.lt)
      replace SD := hide (SD.out.below hb)
      replace HXW := hide (HXW.out.trans (hb.mono HXW.out.size))
      replace HSW := hide (HSW.out.below hb)
      replace S1 := hide (S1.out.below hb)
      obtain ⟨b21, hq⟩ : ∃ q, w21.heap.size = q := ⟨_, rfl⟩
      obtain ⟨w22, hw⟩ : ∃ x, w21.alloc (.cells #[.int .i64 d1, .slice P1 p1 c1] 25) = x := ⟨_, rfl⟩
      rw [hw] at B21 HM HT HG SD HXW HSW S1 ⊢
      rw [hq] at B21  ⊢
      clear hb hw hq
      go_wp2_with fail
      refine (HF.out.det _ r c9 _ _ HSW.out).mono ?_
      rintro e w23 ⟨P2, p2, c2, rfl, hs, hnw, hb⟩
      replace HM := hide (HM.out.below hb)
      replace HT := hide (HT.out.below hb)
      replace HG := hide (HG.out.below hb HG.out.lt)
      replace SD := hide (SD.out.below hb)
      replace HXW := hide (HXW.out.trans (hb.mono HXW.out.size))
      replace HSW := hide (HSW.out.below hb)
      replace S1 := hide (S1.out.below hb)
      replace B21 := hide (B21.out.below hb B21.out.lt)
      rw [HDS.out] at hs ⊢
      dsimp only at hs ⊢
      have S2 := hide hs
      clear hb hs hnw
      go_upto_region 31 with fail
      have hb : Below w23.heap.size w23 (w23.alloc (.cells #[.int .i64 d2, .slice P2 p2 c2] 25)) := (Below.refl _ _).alloc (Nat.le_refl _) _
      have B23 := hide (Blk.new w23 25 #[.int .i64 d2, .slice P2 p2 c2])
      replace HM := hide (HM.out.below hb)
      replace HT := hide (HT.out.below hb)
      replace HG := hide (HG.out.below hb HG.out.lt)
      replace SD := hide (SD.out.below hb)
      replace HXW := hide (HXW.out.trans (hb.mono HXW.out.size))
      replace HSW := hide (HSW.out.below hb)
      replace S1 := hide (S1.out.below hb)
      replace B21 := hide (B21.out.below hb B21.out.lt)
      replace S2 := hide (S2.out.below hb)
      obtain ⟨b23, hq⟩ : ∃ q, w23.heap.size = q := ⟨_, rfl⟩
      obtain ⟨w24, hw⟩ : ∃ x, w23.alloc (.cells #[.int .i64 d2, .slice P2 p2 c2] 25) = x := ⟨_, rfl⟩
      rw [hw] at B23 HM HT HG SD HXW HSW S1 B21 S2 ⊢
      rw [hq] at B23  ⊢
      clear hb hw hq
      go_wp2_with fail
      refine (HF.out.det _ r tc _ _ HT.out).mono ?_
      rintro e w25 ⟨P3, p3, c3, rfl, hs, hnw, hb⟩
      replace HM := hide (HM.out.below hb)
      replace HT := hide (HT.out.below hb)
      replace HG := hide (HG.out.below hb HG.out.lt)
      replace SD := hide (SD.out.below hb)
      replace HXW := hide (HXW.out.trans (hb.mono HXW.out.size))
      replace HSW := hide (HSW.out.below hb)
      replace S1 := hide (S1.out.below hb)
      replace B21 := hide (B21.out.below hb B21.out.lt)
      replace S2 := hide (S2.out.below hb)
      replace B23 := hide (B23.out.below hb B23.out.lt)
      rw [HDT2.out] at hs ⊢
      dsimp only at hs ⊢
      have S3 := hide hs
      clear hb hs hnw
      go_upto_region 32 with fail
      have hb : Below w25.heap.size w25 (w25.alloc (.cells #[.int .i64 dl, .slice P3 p3 c3] 25)) := (Below.refl _ _).alloc (Nat.le_refl _) _
      have B25 := hide (Blk.new w25 25 #[.int .i64 dl, .slice P3 p3 c3])
      replace HM := hide (HM.out.below hb)
      replace HT := hide (HT.out.below hb)
      replace HG := hide (HG.out.below hb HG.out.lt)
      replace SD := hide (SD.out.below hb)
      replace HXW := hide (HXW.out.trans (hb.mono HXW.out.size))
      replace HSW := hide (HSW.out.below hb)
      replace S1 := hide (S1.out.below hb)
      replace B21 := hide (B21.out.below hb B21.out.lt)
      replace S2 := hide (S2.out.below hb)
      replace B23 := hide (B23.out.below hb B23.out.lt)
      replace S3 := hide (S3.out.below hb)
      obtain ⟨b25, hq⟩ : ∃ q, w25.heap.size = q := ⟨_, rfl⟩
      obtain ⟨w26, hw⟩ : ∃ x, w25.alloc (.cells #[.int .i64 dl, .slice P3 p3 c3] 25) = x := ⟨_, rfl⟩
      rw [hw] at B25 HM HT HG SD HXW HSW S1 B21 S2 B23 S3 ⊢
      rw [hq] at B25  ⊢
      clear hb hw hq
      have hp12 : p2 = p1 := by rw [← S2.out.il.len, ← S1.out.il.len]; exact HSL.out
      subst hp12
      go_wp2_with fail
      refine (multiplied_k HFP.out _).mono ?_
      rintro e w27 ⟨rfl, hb⟩
      replace HM := hide (HM.out.below hb)
      replace HT := hide (HT.out.below hb)
      replace HG := hide (HG.out.below hb HG.out.lt)
      replace SD := hide (SD.out.below hb)
      replace HXW := hide (HXW.out.trans (hb.mono HXW.out.size))
      replace HSW := hide (HSW.out.below hb)
      replace S1 := hide (S1.out.below hb)
      replace B21 := hide (B21.out.below hb B21.out.lt)
      replace S2 := hide (S2.out.below hb)
      replace B23 := hide (B23.out.below hb B23.out.lt)
      replace S3 := hide (S3.out.below hb)
      replace B25 := hide (B25.out.below hb B25.out.lt)
      clear hb
      go_wp2_with fail
      refine (HF.out.check _ r mc _ _ HM.out).mono ?_
      rintro e w28 ⟨rfl, hb⟩
      replace HM := hide (HM.out.below hb)
      replace HT := hide (HT.out.below hb)
      replace HG := hide (HG.out.below hb HG.out.lt)
      replace SD := hide (SD.out.below hb)
      replace HXW := hide (HXW.out.trans (hb.mono HXW.out.size))
      replace HSW := hide (HSW.out.below hb)
      replace S1 := hide (S1.out.below hb)
      replace B21 := hide (B21.out.below hb B21.out.lt)
      replace S2 := hide (S2.out.below hb)
      replace B23 := hide (B23.out.below hb B23.out.lt)
      replace S3 := hide (S3.out.below hb)
      replace B25 := hide (B25.out.below hb B25.out.lt)
      rw [HMS.out]
      clear hb
      have x0 := B21.out.cell 0
      have x1 := B21.out.cell 1
      simp at x0 x1
      have y0 := B23.out.cell 0
      have y1 := B23.out.cell 1
      simp at y0 y1
      go_wp2_with fail
      refine (add_k HFP.out d1 P1 p2 c1 s1 d2 P2 p2 c2 s2 _ S1.out S2.out HW1.out HW2.out).mono ?_
      rintro e w29 ⟨A4, a4, c4', rfl, hs, hnw, hb⟩
      replace HM := hide (HM.out.below hb)
      replace HT := hide (HT.out.below hb)
      replace HG := hide (HG.out.below hb HG.out.lt)
      replace SD := hide (SD.out.below hb)
      replace HXW := hide (HXW.out.trans (hb.mono HXW.out.size))
      replace HSW := hide (HSW.out.below hb)
      replace S1 := hide (S1.out.below hb)
      replace B21 := hide (B21.out.below hb B21.out.lt)
      replace S2 := hide (S2.out.below hb)
      replace B23 := hide (B23.out.below hb B23.out.lt)
      replace S3 := hide (S3.out.below hb)
      replace B25 := hide (B25.out.below hb B25.out.lt)
      rw [HAD.out] at hs ⊢
      dsimp only at hs ⊢
      have S4 := hide hs
      clear hb hs hnw x0 x1 y0 y1
      go_wp2_with fail
      refine (same_k 0 A4 a4 c4' [] 0 none 0 0 [] _ S4.out (SL.nil_ _)).mono ?_
      rintro e w30 ⟨rfl, hb⟩
      replace HM := hide (HM.out.below hb)
      replace HT := hide (HT.out.below hb)
      replace HG := hide (HG.out.below hb HG.out.lt)
      replace SD := hide (SD.out.below hb)
      replace HXW := hide (HXW.out.trans (hb.mono HXW.out.size))
      replace HSW := hide (HSW.out.below hb)
      replace S1 := hide (S1.out.below hb)
      replace B21 := hide (B21.out.below hb B21.out.lt)
      replace S2 := hide (S2.out.below hb)
      replace B23 := hide (B23.out.below hb B23.out.lt)
      replace S3 := hide (S3.out.below hb)
      replace B25 := hide (B25.out.below hb B25.out.lt)
      replace S4 := hide (S4.out.below hb)
      rw [show (decide ((0 : Int) = 0) && eqB [] []) = true by rw [eqB_true rfl]; rfl]
      clear hb
      have hpp : ((p2 : Int) == (p2 : Int)) = true := by simp
      have x0 := B21.out.cell 0
      have x1 := B21.out.cell 1
      simp at x0 x1
      have y0 := B23.out.cell 0
      have y1 := B23.out.cell 1
      simp at y0 y1
      have z0 := B25.out.cell 0
      have z1 := B25.out.cell 1
      simp at z0 z1
      have u0 := HG.out.cell 0
      have u1 := HG.out.cell 1
      simp at u0 u1
      go_wp2_with fail
      refine (same_k dl P3 p3 c3 ds dl D dn dd ds _ S3.out SD.out).mono ?_
      rintro e w31 ⟨rfl, hb⟩
      replace HM := hide (HM.out.below hb)
      replace HT := hide (HT.out.below hb)
      replace HG := hide (HG.out.below hb HG.out.lt)
      replace SD := hide (SD.out.below hb)
      replace HXW := hide (HXW.out.trans (hb.mono HXW.out.size))
      replace HSW := hide (HSW.out.below hb)
      replace S1 := hide (S1.out.below hb)
      replace B21 := hide (B21.out.below hb B21.out.lt)
      replace S2 := hide (S2.out.below hb)
      replace B23 := hide (B23.out.below hb B23.out.lt)
      replace S3 := hide (S3.out.below hb)
      replace B25 := hide (B25.out.below hb B25.out.lt)
      replace S4 := hide (S4.out.below hb)
      rw [show (decide (dl = dl) && eqB ds ds) = true by rw [eqB_true rfl]; simp]
      clear hb
      go_wp2_with fail
      go_ret
      exact ⟨rfl, HXW.out⟩
end Go.Proofs.Ytgmjighgncpefaa
