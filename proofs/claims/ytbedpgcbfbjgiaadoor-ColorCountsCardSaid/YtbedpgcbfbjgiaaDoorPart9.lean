/- Several texts in one. -/
import Derived.Test.YtbedpgcbfbjgiaaDoorPart2
import Derived.Test.YtbedpgcbfbjgiaaDoorPart8
import Derived.Test.YtbedpgcbfbjgiaaDoorBase1
/- timblaw1.ColorCounts, for a package coloring that answers as it should. (Written by tools/gen_ccnt.py.) -/
namespace Go.Proofs.YtbedpgcbfbjgiaaDoor
set_option linter.unusedVariables false
set_option linter.unusedSimpArgs false
open Go.RowKit

theorem eCC1 : ∀ args w, (callFunc 9 args).run Tryd.prog w = .ok (.enter 9 args) w := enters (fn := Tryd.f9) (by kernel_rfl) (by kernel_rfl) (by kernel_rfl)
set_option maxRecDepth 100000 in
set_option maxHeartbeats 2000000 in
theorem cc1_any (x kk : Int) (b : Nat) (w : World) (hc : w.cell? ⟨b, 0, none⟩ = some (.int .i64 kk)) :
    Calls Tryd.prog 9 #[.int .i64 x, .pointer (some ⟨b, 0, none⟩)] w fun e w' => e = .returned (.bool (decide (x < 0) || decide (kk ≤ x))) ∧ w = w' := by
  by_cases h1 : x < 0
  · have d1 : decide (x < 0) = true := by simpa using h1
    have HR : Hid ((decide (x < 0) || decide (kk ≤ x)) = true) := hide (by rw [d1]; rfl)
    clear h1
    go_enter Tryd.func9, Tryd.ntmps9
    go_wp2_with fail
    go_ret
    rw [HR.out]
    exact ⟨rfl, rfl⟩
  · have d1 : decide (x < 0) = false := by simpa using h1
    by_cases h2 : kk ≤ x
    · have d2 : decide (kk ≤ x) = true := by simpa using h2
      have HR : Hid ((decide (x < 0) || decide (kk ≤ x)) = true) := hide (by rw [d1, d2]; rfl)
      clear h1 h2
      go_enter Tryd.func9, Tryd.ntmps9
      go_wp2_with fail
      go_ret
      rw [HR.out]
      exact ⟨rfl, rfl⟩
    · have d2 : decide (kk ≤ x) = false := by simpa using h2
      have HR : Hid ((decide (x < 0) || decide (kk ≤ x)) = false) := hide (by rw [d1, d2]; rfl)
      clear h1 h2
      go_enter Tryd.func9, Tryd.ntmps9
      go_wp2_with fail
      go_ret
      rw [HR.out]
      exact ⟨rfl, rfl⟩
theorem digs_succ (k j q : Nat) : digs k (j + 1) q = digs k j q ++ [((q / k ^ j % k : Nat) : Int)] := by
  unfold digs
  rw [List.range_succ, List.map_append]
  rfl
theorem cc_append {w wr w9 : World} {j c5 c9 : Nat} {A5 A9 : Option Addr} {ys zz : List Int} (hnx : Below w.heap.size w wr) (hown : OwnI wr w.heap.size A5 j c5 ys) {o : Obj} (happ : Appended (wr.alloc o) w.heap.size A5 (j + 1) c5 zz A9 c9 w9) : Below w.heap.size w w9 :=
  (hnx.alloc hnx.size o).grown happ.grown (Nat.le_trans hnx.size (by simp)) (fun g hg => (hown.lt g (by rw [ownBlock_len A5 j (j + 1) c5 c5]; exact hg)).1)
/-- How many of the first lists of colors stay. -/
def cntQ (N k : Nat) (xs : List Int) (q : Nat) : Nat := (List.range q).countP fun i => decide (cCol k xs (digs k N i) = digs k N i)
theorem cntQ_succ (N k : Nat) (xs : List Int) (q : Nat) : cntQ N k xs (q + 1) = cntQ N k xs q + if cCol k xs (digs k N q) = digs k N q then 1 else 0 := by
  unfold cntQ
  rw [List.range_succ, List.countP_append, List.countP_singleton]
  simp
theorem cntQ_le (N k : Nat) (xs : List Int) (q : Nat) : cntQ N k xs q ≤ q := by
  unfold cntQ
  have := List.countP_le_length (p := fun i => decide (cCol k xs (digs k N i) = digs k N i)) (l := List.range q)
  rwa [List.length_range] at this
theorem colE_bad {nn kk : Int} {xs : List Int} (h : bfault nn xs ≠ 0) : colE nn xs kk = bfault nn xs := by unfold colE; rw [if_pos h]
theorem colE_out {nn kk : Int} {xs : List Int} (h : bfault nn xs = 0) (hk : kk < 1 ∨ 13 < kk) : colE nn xs kk = 1 := by unfold colE; rw [h, if_neg (by simp), if_pos hk]
theorem colE_in {nn kk : Int} {xs : List Int} (h : bfault nn xs = 0) (hk : ¬ (kk < 1 ∨ 13 < kk)) : colE nn xs kk = 0 := by unfold colE; rw [h, if_neg (by simp), if_neg hk]
theorem colV_bad {nn kk : Int} {xs : List Int} (h : colE nn xs kk ≠ 0) : colV nn xs kk = 0 := by unfold colV; rw [if_neg h]
theorem proE_bad {nn kk : Int} {xs ys : List Int} (h : colE nn xs kk ≠ 0) : proE nn xs ys kk = colE nn xs kk := by unfold proE; rw [if_pos h]
theorem proV_bad {nn kk : Int} {xs ys : List Int} (h : proE nn xs ys kk ≠ 0) : proV nn xs ys kk = [] := by unfold proV; rw [if_neg h]

set_option maxRecDepth 100000 in
set_option maxHeartbeats 8000000 in
theorem colorCounts_any (F : ColC) (nn : Int) (A : Option Addr) (n c : Nat) (xs : List Int) (B : Option Addr) (m d : Nat) (ys : List Int) (kk : Int) (w : World) (ha : SL w A n c xs) (hb : SL w B m d ys) (hwn : (Lit.int .i64 nn).wf = true) (hwk : (Lit.int .i64 kk).wf = true) (hT : TabW w) :
    Calls Tryd.prog 3 #[.int .i64 nn, .slice A n c, .slice B m d, .int .i64 kk] w fun e w' => e = .returned (.bool true) ∧ Below w.heap.size w w' := by
  have hmf : ∀ (fn : Fn) (first cap : Array Value) (w : World), (Instr.makeFunc fn first cap).run Tryd.prog w = .ok (.func fn first cap) w := fun _ _ _ _ => rfl
  have HF := hide F
  have HTB := hide hT
  clear hT
  have HWN := hide hwn
  have HWK := hide hwk
  obtain ⟨i0, hi0, hz0, hz1, hz2⟩ := info_parts int_info
  have HI0 := hide hi0
  have HZ0 := hide hz0
  have HZ1 := hide hz1
  have HZ2 := hide hz2
  have hb0 : Below w.heap.size w ((w.alloc (.cells #[.int .i64 kk] 3)).alloc (.cells #[.int .i64 1, .int .i64 1, .int .i64 1] 3)) := ((Below.refl _ _).alloc (Nat.le_refl _) _).alloc (by simp) _
  have HA := hide (ha.below hb0)
  have HB := hide (hb.below hb0)
  have BX := hide ((Blk.new w 3 #[.int .i64 kk]).alloc (.cells #[.int .i64 1, .int .i64 1, .int .i64 1] 3))
  have HS := hide (SL.lit (w.alloc (.cells #[.int .i64 kk] 3)) [1, 1, 1] (by decide) rfl rfl)
  rw [World.size_alloc] at HS
  have HW := hide hb0
  clear F ha hb hwn hwk hi0 hz0 hz1 hz2 hb0
  go_enter Tryd.func3, Tryd.ntmps3
  go_wp2_with fail
  refine (HF.out.count 2 _ 3 3 [1, 1, 1] 3 _ HS.out (HTB.out.below HW.out) (by decide) (by decide)).mono ?_
  rintro e w11 ⟨rfl, hb⟩
  rw [col_111.1, col_111.2]
  replace HW := hide (HW.out.trans (hb.mono HW.out.size))
  replace HA := hide (HA.out.below hb)
  replace HB := hide (HB.out.below hb)
  replace BX := hide (BX.out.below hb BX.out.lt)
  clear hb HS
  have hx0 := BX.out.cell 0
  simp at hx0
  go_wp2_with fail
  refine (HF.out.prop nn A n c xs B m d ys kk _ HA.out HB.out HWN.out HWK.out).mono ?_
  rintro e w12 ⟨L, ln, lc, rfl, hs, hb⟩
  replace HW := hide (HW.out.trans (hb.mono HW.out.size))
  replace HA := hide (HA.out.below hb)
  replace HB := hide (HB.out.below hb)
  replace BX := hide (BX.out.below hb BX.out.lt)
  have SL1 := hide hs
  clear hb hs hx0
  have hx0 := BX.out.cell 0
  simp at hx0
  go_wp2_with fail
  refine (HF.out.count nn A n c xs kk _ HA.out (HTB.out.below HW.out) HWN.out HWK.out).mono ?_
  rintro e w13 ⟨rfl, hb⟩
  replace HW := hide (HW.out.trans (hb.mono HW.out.size))
  replace HA := hide (HA.out.below hb)
  replace HB := hide (HB.out.below hb)
  replace SL1 := hide (SL1.out.below hb)
  replace BX := hide (BX.out.below hb BX.out.lt)
  clear hb hx0
  have hx0 := BX.out.cell 0
  simp at hx0
  go_wp2_with fail
  refine (braidFault_any nn A n c xs _ HA.out.il HWN.out).mono ?_
  rintro e w14 ⟨rfl, hww⟩
  subst hww
  by_cases hbf : bfault nn xs = 0
  case neg =>
    have hce := colE_bad (kk := kk) hbf
    have hcn : colE nn xs kk ≠ 0 := by rw [hce]; exact hbf
    have hpe := (proE_bad (ys := ys) hcn).trans hce
    have hpv := proV_bad (ys := ys) (kk := kk) (xs := xs) (nn := nn) (by rw [hpe]; exact hbf)
    have hcv := colV_bad hcn
    rw [hce, hcv, hpe]
    rw [hpv] at SL1
    clear hce hcn hpe hpv hcv
    generalize bfault nn xs = z at *
    have z1 : (z == 0) = false := by simpa using hbf
    have z2 : (z != 0) = true := by simpa using hbf
    have z3 : (z != z) = false := by simp
    clear hbf
    go_wp2_with fail
    refine (equal_any L none ln 0 lc 0 [] [] _ SL1.out.il (SL.nil_ _).il).mono ?_
    rintro e w15 ⟨rfl, hb⟩
    rw [eqB_true rfl]
    replace HW := hide (HW.out.trans (hb.mono HW.out.size))
    clear hb hx0
    go_wp2_with fail
    go_ret
    exact ⟨rfl, HW.out⟩
  by_cases hk : kk < 1 ∨ 13 < kk
  case pos =>
    have hce := colE_out (kk := kk) hbf hk
    have hcn : colE nn xs kk ≠ 0 := by rw [hce]; decide
    have hpe := (proE_bad (ys := ys) hcn).trans hce
    have hpv := proV_bad (ys := ys) (kk := kk) (xs := xs) (nn := nn) (by rw [hpe]; decide)
    have hcv := colV_bad hcn
    rw [hce, hcv, hpe, hbf]
    rw [hpv] at SL1
    clear hce hcn hpe hpv hcv hbf
    by_cases hk1 : kk < 1
    · have d1 : decide (kk < 1) = true := by simpa using hk1
      clear hk hk1
      go_wp2_with fail
      refine (equal_any L none ln 0 lc 0 [] [] _ SL1.out.il (SL.nil_ _).il).mono ?_
      rintro e w15 ⟨rfl, hb⟩
      rw [eqB_true rfl]
      replace HW := hide (HW.out.trans (hb.mono HW.out.size))
      clear hb hx0
      go_wp2_with fail
      go_ret
      exact ⟨rfl, HW.out⟩
    · have d1 : decide (kk < 1) = false := by simpa using hk1
      have d2 : decide (13 < kk) = true := by simp; omega
      clear hk hk1
      go_wp2_with fail
      refine (equal_any L none ln 0 lc 0 [] [] _ SL1.out.il (SL.nil_ _).il).mono ?_
      rintro e w15 ⟨rfl, hb⟩
      rw [eqB_true rfl]
      replace HW := hide (HW.out.trans (hb.mono HW.out.size))
      clear hb hx0
      go_wp2_with fail
      go_ret
      exact ⟨rfl, HW.out⟩
  have hz := bfault_zero hbf
  have hce := colE_in (kk := kk) hbf hk
  obtain ⟨N, rfl⟩ : ∃ N : Nat, nn = (N : Int) := ⟨nn.toNat, by omega⟩
  obtain ⟨k, rfl⟩ : ∃ k : Nat, kk = (k : Int) := ⟨kk.toNat, by omega⟩
  have hk1 : 1 ≤ k := by omega
  have hk13 : k ≤ 13 := by omega
  have hN1 : 1 ≤ N := by omega
  have hN6 : N ≤ 6 := by omega
  have HOK : Hid (∀ x ∈ xs, x ≠ 0 ∧ x.natAbs < N) := hide (fun x hx => by have := hz.2.2.2 x hx; omega)
  have hcv : colV (N : Int) xs (k : Int) = cntC N k xs := by unfold colV; rw [if_pos hce, Int.toNat_natCast, Int.toNat_natCast]
  rw [hce, hcv, hbf]
  have d1 : decide ((k : Int) < 1) = false := by simp; omega
  have d2 : decide ((13 : Int) < (k : Int)) = false := by simp; omega
  have HCE := hide hce
  have hln := HB.out.il.len
  have HLN := hide hln
  clear hz hbf hk hcv hce hln
  by_cases hm : m = N
  case neg =>
    have hpe : proE (N : Int) xs ys (k : Int) = 3 := by unfold proE; rw [HCE.out, if_neg (by simp), if_pos (by rw [HLN.out]; omega)]
    have hpv := proV_bad (ys := ys) (kk := k) (xs := xs) (nn := N) (by rw [hpe]; decide)
    rw [hpe]
    rw [hpv] at SL1
    have hmn : ((m : Int) != (N : Int)) = true := by simp; omega
    clear hpe hpv HCE HLN hm
    go_wp2_with fail
    refine (equal_any L none ln 0 lc 0 [] [] _ SL1.out.il (SL.nil_ _).il).mono ?_
    rintro e w15 ⟨rfl, hb⟩
    rw [eqB_true rfl]
    replace HW := hide (HW.out.trans (hb.mono HW.out.size))
    replace HA := hide (HA.out.below hb)
    replace BX := hide (BX.out.below hb BX.out.lt)
    clear hb hx0 hmn d1 d2 SL1 HB
    have hx0 := BX.out.cell 0
    simp at hx0
    have hpk : ∀ j, j ≤ N → k ^ j ≤ 4826809 := fun j hj => by
      calc k ^ j ≤ 13 ^ j := Nat.pow_le_pow_left hk13 j
        _ ≤ 13 ^ 6 := Nat.pow_le_pow_right (by omega) (by omega)
        _ = 4826809 := by decide
    have HPK := hide hpk
    clear hpk
    go_wp2_with fail
    go_loop [18, 100] (fun av iv => ∃ j : Nat, j ≤ N ∧ iv = .int .i64 j ∧ av = .int .i64 ((k ^ j : Nat) : Int)) (fun _ iv => N - (intOf iv).toNat)
    case atStart => exact ⟨0, Nat.zero_le _, rfl, rfl⟩
    case round =>
      obtain ⟨j, hj, rfl, rfl⟩ := hrel
      by_cases hlt : j < N
      · have hq := HPK.out (j + 1) (by omega)
        have hpw : IntKind.i64.wrap (((k ^ j : Nat) : Int) * (k : Int)) = ((k ^ (j + 1) : Nat) : Int) := by
          rw [Nat.pow_succ] at hq ⊢
          rw [Int.natCast_mul, IntKind.wrap_i64]
          have : ((k ^ j * k : Nat) : Int) ≤ 4826809 := by omega
          rw [Int.natCast_mul] at this
          have h0 : (0 : Int) ≤ ((k ^ j : Nat) : Int) * (k : Int) := by rw [← Int.natCast_mul]; omega
          omega
        clear hq
        generalize ((k ^ j : Nat) : Int) = a at *
        generalize hbq : ((k ^ (j + 1) : Nat) : Int) = b at *
        have HBQ := hide hbq
        clear hbq
        go_wp2_with fail
        go_round
        case rel => exact ⟨j + 1, by omega, by go_num, by rw [HBQ.out]⟩
        case measure => simp [intOf]; omega
      · have hjn : j = N := by omega
        obtain ⟨K, hK⟩ : ∃ K, k ^ j = K := ⟨_, rfl⟩
        have HKE : Hid (cntC N k xs = cntQ N k xs K) := hide (by rw [← hK, hjn]; rfl)
        have hK4 : K ≤ 4826809 := by rw [← hK]; exact HPK.out j hj
        rw [hK, HKE.out]
        clear hK HKE hjn
        by_cases hbig : 20000 < K
        · have hd : decide ((20000 : Int) < (K : Int)) = true := by simp; omega
          go_wp2_with fail
          go_ret
          exact ⟨rfl, HW.out⟩
        · have hd : decide ((20000 : Int) < (K : Int)) = false := by simp; omega
          have HB0 := hide (Below.refl w15.heap.size w15)
          clear hx0 hK4
          go_wp2_with fail
          clear hlt hj
          go_loopw [19, 20, 21, 109] (fun mv _ _ iv wr => ∃ q : Nat, q ≤ K ∧ iv = .int .i64 q ∧ mv = .int .i64 (cntQ N k xs q : Nat) ∧ Hid (Below w15.heap.size w15 wr)) (fun _ _ _ iv _ => K - (intOf iv).toNat)
          case atStart => exact ⟨0, Nat.zero_le _, rfl, rfl, HB0⟩
          case round =>
            clear HB0
            obtain ⟨q, hq, rfl, rfl, HQ⟩ := hrel
            by_cases hlq : q < K
            · have HO0 := hide (OwnI.nil_ wr w15.heap.size)
              rename World => wo
              have HQ0 := HQ
              clear HQ
              go_wp2_with fail
              go_loopw [20, 21, 113] (fun xv vv jv wr => ∃ (j c5 : Nat) (R : Option Addr), j ≤ N ∧ jv = .int .i64 j ∧ xv = .int .i64 ((q / k ^ j : Nat) : Int) ∧ vv = .slice R j c5 ∧ Hid (OwnI wr w15.heap.size R j c5 (digs k j q)) ∧ Hid (Below w15.heap.size w15 wr)) (fun _ _ jv _ => N - (intOf jv).toNat)
              case atStart => exact ⟨0, 0, none, Nat.zero_le _, rfl, by rw [Nat.pow_zero, Nat.div_one], rfl, HO0, HQ0⟩
              case round =>
                clear HO0 HQ0
                obtain ⟨j, c5, R, hj, rfl, rfl, rfl, HO, HB⟩ := hrel
                have BXr := hide (BX.out.below HB.out BX.out.lt)
                have hx0 := BXr.out.cell 0
                simp at hx0
                by_cases hlt : j < N
                · have HDG := hide (digs_succ k j q)
                  have HDV : Hid (q / k ^ j / k = q / k ^ (j + 1)) := hide (by rw [Nat.div_div_eq_div_mul, Nat.pow_succ])
                  have hle : q / k ^ j ≤ q := Nat.div_le_self _ _
                  obtain ⟨a, hae⟩ : ∃ a, q / k ^ j = a := ⟨_, rfl⟩
                  rw [hae] at HDG HDV hle ⊢
                  have hrm : ((a : Int)).tmod (k : Int) = ((a % k : Nat) : Int) := rfl
                  obtain ⟨t, ht⟩ : ∃ t : Nat, a / k = t := ⟨_, rfl⟩
                  have hta : t ≤ a := by rw [← ht]; exact Nat.div_le_self _ _
                  have hqo : IntKind.i64.wrap ((a : Int).tdiv (k : Int)) = ((t : Nat) : Int) := by
                    have h1 : (a : Int).tdiv (k : Int) = (t : Int) := by rw [← ht]; rfl
                    rw [h1, IntKind.wrap_i64]
                    omega
                  have hkz : ((k : Int) == 0) = false := by simp; omega
                  obtain ⟨r, hr⟩ : ∃ r : Int, ((a % k : Nat) : Int) = r := ⟨_, rfl⟩
                  rw [hr] at hrm HDG
                  have HQZ : Hid (wrap64 ((a : Int) / (k : Int)) = (t : Int)) := hide (by rw [show (a : Int) / (k : Int) = (t : Int) by rw [← ht]; rfl]; unfold wrap64; omega)
                  rw [ht] at HDV
                  have hsz := HB.out.size
                  clear hae hr ht hle hta
                  go_wp2_with (at_builtin; refine wpList_append_int _ rfl (.tmp 115) (.tmp 119) 22 rfl w15.heap.size i0 Tryd.underlying22 HI0.out HZ0.out HZ1.out HZ2.out R j c5 (digs k j q) rfl (HO.out.alloc _) (some ⟨_, 0, none⟩) 1 1 [r] rfl (IL.lit _ [r] (by simp) rfl rfl) (by omega) (Nat.le_trans hsz (by simp)) ?_; intro A9 c9 w9 happ; have hx9 : w9.cell? ⟨w.heap.size, 0, none⟩ = some (.int .i64 (k : Int)) := by { have h9 := (BX.out.below (cc_append HB.out HO.out happ) BX.out.lt).cell 0; simpa using h9 })
                  have HB9 := hide (cc_append HB.out HO.out happ)
                  have HO9 : Hid (OwnI w9 w15.heap.size A9 (j + 1) c9 (digs k (j + 1) q)) := hide (by rw [HDG.out]; exact happ.own)
                  clear happ HO HB BXr hx0
                  go_roundw
                  case rel => exact ⟨j + 1, c9, A9, by omega, by go_num, by rw [HQZ.out, HDV.out], by go_num, HO9, HB9⟩
                  case measure => simp [intOf]; omega
                · have hjn : j = N := by omega
                  have SV := hide HO.out.sl
                  rw [hjn] at SV
                  have HIC := hide (digs_isC (n := N) hk1 q)
                  have HA2 := hide (HA.out.below HB.out)
                  have HCR := hide (colored_r A n c xs R N c5 (digs k N q) k N _ HA2.out SV.out HIC.out HOK.out (by omega) (by omega) (by omega))
                  have HQS := hide (cntQ_succ N k xs q)
                  have hql := cntQ_le N k xs q
                  rw [hjn]
                  clear HO hj hjn BXr
                  generalize digs k N q = dg at *
                  go_wp2_with fail
                  refine HCR.out.mono ?_
                  rintro e w17 ⟨G, gn, gc, rfl, ho, hb⟩
                  have SG := hide ho.sl
                  have HB2 := hide (HB.out.trans (hb.mono HB.out.size))
                  replace SV := hide (SV.out.below hb)
                  clear ho hb hx0 HCR HB
                  by_cases hfx : cCol k xs dg = dg
                  · rw [if_pos hfx] at HQS
                    have hwc : IntKind.i64.wrap (((cntQ N k xs q : Nat) : Int) + 1) = ((cntQ N k xs (q + 1) : Nat) : Int) := by rw [HQS.out, IntKind.wrap_i64]; omega
                    have HEQ := hide (equal_any G R gn N gc c5 _ _ _ SG.out.il SV.out.il)
                    rw [eqB_true hfx] at HEQ
                    clear hfx hql
                    generalize hc1 : ((cntQ N k xs (q + 1) : Nat) : Int) = z1 at *
                    have HC1 := hide hc1
                    clear hc1 HQS
                    generalize ((cntQ N k xs q : Nat) : Int) = z0 at *
                    go_wp2_with fail
                    refine HEQ.out.mono ?_
                    rintro e w18 ⟨rfl, hb⟩
                    replace HB2 := hide (HB2.out.trans (hb.mono HB2.out.size))
                    clear hb HEQ
                    go_wp2_with fail
                    go_roundw
                    case rel => exact ⟨q + 1, by omega, by go_num, by rw [HC1.out], HB2⟩
                    case measure => simp [intOf]; omega
                  · rw [if_neg hfx] at HQS
                    have HEQ := hide (equal_any G R gn N gc c5 _ _ _ SG.out.il SV.out.il)
                    rw [eqB_false hfx] at HEQ
                    clear hfx hql
                    go_wp2_with fail
                    refine HEQ.out.mono ?_
                    rintro e w18 ⟨rfl, hb⟩
                    replace HB2 := hide (HB2.out.trans (hb.mono HB2.out.size))
                    clear hb HEQ
                    go_wp2_with fail
                    go_roundw
                    case rel => exact ⟨q + 1, by omega, by go_num, by rw [HQS.out, Nat.add_zero], HB2⟩
                    case measure => simp [intOf]; omega
            · have hqk : q = K := by omega
              have HWW := hide (HW.out.trans (HQ.out.mono HW.out.size))
              have hee : (((cntQ N k xs K : Nat) : Int) == ((cntQ N k xs q : Nat) : Int)) = true := by rw [hqk]; simp
              clear hqk HQ
              generalize ((cntQ N k xs K : Nat) : Int) = z1 at *
              generalize ((cntQ N k xs q : Nat) : Int) = z2 at *
              go_wp2_with fail
              go_ret
              exact ⟨rfl, HWW.out⟩
  obtain rfl := hm
  have hmn : ((m : Int) != (m : Int)) = false := by simp
  have HCN := hide (containsIAt_any (caps := [.pointer (some ⟨w.heap.size, 0, none⟩)]) (fun z => decide (z < 0) || decide ((k : Int) ≤ z)) eCC1 B m d ys w13 HB.out.il (fun x => cc1_any x k w.heap.size w13 hx0))
  have HBD : Hid (ys.any (fun z => decide (z < 0) || decide ((k : Int) ≤ z)) = badC k ys) := hide rfl
  rw [HBD.out] at HCN
  by_cases hbad : badC k ys = true
  · have hpe : proE (m : Int) xs ys (k : Int) = 1 := by unfold proE; rw [HCE.out, if_neg (by simp), if_neg (by rw [HLN.out]; simp), if_pos hbad]
    have hpv := proV_bad (ys := ys) (kk := k) (xs := xs) (nn := m) (by rw [hpe]; decide)
    rw [hpe]
    rw [hpv] at SL1
    rw [hbad] at HCN
    clear hpe hpv HCE HLN hbad HBD
    go_wp2_with fail
    refine HCN.out.mono ?_
    rintro e w15 ⟨rfl, hww⟩
    subst hww
    go_wp2_with fail
    refine (equal_any L none ln 0 lc 0 [] [] _ SL1.out.il (SL.nil_ _).il).mono ?_
    rintro e w15 ⟨rfl, hb⟩
    rw [eqB_true rfl]
    replace HW := hide (HW.out.trans (hb.mono HW.out.size))
    replace HA := hide (HA.out.below hb)
    replace BX := hide (BX.out.below hb BX.out.lt)
    clear hb hx0 hmn d1 d2 SL1 HB HCN
    have hx0 := BX.out.cell 0
    simp at hx0
    have hpk : ∀ j, j ≤ m → k ^ j ≤ 4826809 := fun j hj => by
      calc k ^ j ≤ 13 ^ j := Nat.pow_le_pow_left hk13 j
        _ ≤ 13 ^ 6 := Nat.pow_le_pow_right (by omega) (by omega)
        _ = 4826809 := by decide
    have HPK := hide hpk
    clear hpk
    go_wp2_with fail
    go_loop [18, 100] (fun av iv => ∃ j : Nat, j ≤ m ∧ iv = .int .i64 j ∧ av = .int .i64 ((k ^ j : Nat) : Int)) (fun _ iv => m - (intOf iv).toNat)
    case atStart => exact ⟨0, Nat.zero_le _, rfl, rfl⟩
    case round =>
      obtain ⟨j, hj, rfl, rfl⟩ := hrel
      by_cases hlt : j < m
      · have hq := HPK.out (j + 1) (by omega)
        have hpw : IntKind.i64.wrap (((k ^ j : Nat) : Int) * (k : Int)) = ((k ^ (j + 1) : Nat) : Int) := by
          rw [Nat.pow_succ] at hq ⊢
          rw [Int.natCast_mul, IntKind.wrap_i64]
          have : ((k ^ j * k : Nat) : Int) ≤ 4826809 := by omega
          rw [Int.natCast_mul] at this
          have h0 : (0 : Int) ≤ ((k ^ j : Nat) : Int) * (k : Int) := by rw [← Int.natCast_mul]; omega
          omega
        clear hq
        generalize ((k ^ j : Nat) : Int) = a at *
        generalize hbq : ((k ^ (j + 1) : Nat) : Int) = b at *
        have HBQ := hide hbq
        clear hbq
        go_wp2_with fail
        go_round
        case rel => exact ⟨j + 1, by omega, by go_num, by rw [HBQ.out]⟩
        case measure => simp [intOf]; omega
      · have hjn : j = m := by omega
        obtain ⟨K, hK⟩ : ∃ K, k ^ j = K := ⟨_, rfl⟩
        have HKE : Hid (cntC m k xs = cntQ m k xs K) := hide (by rw [← hK, hjn]; rfl)
        have hK4 : K ≤ 4826809 := by rw [← hK]; exact HPK.out j hj
        rw [hK, HKE.out]
        clear hK HKE hjn
        by_cases hbig : 20000 < K
        · have hd : decide ((20000 : Int) < (K : Int)) = true := by simp; omega
          go_wp2_with fail
          go_ret
          exact ⟨rfl, HW.out⟩
        · have hd : decide ((20000 : Int) < (K : Int)) = false := by simp; omega
          have HB0 := hide (Below.refl w15.heap.size w15)
          clear hx0 hK4
          go_wp2_with fail
          clear hlt hj
          go_loopw [19, 20, 21, 109] (fun mv _ _ iv wr => ∃ q : Nat, q ≤ K ∧ iv = .int .i64 q ∧ mv = .int .i64 (cntQ m k xs q : Nat) ∧ Hid (Below w15.heap.size w15 wr)) (fun _ _ _ iv _ => K - (intOf iv).toNat)
          case atStart => exact ⟨0, Nat.zero_le _, rfl, rfl, HB0⟩
          case round =>
            clear HB0
            obtain ⟨q, hq, rfl, rfl, HQ⟩ := hrel
            by_cases hlq : q < K
            · have HO0 := hide (OwnI.nil_ wr w15.heap.size)
              rename World => wo
              have HQ0 := HQ
              clear HQ
              go_wp2_with fail
              go_loopw [20, 21, 113] (fun xv vv jv wr => ∃ (j c5 : Nat) (R : Option Addr), j ≤ m ∧ jv = .int .i64 j ∧ xv = .int .i64 ((q / k ^ j : Nat) : Int) ∧ vv = .slice R j c5 ∧ Hid (OwnI wr w15.heap.size R j c5 (digs k j q)) ∧ Hid (Below w15.heap.size w15 wr)) (fun _ _ jv _ => m - (intOf jv).toNat)
              case atStart => exact ⟨0, 0, none, Nat.zero_le _, rfl, by rw [Nat.pow_zero, Nat.div_one], rfl, HO0, HQ0⟩
              case round =>
                clear HO0 HQ0
                obtain ⟨j, c5, R, hj, rfl, rfl, rfl, HO, HB⟩ := hrel
                have BXr := hide (BX.out.below HB.out BX.out.lt)
                have hx0 := BXr.out.cell 0
                simp at hx0
                by_cases hlt : j < m
                · have HDG := hide (digs_succ k j q)
                  have HDV : Hid (q / k ^ j / k = q / k ^ (j + 1)) := hide (by rw [Nat.div_div_eq_div_mul, Nat.pow_succ])
                  have hle : q / k ^ j ≤ q := Nat.div_le_self _ _
                  obtain ⟨a, hae⟩ : ∃ a, q / k ^ j = a := ⟨_, rfl⟩
                  rw [hae] at HDG HDV hle ⊢
                  have hrm : ((a : Int)).tmod (k : Int) = ((a % k : Nat) : Int) := rfl
                  obtain ⟨t, ht⟩ : ∃ t : Nat, a / k = t := ⟨_, rfl⟩
                  have hta : t ≤ a := by rw [← ht]; exact Nat.div_le_self _ _
                  have hqo : IntKind.i64.wrap ((a : Int).tdiv (k : Int)) = ((t : Nat) : Int) := by
                    have h1 : (a : Int).tdiv (k : Int) = (t : Int) := by rw [← ht]; rfl
                    rw [h1, IntKind.wrap_i64]
                    omega
                  have hkz : ((k : Int) == 0) = false := by simp; omega
                  obtain ⟨r, hr⟩ : ∃ r : Int, ((a % k : Nat) : Int) = r := ⟨_, rfl⟩
                  rw [hr] at hrm HDG
                  have HQZ : Hid (wrap64 ((a : Int) / (k : Int)) = (t : Int)) := hide (by rw [show (a : Int) / (k : Int) = (t : Int) by rw [← ht]; rfl]; unfold wrap64; omega)
                  rw [ht] at HDV
                  have hsz := HB.out.size
                  clear hae hr ht hle hta
                  go_wp2_with (at_builtin; refine wpList_append_int _ rfl (.tmp 115) (.tmp 119) 22 rfl w15.heap.size i0 Tryd.underlying22 HI0.out HZ0.out HZ1.out HZ2.out R j c5 (digs k j q) rfl (HO.out.alloc _) (some ⟨_, 0, none⟩) 1 1 [r] rfl (IL.lit _ [r] (by simp) rfl rfl) (by omega) (Nat.le_trans hsz (by simp)) ?_; intro A9 c9 w9 happ; have hx9 : w9.cell? ⟨w.heap.size, 0, none⟩ = some (.int .i64 (k : Int)) := by { have h9 := (BX.out.below (cc_append HB.out HO.out happ) BX.out.lt).cell 0; simpa using h9 })
                  have HB9 := hide (cc_append HB.out HO.out happ)
                  have HO9 : Hid (OwnI w9 w15.heap.size A9 (j + 1) c9 (digs k (j + 1) q)) := hide (by rw [HDG.out]; exact happ.own)
                  clear happ HO HB BXr hx0
                  go_roundw
                  case rel => exact ⟨j + 1, c9, A9, by omega, by go_num, by rw [HQZ.out, HDV.out], by go_num, HO9, HB9⟩
                  case measure => simp [intOf]; omega
                · have hjn : j = m := by omega
                  have SV := hide HO.out.sl
                  rw [hjn] at SV
                  have HIC := hide (digs_isC (n := m) hk1 q)
                  have HA2 := hide (HA.out.below HB.out)
                  have HCR := hide (colored_r A n c xs R m c5 (digs k m q) k m _ HA2.out SV.out HIC.out HOK.out (by omega) (by omega) (by omega))
                  have HQS := hide (cntQ_succ m k xs q)
                  have hql := cntQ_le m k xs q
                  rw [hjn]
                  clear HO hj hjn BXr
                  generalize digs k m q = dg at *
                  go_wp2_with fail
                  refine HCR.out.mono ?_
                  rintro e w17 ⟨G, gn, gc, rfl, ho, hb⟩
                  have SG := hide ho.sl
                  have HB2 := hide (HB.out.trans (hb.mono HB.out.size))
                  replace SV := hide (SV.out.below hb)
                  clear ho hb hx0 HCR HB
                  by_cases hfx : cCol k xs dg = dg
                  · rw [if_pos hfx] at HQS
                    have hwc : IntKind.i64.wrap (((cntQ m k xs q : Nat) : Int) + 1) = ((cntQ m k xs (q + 1) : Nat) : Int) := by rw [HQS.out, IntKind.wrap_i64]; omega
                    have HEQ := hide (equal_any G R gn m gc c5 _ _ _ SG.out.il SV.out.il)
                    rw [eqB_true hfx] at HEQ
                    clear hfx hql
                    generalize hc1 : ((cntQ m k xs (q + 1) : Nat) : Int) = z1 at *
                    have HC1 := hide hc1
                    clear hc1 HQS
                    generalize ((cntQ m k xs q : Nat) : Int) = z0 at *
                    go_wp2_with fail
                    refine HEQ.out.mono ?_
                    rintro e w18 ⟨rfl, hb⟩
                    replace HB2 := hide (HB2.out.trans (hb.mono HB2.out.size))
                    clear hb HEQ
                    go_wp2_with fail
                    go_roundw
                    case rel => exact ⟨q + 1, by omega, by go_num, by rw [HC1.out], HB2⟩
                    case measure => simp [intOf]; omega
                  · rw [if_neg hfx] at HQS
                    have HEQ := hide (equal_any G R gn m gc c5 _ _ _ SG.out.il SV.out.il)
                    rw [eqB_false hfx] at HEQ
                    clear hfx hql
                    go_wp2_with fail
                    refine HEQ.out.mono ?_
                    rintro e w18 ⟨rfl, hb⟩
                    replace HB2 := hide (HB2.out.trans (hb.mono HB2.out.size))
                    clear hb HEQ
                    go_wp2_with fail
                    go_roundw
                    case rel => exact ⟨q + 1, by omega, by go_num, by rw [HQS.out, Nat.add_zero], HB2⟩
                    case measure => simp [intOf]; omega
            · have hqk : q = K := by omega
              have HWW := hide (HW.out.trans (HQ.out.mono HW.out.size))
              have hee : (((cntQ m k xs K : Nat) : Int) == ((cntQ m k xs q : Nat) : Int)) = true := by rw [hqk]; simp
              clear hqk HQ
              generalize ((cntQ m k xs K : Nat) : Int) = z1 at *
              generalize ((cntQ m k xs q : Nat) : Int) = z2 at *
              go_wp2_with fail
              go_ret
              exact ⟨rfl, HWW.out⟩
  · have hbad' : badC k ys = false := by simpa using hbad
    have hpe : proE (m : Int) xs ys (k : Int) = 0 := by unfold proE; rw [HCE.out, if_neg (by simp), if_neg (by rw [HLN.out]; simp), if_neg hbad]
    have hpv : proV (m : Int) xs ys (k : Int) = cCol k xs ys := by unfold proV; rw [if_pos hpe]
    have HIC := hide (isC_badC HLN.out hbad')
    rw [hpe]
    rw [hpv] at SL1
    rw [hbad'] at HCN
    clear hpe hpv HCE HLN hbad hbad' HBD
    go_wp2_with fail
    refine HCN.out.mono ?_
    rintro e w15 ⟨rfl, hww⟩
    subst hww
    go_wp2_with fail
    refine (colored_r A n c xs B m d ys k m _ HA.out HB.out HIC.out HOK.out (by omega) (by omega) (by omega)).mono ?_
    rintro e w14 ⟨G, gn, gc, rfl, ho, hb⟩
    have SG := hide ho.sl
    replace HW := hide (HW.out.trans (hb.mono HW.out.size))
    replace HA := hide (HA.out.below hb)
    replace SL1 := hide (SL1.out.below hb)
    replace BX := hide (BX.out.below hb BX.out.lt)
    clear ho hb hx0
    go_wp2_with fail
    refine (equal_any L G ln gn lc gc _ _ _ SL1.out.il SG.out.il).mono ?_
    rintro e w15 ⟨rfl, hb⟩
    rw [eqB_true rfl]
    replace HW := hide (HW.out.trans (hb.mono HW.out.size))
    replace HA := hide (HA.out.below hb)
    replace BX := hide (BX.out.below hb BX.out.lt)
    clear hb hmn d1 d2 SL1 HB HCN SG HIC
    have hx0 := BX.out.cell 0
    simp at hx0
    have hpk : ∀ j, j ≤ m → k ^ j ≤ 4826809 := fun j hj => by
      calc k ^ j ≤ 13 ^ j := Nat.pow_le_pow_left hk13 j
        _ ≤ 13 ^ 6 := Nat.pow_le_pow_right (by omega) (by omega)
        _ = 4826809 := by decide
    have HPK := hide hpk
    clear hpk
    go_wp2_with fail
    go_loop [18, 100] (fun av iv => ∃ j : Nat, j ≤ m ∧ iv = .int .i64 j ∧ av = .int .i64 ((k ^ j : Nat) : Int)) (fun _ iv => m - (intOf iv).toNat)
    case atStart => exact ⟨0, Nat.zero_le _, rfl, rfl⟩
    case round =>
      obtain ⟨j, hj, rfl, rfl⟩ := hrel
      by_cases hlt : j < m
      · have hq := HPK.out (j + 1) (by omega)
        have hpw : IntKind.i64.wrap (((k ^ j : Nat) : Int) * (k : Int)) = ((k ^ (j + 1) : Nat) : Int) := by
          rw [Nat.pow_succ] at hq ⊢
          rw [Int.natCast_mul, IntKind.wrap_i64]
          have : ((k ^ j * k : Nat) : Int) ≤ 4826809 := by omega
          rw [Int.natCast_mul] at this
          have h0 : (0 : Int) ≤ ((k ^ j : Nat) : Int) * (k : Int) := by rw [← Int.natCast_mul]; omega
          omega
        clear hq
        generalize ((k ^ j : Nat) : Int) = a at *
        generalize hbq : ((k ^ (j + 1) : Nat) : Int) = b at *
        have HBQ := hide hbq
        clear hbq
        go_wp2_with fail
        go_round
        case rel => exact ⟨j + 1, by omega, by go_num, by rw [HBQ.out]⟩
        case measure => simp [intOf]; omega
      · have hjn : j = m := by omega
        obtain ⟨K, hK⟩ : ∃ K, k ^ j = K := ⟨_, rfl⟩
        have HKE : Hid (cntC m k xs = cntQ m k xs K) := hide (by rw [← hK, hjn]; rfl)
        have hK4 : K ≤ 4826809 := by rw [← hK]; exact HPK.out j hj
        rw [hK, HKE.out]
        clear hK HKE hjn
        by_cases hbig : 20000 < K
        · have hd : decide ((20000 : Int) < (K : Int)) = true := by simp; omega
          go_wp2_with fail
          go_ret
          exact ⟨rfl, HW.out⟩
        · have hd : decide ((20000 : Int) < (K : Int)) = false := by simp; omega
          have HB0 := hide (Below.refl w15.heap.size w15)
          clear hx0 hK4
          go_wp2_with fail
          clear hlt hj
          go_loopw [19, 20, 21, 109] (fun mv _ _ iv wr => ∃ q : Nat, q ≤ K ∧ iv = .int .i64 q ∧ mv = .int .i64 (cntQ m k xs q : Nat) ∧ Hid (Below w15.heap.size w15 wr)) (fun _ _ _ iv _ => K - (intOf iv).toNat)
          case atStart => exact ⟨0, Nat.zero_le _, rfl, rfl, HB0⟩
          case round =>
            clear HB0
            obtain ⟨q, hq, rfl, rfl, HQ⟩ := hrel
            by_cases hlq : q < K
            · have HO0 := hide (OwnI.nil_ wr w15.heap.size)
              rename World => wo
              have HQ0 := HQ
              clear HQ
              go_wp2_with fail
              go_loopw [20, 21, 113] (fun xv vv jv wr => ∃ (j c5 : Nat) (R : Option Addr), j ≤ m ∧ jv = .int .i64 j ∧ xv = .int .i64 ((q / k ^ j : Nat) : Int) ∧ vv = .slice R j c5 ∧ Hid (OwnI wr w15.heap.size R j c5 (digs k j q)) ∧ Hid (Below w15.heap.size w15 wr)) (fun _ _ jv _ => m - (intOf jv).toNat)
              case atStart => exact ⟨0, 0, none, Nat.zero_le _, rfl, by rw [Nat.pow_zero, Nat.div_one], rfl, HO0, HQ0⟩
              case round =>
                clear HO0 HQ0
                obtain ⟨j, c5, R, hj, rfl, rfl, rfl, HO, HB⟩ := hrel
                have BXr := hide (BX.out.below HB.out BX.out.lt)
                have hx0 := BXr.out.cell 0
                simp at hx0
                by_cases hlt : j < m
                · have HDG := hide (digs_succ k j q)
                  have HDV : Hid (q / k ^ j / k = q / k ^ (j + 1)) := hide (by rw [Nat.div_div_eq_div_mul, Nat.pow_succ])
                  have hle : q / k ^ j ≤ q := Nat.div_le_self _ _
                  obtain ⟨a, hae⟩ : ∃ a, q / k ^ j = a := ⟨_, rfl⟩
                  rw [hae] at HDG HDV hle ⊢
                  have hrm : ((a : Int)).tmod (k : Int) = ((a % k : Nat) : Int) := rfl
                  obtain ⟨t, ht⟩ : ∃ t : Nat, a / k = t := ⟨_, rfl⟩
                  have hta : t ≤ a := by rw [← ht]; exact Nat.div_le_self _ _
                  have hqo : IntKind.i64.wrap ((a : Int).tdiv (k : Int)) = ((t : Nat) : Int) := by
                    have h1 : (a : Int).tdiv (k : Int) = (t : Int) := by rw [← ht]; rfl
                    rw [h1, IntKind.wrap_i64]
                    omega
                  have hkz : ((k : Int) == 0) = false := by simp; omega
                  obtain ⟨r, hr⟩ : ∃ r : Int, ((a % k : Nat) : Int) = r := ⟨_, rfl⟩
                  rw [hr] at hrm HDG
                  have HQZ : Hid (wrap64 ((a : Int) / (k : Int)) = (t : Int)) := hide (by rw [show (a : Int) / (k : Int) = (t : Int) by rw [← ht]; rfl]; unfold wrap64; omega)
                  rw [ht] at HDV
                  have hsz := HB.out.size
                  clear hae hr ht hle hta
                  go_wp2_with (at_builtin; refine wpList_append_int _ rfl (.tmp 115) (.tmp 119) 22 rfl w15.heap.size i0 Tryd.underlying22 HI0.out HZ0.out HZ1.out HZ2.out R j c5 (digs k j q) rfl (HO.out.alloc _) (some ⟨_, 0, none⟩) 1 1 [r] rfl (IL.lit _ [r] (by simp) rfl rfl) (by omega) (Nat.le_trans hsz (by simp)) ?_; intro A9 c9 w9 happ; have hx9 : w9.cell? ⟨w.heap.size, 0, none⟩ = some (.int .i64 (k : Int)) := by { have h9 := (BX.out.below (cc_append HB.out HO.out happ) BX.out.lt).cell 0; simpa using h9 })
                  have HB9 := hide (cc_append HB.out HO.out happ)
                  have HO9 : Hid (OwnI w9 w15.heap.size A9 (j + 1) c9 (digs k (j + 1) q)) := hide (by rw [HDG.out]; exact happ.own)
                  clear happ HO HB BXr hx0
                  go_roundw
                  case rel => exact ⟨j + 1, c9, A9, by omega, by go_num, by rw [HQZ.out, HDV.out], by go_num, HO9, HB9⟩
                  case measure => simp [intOf]; omega
                · have hjn : j = m := by omega
                  have SV := hide HO.out.sl
                  rw [hjn] at SV
                  have HIC := hide (digs_isC (n := m) hk1 q)
                  have HA2 := hide (HA.out.below HB.out)
                  have HCR := hide (colored_r A n c xs R m c5 (digs k m q) k m _ HA2.out SV.out HIC.out HOK.out (by omega) (by omega) (by omega))
                  have HQS := hide (cntQ_succ m k xs q)
                  have hql := cntQ_le m k xs q
                  rw [hjn]
                  clear HO hj hjn BXr
                  generalize digs k m q = dg at *
                  go_wp2_with fail
                  refine HCR.out.mono ?_
                  rintro e w17 ⟨G, gn, gc, rfl, ho, hb⟩
                  have SG := hide ho.sl
                  have HB2 := hide (HB.out.trans (hb.mono HB.out.size))
                  replace SV := hide (SV.out.below hb)
                  clear ho hb hx0 HCR HB
                  by_cases hfx : cCol k xs dg = dg
                  · rw [if_pos hfx] at HQS
                    have hwc : IntKind.i64.wrap (((cntQ m k xs q : Nat) : Int) + 1) = ((cntQ m k xs (q + 1) : Nat) : Int) := by rw [HQS.out, IntKind.wrap_i64]; omega
                    have HEQ := hide (equal_any G R gn m gc c5 _ _ _ SG.out.il SV.out.il)
                    rw [eqB_true hfx] at HEQ
                    clear hfx hql
                    generalize hc1 : ((cntQ m k xs (q + 1) : Nat) : Int) = z1 at *
                    have HC1 := hide hc1
                    clear hc1 HQS
                    generalize ((cntQ m k xs q : Nat) : Int) = z0 at *
                    go_wp2_with fail
                    refine HEQ.out.mono ?_
                    rintro e w18 ⟨rfl, hb⟩
                    replace HB2 := hide (HB2.out.trans (hb.mono HB2.out.size))
                    clear hb HEQ
                    go_wp2_with fail
                    go_roundw
                    case rel => exact ⟨q + 1, by omega, by go_num, by rw [HC1.out], HB2⟩
                    case measure => simp [intOf]; omega
                  · rw [if_neg hfx] at HQS
                    have HEQ := hide (equal_any G R gn m gc c5 _ _ _ SG.out.il SV.out.il)
                    rw [eqB_false hfx] at HEQ
                    clear hfx hql
                    go_wp2_with fail
                    refine HEQ.out.mono ?_
                    rintro e w18 ⟨rfl, hb⟩
                    replace HB2 := hide (HB2.out.trans (hb.mono HB2.out.size))
                    clear hb HEQ
                    go_wp2_with fail
                    go_roundw
                    case rel => exact ⟨q + 1, by omega, by go_num, by rw [HQS.out, Nat.add_zero], HB2⟩
                    case measure => simp [intOf]; omega
            · have hqk : q = K := by omega
              have HWW := hide (HW.out.trans (HQ.out.mono HW.out.size))
              have hee : (((cntQ m k xs K : Nat) : Int) == ((cntQ m k xs q : Nat) : Int)) = true := by rw [hqk]; simp
              clear hqk HQ
              generalize ((cntQ m k xs K : Nat) : Int) = z1 at *
              generalize ((cntQ m k xs q : Nat) : Int) = z2 at *
              go_wp2_with fail
              go_ret
              exact ⟨rfl, HWW.out⟩
end Go.Proofs.YtbedpgcbfbjgiaaDoor
