/- Several texts in one. -/
import Derived.Test.YtbedpgcbfbjgiaaDoorPart6
import Derived.Deep.DeepCutAuto
import Derived.Test.YtbedpgcbfbjgiaaDoorPart3
import Derived.Test.YtbedpgcbfbjgiaaDoorPart2
import Derived.Test.YtbedpgcbfbjgiaaDoorPart1
import Derived.Test.YtbedpgcbfbjgiaaDoorBase1
import Derived.Test.YtbedpgcbfbjgiaaDoorProg
import Derived.WalkKit
import Derived.Deep.QuietTactic
import Derived.BigQuiet
import Derived.WalkSpells
import Derived.WalkLawsBesides
import Derived.Outline
import Derived.BigRegion
import Derived.Test.YtbedpgcbfbjgiaaDoorPart4
import Derived.Lib.SliceRun
/- Package intmatrix: divisors and factors. -/
namespace Go.Proofs.YtbedpgcbfbjgiaaDoor
set_option linter.unusedVariables false
set_option linter.unusedSimpArgs false
open Go.RowKit

theorem dvl_start (F : Mtx Int) (m K : Nat) : DvL F m K 0 0 (List.replicate (K + 1) 0) := DvL.start F m K

set_option maxRecDepth 100000 in
set_option maxHeartbeats 4000000 in
theorem divisors_any (A : Option Addr) (n c m : Nat) (xss : List (List Int)) (w : World) (ha : SLL w A n c xss) (hf : mfault xss = 0) (hT : TabW w) (hm : colsM xss = m) :
    Calls Tryd.prog 33 #[.slice A n c] w fun e w' => ∃ b, e = .returned (.slice (some ⟨b, 0, none⟩) (min n m + 1) (min n m + 1)) ∧ OwnI w' w.heap.size (some ⟨b, 0, none⟩) (min n m + 1) (min n m + 1) (dvL (smithS n m (matF xss)) (min n m)) ∧ Below w.heap.size w w' ∧ ∀ k, k ≤ min n m → ((dvL (smithS n m (matF xss)) (min n m)).getD k 0).natAbs ≤ 720000000000000 := by
  obtain ⟨hn6, hm6, _, hent⟩ := mat_rows hf
  have hl := ha.len
  rw [hl] at hn6
  rw [hm] at hm6
  obtain ⟨i0, hi0, hz0, hz1, hz2⟩ := info_parts int_info
  have HI0 := hide hi0
  have HZ0 := hide hz0
  have HZ1 := hide hz1
  have HZ2 := hide hz2
  obtain ⟨hN0, hN64⟩ := pow_pos2 n (by omega)
  obtain ⟨hM0, hM64⟩ := pow_pos2 m (by omega)
  have HA := hide ha
  have HT := hide hT
  have HCO := hide (fun (w : World) (h : SLL w A n c xss) => columns_any A n c xss w h)
  rw [hm] at HCO
  have HMN : Hid (∀ (w : World), SLL w A n c xss → TabW w → Calls Tryd.prog 34 #[.slice A n c] w fun e w' => ∃ g, e = .returned (.slice (some ⟨g, 0, none⟩) (2 ^ n) (2 ^ n)) ∧ TabO w' w.heap.size g (2 ^ m) (matF xss) m (2 ^ n) ∧ Below w.heap.size w w') := hide (fun w h1 h2 => minors_any A n c m xss w h1 hf h2 hm)
  have HSZ := hide (fun (x : Nat) (w : World) (h : x < 64) => imsize_any x w h)
  have HGD : Hid (∀ R C, C < 2 ^ m → (mnrL (matF xss) m R).getD C 0 = mnr (matF xss) R C) := hide (fun R C h => mnrL_getD _ h)
  have HSK : Hid (∀ R C, R < 2 ^ n → C < 2 ^ m → sizeN R = sizeN C → sizeN R ≤ min n m) := hide (fun R C h1 h2 h3 => by
    have := (bits_below n (by omega) R h1).2
    have := (bits_below m (by omega) C h2).2
    omega)
  have HAD : Hid (∀ R C ds, DvL (matF xss) m (min n m) R C ds → R < 2 ^ n → C < 2 ^ m → sizeN R = sizeN C → DvL (matF xss) m (min n m) R (C + 1) (ds.set (sizeN R) (Int.gcd (ds.getD (sizeN R) 0) (mnr (matF xss) R C) : Nat)) ∧ (ds.getD (sizeN R) 0).natAbs ≤ 720000000000000 ∧ (mnr (matF xss) R C).natAbs ≤ 720000000000000) := hide (fun R C ds h h1 h2 h3 => by
    have hl := mnr_small (C := C) (show R < 64 by omega) hent
    exact ⟨h.add_ h2 h3 hl (HSK.out R C h1 h2 h3), (h.at_ _ (HSK.out R C h1 h2 h3)).le, hl⟩)
  have HRW : Hid (∀ R ds, DvL (matF xss) m (min n m) R (2 ^ m) ds → DvL (matF xss) m (min n m) (R + 1) 0 ds) := hide (fun R ds h => h.row_)
  have HEN : Hid (∀ ds, DvL (matF xss) m (min n m) (2 ^ n) 0 ds → ds = dvL (smithS n m (matF xss)) (min n m) ∧ ∀ k, k ≤ min n m → ((dvL (smithS n m (matF xss)) (min n m)).getD k 0).natAbs ≤ 720000000000000) := hide (fun ds h => by
    have e := h.eq_ hn6 hm6 (smithS_chain n m (matF xss)) (smithS_el n m (matF xss))
    refine ⟨e, fun k hk => ?_⟩
    rw [← e]
    exact (h.at_ k hk).le)
  obtain ⟨K, hK⟩ : ∃ K, min n m = K := ⟨_, rfl⟩
  rw [hK] at HSK HAD HRW HEN ⊢
  have hK6 : K ≤ 6 := by omega
  have hKn : K ≤ n := by omega
  have hKm : K ≤ m := by omega
  have hKo : n ≤ K ∨ m ≤ K := by omega
  clear ha hf hT hm hl hi0 hz0 hz1 hz2 hent hK
  generalize 2 ^ n = N at *
  generalize 2 ^ m = M at *
  generalize matF xss = F at *
  generalize dvL (smithS n m F) K = dl at *
  go_enter Tryd.func33, Tryd.ntmps33
  go_upto_region 1 with fail
  go_cut [3, 9, 10, 11, 12, 13, 14, 15] (fun v _ _ _ _ _ _ _ wx => v = .slice (some ⟨w.heap.size, 0, none⟩) (K + 1) (K + 1) ∧ OwnI wx w.heap.size (some ⟨w.heap.size, 0, none⟩) (K + 1) (K + 1) (List.replicate (K + 1) 0) ∧ Below w.heap.size w wx)
  case first =>
    go_wp2_with fail
    refine (HCO.out _ HA.out).mono ?_
    rintro e w' ⟨rfl, hw'⟩
    subst hw'
    go_wp2_with (at_make; refine wpList_make_full _ rfl _ _ 22 rfl w.heap.size 3 i0 (.int .i64 0) 1 Tryd.underlying22 HI0.out HZ0.out HZ1.out .i64 .i64 _ _ (K + 1) rfl rfl (by omega) (by omega) (by rw [HZ2.out]; omega) (by unfold maxLen; omega) (Nat.le_refl _) ?_; intro w1 hown1 hg1)
    all_goals
      have ho : OwnI w1 w.heap.size (some ⟨w.heap.size, 0, none⟩) (K + 1) (K + 1) (List.replicate (K + 1) 0) := OwnI.zero (z := #[]) hown1 (by omega)
      have hb : Below w.heap.size w w1 := (Below.refl _ _).grown hg1 (Nat.le_refl _) (by intro k hk; cases hk)
      go_meet
      exact ⟨rfl, ho, hb⟩
  case rest =>
    obtain ⟨rfl, ho, hb⟩ := hcut
    have HO0 := hide ho
    have HB0 := hide hb
    have hsz : w.heap.size < wc.heap.size := (ho.form (by omega)).elim fun g h => by
      obtain ⟨e, _, h2⟩ := h
      injection e with e
      injection e with e
      omega
    have hdl := dvl_start F m K
    clear ho hb
    go_wp2_with fail
    refine (HMN.out _ (HA.out.below HB0.out) (HT.out.below HB0.out)).mono ?_
    rintro e w2 ⟨g, rfl, htab, hb2⟩
    have HTAB := hide htab
    have HO2 := hide (HO0.out.below hb2)
    have HB2 := hide (HB0.out.trans (hb2.mono HB0.out.size))
    have hdt : w.heap.size < wc.heap.size := hsz
    clear htab hb2 HO0 HB0 HMN
    obtain ⟨t, ht⟩ : ∃ t, wc.heap.size = t := ⟨_, rfl⟩
    rw [ht] at HTAB hdt
    clear ht hsz
    go_wp2_with fail
    go_loopw [19] (fun iv wr => ∃ (R : Nat) (ds : List Int), iv = .int .i64 R ∧ R ≤ N ∧ DvL F m K R 0 ds ∧ OwnI wr w.heap.size (some ⟨w.heap.size, 0, none⟩) (K + 1) (K + 1) ds ∧ w2.grownBy wr (some w.heap.size)) (fun iv _ => N - (intOf iv).toNat)
    case atStart => exact ⟨0, _, rfl, Nat.zero_le _, hdl, HO2.out, World.grownBy.refl _ _⟩
    case round =>
      clear HO2 hdl
      obtain ⟨R, ds, rfl, hR, hdv, ho, hgr⟩ := hrel
      have HDV := hide hdv
      have HO := hide ho
      have HGR := hide hgr
      have HTR := hide (HTAB.out.grown hgr hdt)
      clear hdv ho hgr
      rename World => wo
      by_cases hlt : R < N
      · obtain ⟨rb, hrc, hro⟩ := HTR.out.2 R hlt
        have HRO := hide hro
        have hrb : w.heap.size ≠ rb := by have := (ownsRow_type hro.own).1; omega
        clear hro
        go_wp2_with fail
        go_loopw [26] (fun jv wr => ∃ (C : Nat) (es : List Int), jv = .int .i64 C ∧ C ≤ M ∧ DvL F m K R C es ∧ OwnI wr w.heap.size (some ⟨w.heap.size, 0, none⟩) (K + 1) (K + 1) es ∧ wo.grownBy wr (some w.heap.size)) (fun jv _ => M - (intOf jv).toNat)
        case atStart => exact ⟨0, ds, rfl, Nat.zero_le _, HDV.out, HO.out, World.grownBy.refl _ _⟩
        case round =>
          clear HDV HO
          obtain ⟨C, es, rfl, hC, hdv, ho, hgr⟩ := hrel
          have HDV := hide hdv
          have HO := hide ho
          have HGW := hide hgr
          have hro : OwnI wr t (some ⟨rb, 0, none⟩) M M (mnrL F m R) := by
            obtain ⟨_, cs, hc⟩ := ownsRow_type HRO.out.own
            exact ⟨ownsRow_block HRO.out.own (hgr.block rb (Blk.lt (w := wo) (t := 3) (cs := cs) hc) (by intro e; injection e with e; omega)), HRO.out.small⟩
          by_cases hlc : C < M
          · have hx := hro.cell hlc
            rw [HGD.out R C hlc] at hx
            clear hdv ho hgr hro
            by_cases hs : sizeN R = sizeN C
            · obtain ⟨hd2, hl1, hl2⟩ := HAD.out R C es HDV.out hlt hlc hs
              have HD2 := hide hd2
              have hsk := HSK.out R C hlt hlc hs
              have hdc := HO.out.cell (show sizeN R < K + 1 by omega)
              have HGC := hide (fun (w : World) => imgcd_any (es.getD (sizeN R) 0) (mnr F R C) w (by omega) (by omega))
              have hse : ((sizeN R : Int) == (sizeN C : Int)) = true := by simp [hs]
              clear hd2 hs
              generalize mnr F R C = y at *
              generalize es.getD (sizeN R) 0 = z at *
              go_wp2_with fail
              refine (HSZ.out R _ (by omega)).mono ?_
              rintro e w' ⟨rfl, rfl⟩
              go_wp2_with fail
              refine (HSZ.out C _ (by omega)).mono ?_
              rintro e w' ⟨rfl, rfl⟩
              generalize sizeN R = k at *
              go_wp2_with fail
              refine (HGC.out _).mono ?_
              rintro e w5 ⟨rfl, hb5⟩
              have ho5 := HO.out.below hb5
              have hcd := ho5.cell (show k < K + 1 by omega)
              have hfr := ho5.frozen k
              generalize z.gcd y = q at *
              have HN := hide (ho5.set_ k q)
              have HGN := hide ((HGW.out.trans (grownBy_of_below hb5 _)).trans (grownBy_set1 w5 w.heap.size k (.int .i64 q)))
              clear ho5 hb5 hdc hx HO HGW HDV
              go_wp2_with fail
              go_roundw
              case rel => exact ⟨C + 1, es.set k q, by go_num, by omega, HD2.out, HN.out, HGN.out⟩
              case measure => simp [intOf]; omega
            · have hse : ((sizeN R : Int) == (sizeN C : Int)) = false := by simp; omega
              have HN := hide (HDV.out.skip_ hs)
              clear hs
              go_wp2_with fail
              refine (HSZ.out R _ (by omega)).mono ?_
              rintro e w' ⟨rfl, rfl⟩
              go_wp2_with fail
              refine (HSZ.out C _ (by omega)).mono ?_
              rintro e w' ⟨rfl, rfl⟩
              go_wp2_with fail
              go_roundw
              case rel => exact ⟨C + 1, es, by go_num, by omega, HN.out, HO.out, HGW.out⟩
              case measure => simp [intOf]; omega
          · have hCM : C = M := by omega
            rw [hCM] at hdv
            have HN := hide (HRW.out R es hdv)
            have HG2 := hide (HGR.out.trans hgr)
            clear hdv ho hgr hro
            go_wp2_with fail
            go_roundw
            case rel => exact ⟨R + 1, es, by go_num, by omega, HN.out, HO.out, HG2.out⟩
            case measure => simp [intOf]; omega
      · have hRN : R = N := by omega
        have hdv := HDV.out
        rw [hRN] at hdv
        have HN := hide HO.out
        obtain ⟨hde, hdb⟩ := HEN.out ds hdv
        have HDB := hide hdb
        rw [hde] at HN
        clear hde hdb
        have HBB := hide (HB2.out.grown HGR.out HB2.out.size (fun k hk => by injection hk with hk; omega))
        clear hdv HDV HO
        go_wp2_with fail
        go_ret
        exact ⟨_, rfl, HN.out, HBB.out, HDB.out⟩

theorem fac_le {s : Nat → Int} {N : Nat} (h : ∀ i, i + 1 < N → s i ∣ s (i + 1)) {B : Nat} (hb : ∀ k, k ≤ N → ((dvL s N).getD k 0).natAbs ≤ B) : ∀ i, i < N → (s i).natAbs ≤ B := fun i hi => by
  have h1 := fac_quo h hi
  have h2 := hb (i + 1) (by omega)
  rw [dvL_getD s (by omega)] at h2
  split at h1
  · omega
  · have h3 := Int.tdiv_le_self (a := ((prodF s (i + 1)).natAbs : Int)) ((prodF s i).natAbs : Int) (by omega)
    omega

set_option maxRecDepth 100000 in
set_option maxHeartbeats 4000000 in
theorem imfactors_any (A : Option Addr) (n c m : Nat) (xss : List (List Int)) (w : World) (ha : SLL w A n c xss) (hf : mfault xss = 0) (hT : TabW w) (hm : colsM xss = m) :
    Calls Tryd.prog 29 #[.slice A n c] w fun e w' => ∃ b, e = .returned (.slice (some ⟨b, 0, none⟩) (min n m) (min n m)) ∧ OwnI w' w.heap.size (some ⟨b, 0, none⟩) (min n m) (min n m) (facL (smithS n m (matF xss)) (min n m)) ∧ Below w.heap.size w w' ∧ ∀ i, i < min n m → (smithS n m (matF xss) i).natAbs ≤ 720000000000000 := by
  obtain ⟨hn6, hm6, _, hent⟩ := mat_rows hf
  have hl := ha.len
  rw [hl] at hn6
  rw [hm] at hm6
  obtain ⟨i0, hi0, hz0, hz1, hz2⟩ := info_parts int_info
  have HI0 := hide hi0
  have HZ0 := hide hz0
  have HZ1 := hide hz1
  have HZ2 := hide hz2
  have HDV := hide (divisors_any A n c m xss w ha hf hT hm)
  have HCH := smithS_chain n m (matF xss)
  obtain ⟨s, hs⟩ : ∃ s, smithS n m (matF xss) = s := ⟨_, rfl⟩
  rw [hs] at HDV HCH ⊢
  obtain ⟨K, hK⟩ : ∃ K, min n m = K := ⟨_, rfl⟩
  rw [hK] at HDV HCH ⊢
  have hK6 : K ≤ 6 := by omega
  have HGD : Hid (∀ k, k ≤ K → (dvL s K).getD k 0 = ((prodF s k).natAbs : Int)) := hide (fun k h => dvL_getD s h)
  have HQ : Hid (∀ i, i < K → (if ((prodF s i).natAbs : Int) = 0 then (0 : Int) else ((prodF s (i + 1)).natAbs : Int).tdiv ((prodF s i).natAbs : Int)) = ((s i).natAbs : Int)) := hide (fun i hi => fac_quo HCH hi)
  have HFE : Hid ((∀ k, k ≤ K → ((dvL s K).getD k 0).natAbs ≤ 720000000000000) → ∀ i, i < K → (s i).natAbs ≤ 720000000000000) := hide (fun h => fac_le HCH h)
  have HFL : Hid (fillN (fun i => ((s i).natAbs : Int)) K K = facL s K) := hide (fillN_full (by simp [facL]) (fun j hj => by simp [facL, List.getD, hj]))
  clear ha hf hT hm hl hi0 hz0 hz1 hz2 hent hs hK HCH
  go_enter Tryd.func29, Tryd.ntmps29
  go_wp2_with fail
  refine HDV.out.mono ?_
  rintro e w1 ⟨b, rfl, hob, hb1, hdb⟩
  have HDB := hide hdb
  have HOB := hide hob
  have HB1 := hide hb1
  have hs1 := hb1.size
  clear HDV hob hb1 hdb
  go_wp2_with (at_make; refine wpList_make_full _ rfl _ _ 22 rfl w.heap.size 3 i0 (.int .i64 0) 1 Tryd.underlying22 HI0.out HZ0.out HZ1.out .i64 .i64 _ _ K rfl rfl (by omega) (by omega) (by rw [HZ2.out]; omega) (by unfold maxLen; omega) hs1 ?_; intro w2 hown2 hg2)
  have HO0 : Hid (OwnI w2 w.heap.size (some ⟨w1.heap.size, 0, none⟩) K K (fillN (fun i => ((s i).natAbs : Int)) K 0)) := hide (by rw [fillN_zero]; exact OwnI.zero (z := #[]) hown2 (by omega))
  have HB2 : Hid (Below w1.heap.size w1 w2) := hide ((Below.refl _ _).grown hg2 (Nat.le_refl _) (by intro k hk; cases hk))
  clear hown2 hg2
  go_loopw [14] (fun iv wr => ∃ i : Nat, iv = .int .i64 i ∧ i ≤ K ∧ OwnI wr w.heap.size (some ⟨w1.heap.size, 0, none⟩) K K (fillN (fun i => ((s i).natAbs : Int)) K i) ∧ Below w1.heap.size w1 wr) (fun iv _ => K - (intOf iv).toNat)
  case atStart => exact ⟨0, rfl, Nat.zero_le _, HO0.out, HB2.out⟩
  case round =>
    clear HO0 HB2
    obtain ⟨i, rfl, hi, ho, hbw⟩ := hrel
    have HO := hide ho
    have HBW := hide hbw
    have HD := hide (HOB.out.below hbw)
    clear ho hbw
    by_cases hlt : i < K
    · have hdi := HD.out.cell (show i < K + 1 by omega)
      have hdj := HD.out.cell (show i + 1 < K + 1 by omega)
      rw [HGD.out i (by omega)] at hdi
      rw [HGD.out (i + 1) (by omega)] at hdj
      have HQI := hide (HQ.out i hlt)
      have HFS : Hid ((fillN (fun i => ((s i).natAbs : Int)) K i).set i ((s i).natAbs : Int) = fillN (fun i => ((s i).natAbs : Int)) K (i + 1)) := hide (fillN_set (fun i => ((s i).natAbs : Int)) K i)
      obtain ⟨x, hx⟩ : ∃ x : Int, ((prodF s i).natAbs : Int) = x := ⟨_, rfl⟩
      obtain ⟨y, hy⟩ : ∃ y : Int, ((prodF s (i + 1)).natAbs : Int) = y := ⟨_, rfl⟩
      have hbi : b < wr.heap.size := World.block_lt_of_cell? wr _ hdi
      rw [hx] at HQI hdi
      rw [hy] at HQI hdj
      have hyb := HDB.out (i + 1) (by omega)
      rw [HGD.out (i + 1) (by omega), hy] at hyb
      by_cases h0 : x = 0
      · have hbe : (x != 0) = false := by simp [h0]
        have HN : Hid (OwnI wr w.heap.size (some ⟨w1.heap.size, 0, none⟩) K K (fillN (fun i => ((s i).natAbs : Int)) K (i + 1))) := hide (by
          have h := HQI.out
          rw [if_pos h0] at h
          rw [← fillN_same (f := fun i => ((s i).natAbs : Int)) h.symm]
          exact HO.out)
        clear h0 hx hy HQI
        go_wp2_with fail
        go_roundw
        case rel => exact ⟨i + 1, by go_num, by omega, HN.out, HBW.out⟩
        case measure => simp [intOf]; omega
      · have hbe : (x != 0) = true := by simpa using h0
        have hq := HQI.out
        rw [if_neg h0] at hq
        rw [← hq] at HFS
        have hx0 : 0 ≤ x := by omega
        have hy0 : 0 ≤ y := by omega
        have hwq : IntKind.i64.wrap (y.tdiv x) = y.tdiv x := by
          have h1 := Int.tdiv_nonneg hy0 hx0
          have h2 : y.tdiv x ≤ y := Int.tdiv_le_self x hy0
          rw [IntKind.wrap_i64]; omega
        have hw1 : IntKind.i64.wrap ((i : Int) + 1) = ((i + 1 : Nat) : Int) := by rw [IntKind.wrap_i64]; omega
        have HDI := hide hdi
        have HDJ := hide hdj
        have HX0 := hide h0
        have HWQ := hide hwq
        have HW1 := hide hw1
        clear hx hy hq HQI hwq hw1 hdj h0 hyb
        go_upto_region 7 with fail
        refine wp_region_T (S := fun x => Below wr.heap.size wr x) 13 (by kernel_rfl) (Below.refl _ _).drew (fun hS => ?_)
        refine wpT_tk 0 (v := .slice (some ⟨w1.heap.size, 0, none⟩) K K) rfl (by kernel_rfl) (by kernel_rfl) (by kernel_rfl) (by kernel_rfl) (yi rfl fun x hx => gives_move (.inl rfl) rfl) hS ?_
        go_frame
        refine wpT_tk 1 (v := .int .i64 i) rfl (by kernel_rfl) (by kernel_rfl) (by kernel_rfl) (by kernel_rfl) (yi rfl fun x hx => gives_move (.inl rfl) rfl) hS ?_
        go_frame
        refine wpT_tk 2 (v := .slice (some ⟨b, 0, none⟩) (K + 1) (K + 1)) rfl (by kernel_rfl) (by kernel_rfl) (by kernel_rfl) (by kernel_rfl) (yi rfl fun x hx => gives_move (.inl rfl) rfl) hS ?_
        go_frame
        refine wpT_tk 3 (v := .int .i64 i) rfl (by kernel_rfl) (by kernel_rfl) (by kernel_rfl) (by kernel_rfl) (yi rfl fun x hx => gives_move (.inl rfl) rfl) hS ?_
        go_frame
        refine wpT_tk 4 (v := .int .i64 ((i + 1 : Nat) : Int)) rfl (by kernel_rfl) (by kernel_rfl) (by kernel_rfl) (by kernel_rfl) (yi rfl fun x hx => gives_add rfl rfl rfl HW1.out) hS ?_
        go_frame
        refine wpT_tk 5 (v := .pointer (some ⟨b, (i + 1) * 1, none⟩)) rfl (by kernel_rfl) (by kernel_rfl) (by kernel_rfl) (by kernel_rfl) (yi rfl fun x hx => gives_indexB rfl Tryd.underlying22 (fun w => by kernel_rfl) rfl rfl (by omega)) hS ?_
        go_frame
        rw [Nat.mul_one]
        refine wpT_tk 6 (v := .int .i64 y) rfl (by kernel_rfl) (by kernel_rfl) (by kernel_rfl) (by kernel_rfl) (yi rfl fun x hx => gives_load1 rfl (by kernel_rfl) rfl ((hx.cell (p := ⟨b, i + 1, none⟩) hbi).trans HDJ.out)) hS ?_
        go_frame
        refine wpT_tk 7 (v := .slice (some ⟨b, 0, none⟩) (K + 1) (K + 1)) rfl (by kernel_rfl) (by kernel_rfl) (by kernel_rfl) (by kernel_rfl) (yi rfl fun x hx => gives_move (.inl rfl) rfl) hS ?_
        go_frame
        refine wpT_tk 8 (v := .int .i64 i) rfl (by kernel_rfl) (by kernel_rfl) (by kernel_rfl) (by kernel_rfl) (yi rfl fun x hx => gives_move (.inl rfl) rfl) hS ?_
        go_frame
        refine wpT_tk 9 (v := .pointer (some ⟨b, i * 1, none⟩)) rfl (by kernel_rfl) (by kernel_rfl) (by kernel_rfl) (by kernel_rfl) (yi rfl fun x hx => gives_indexB rfl Tryd.underlying22 (fun w => by kernel_rfl) rfl rfl (by omega)) hS ?_
        go_frame
        rw [Nat.mul_one]
        refine wpT_tk 10 (v := .int .i64 x) rfl (by kernel_rfl) (by kernel_rfl) (by kernel_rfl) (by kernel_rfl) (yi rfl fun z hz => gives_load1 rfl (by kernel_rfl) rfl ((hz.cell (p := ⟨b, i, none⟩) hbi).trans HDI.out)) hS ?_
        go_frame
        refine wpT_tk 11 (v := .int .i64 (y.tdiv x)) rfl (by kernel_rfl) (by kernel_rfl) (by kernel_rfl) (by kernel_rfl) (yi rfl fun z hz => gives_quo rfl rfl rfl HX0.out HWQ.out) hS ?_
        go_frame
        refine wpT_tk 12 (v := .pointer (some ⟨w1.heap.size, i * 1, none⟩)) rfl (by kernel_rfl) (by kernel_rfl) (by kernel_rfl) (by kernel_rfl) (yi rfl fun z hz => gives_indexB rfl Tryd.underlying22 (fun w => by kernel_rfl) rfl rfl hlt) hS ?_
        go_frame
        rw [Nat.mul_one]
        refine wpT_1 13 rfl (by kernel_rfl) ?_
        refine wp_storeI rfl (by kernel_rfl) (by kernel_rfl) rfl rfl (HO.out.cell hlt) (HO.out.frozen i) ?_
        refine ⟨fun h => absurd rfl h, ?_⟩
        go_frame
        refine wpT_done (by kernel_rfl) (noPanic_mk ?_) _
        have HN : Hid (OwnI (wr.drew.setCell ⟨w1.heap.size, i, none⟩ (.int .i64 (y.tdiv x))) w.heap.size (some ⟨w1.heap.size, 0, none⟩) K K (fillN (fun i => ((s i).natAbs : Int)) K (i + 1))) := hide (by
          rw [← HFS.out]
          exact (HO.out.below (Below.refl _ _).drew).set_ i (y.tdiv x))
        have HBN : Hid (Below w1.heap.size w1 (wr.drew.setCell ⟨w1.heap.size, i, none⟩ (.int .i64 (y.tdiv x)))) := hide (HBW.out.drew.setCell (p := ⟨w1.heap.size, i, none⟩) (Nat.le_refl _) _)
        clear hS HDI HDJ HD HO HBW
        generalize wr.drew.setCell ⟨w1.heap.size, i, none⟩ (.int .i64 (y.tdiv x)) = w5 at *
        go_wp2_with fail
        go_roundw
        case rel => exact ⟨i + 1, by go_num, by omega, HN.out, HBN.out⟩
        case measure => simp [intOf]; omega
    · have hiK : i = K := by omega
      have HN := hide HO.out
      rw [hiK, HFL.out] at HN
      have HBB := hide (HB1.out.trans (HBW.out.mono hs1))
      clear HO
      go_wp2_with fail
      go_ret
      exact ⟨_, rfl, HN.out, HBB.out, HFE.out HDB.out⟩
end Go.Proofs.YtbedpgcbfbjgiaaDoor
/- Package intmatrix: Solutions. -/
namespace Go.Proofs.YtbedpgcbfbjgiaaDoor
set_option linter.unusedVariables false
set_option linter.unusedSimpArgs false
open Go.RowKit

theorem chN_low {n q : Nat} {s : Nat → Int} {i : Nat} (h : i < n) : chN n q s i = Int.gcd ((s i).natAbs : Int) q := by
  unfold chN
  rw [if_pos h]
  simp [Int.gcd]
theorem chN_high {n q : Nat} {s : Nat → Int} {i : Nat} (h : n ≤ i) : chN n q s i = q := by
  unfold chN
  rw [if_neg (by omega)]
theorem pow13 : ∀ m : Nat, m < 7 → 13 ^ m ≤ 4826809 := by decide

set_option maxRecDepth 100000 in
set_option maxHeartbeats 4000000 in
theorem imsol_any (A : Option Addr) (n c : Nat) (xss : List (List Int)) (q : Int) (w : World) (ha : SLL w A n c xss) (hT : TabW w) (hwf : (Lit.int .i64 q).wf = true) :
    Calls Tryd.prog 19 #[.slice A n c, .int .i64 q] w fun e w' => e = .returned (.tuple #[.int .i64 (solV xss q), .int .i64 (solE xss q)]) ∧ Below w.heap.size w w' := by
  have HCK := hide (imcheck_any A n c xss w ha.ill)
  have hl := ha.len
  have hsm := ha.small
  by_cases hf : mfault xss = 0
  · rw [hf] at HCK
    by_cases hq : q < 1 ∨ 13 < q
    · have HE : Hid (solE xss q = 1) := hide (by unfold solE; rw [if_pos hf, if_pos hq])
      have HV : Hid (solV xss q = 0) := hide (by unfold solV; rw [if_neg (by rw [HE.out]; decide)])
      rw [HE.out, HV.out]
      clear ha hT hf hl HE HV hwf
      by_cases h1 : q < 1
      · have hd1 : decide (q < 1) = true := decide_eq_true h1
        clear hq
        go_enter Tryd.func19, Tryd.ntmps19
        go_wp2_with fail
        refine HCK.out.mono ?_
        rintro e w' ⟨rfl, rfl⟩
        go_wp2_with fail
        go_ret2
        exact ⟨rfl, Below.refl _ _⟩
      · have hd1 : decide (q < 1) = false := decide_eq_false h1
        have hd2 : decide ((13 : Int) < q) = true := decide_eq_true (by omega)
        clear hq
        go_enter Tryd.func19, Tryd.ntmps19
        go_wp2_with fail
        refine HCK.out.mono ?_
        rintro e w' ⟨rfl, rfl⟩
        go_wp2_with fail
        go_ret2
        exact ⟨rfl, Below.refl _ _⟩
    · obtain ⟨k, rfl⟩ : ∃ k : Nat, q = k := ⟨q.toNat, by omega⟩
      have hk0 : 0 < k := by omega
      have hk1 : k ≤ 13 := by omega
      have hd1 : decide ((k : Int) < 1) = false := decide_eq_false (by omega)
      have hd2 : decide ((13 : Int) < (k : Int)) = false := decide_eq_false (by omega)
      have HE : Hid (solE xss k = 0) := hide (by unfold solE; rw [if_pos hf, if_neg hq])
      obtain ⟨hn6, hm6, hrow, _⟩ := mat_rows hf
      have HV : Hid (solV xss k = (pN (colsM xss) (chN n k (smithS n (colsM xss) (matF xss))) : Nat)) := hide (by
        unfold solV
        rw [if_pos HE.out, Int.toNat_natCast, solN_smith hk0 hk1 hrow (smithS_el _ _ _), hl])
      rw [HE.out, HV.out]
      rw [hl] at hn6
      have HCO := hide (fun (w : World) (h : SLL w A n c xss) => columns_any A n c xss w h)
      have HFA := hide (imfactors_any A n c _ xss w ha hf hT rfl)
      have HA := hide ha
      obtain ⟨s, hs⟩ : ∃ s, smithS n (colsM xss) (matF xss) = s := ⟨_, rfl⟩
      rw [hs] at HFA ⊢
      clear ha hT hf hl HE HV hwf hq hrow hs
      generalize colsM xss = m at *
      have HPL : Hid (∀ i, i ≤ m → pN i (chN n k s) ≤ 4826809) := hide (fun i hi => Nat.le_trans (pN_le (b := 13) fun j _ => Nat.le_trans (chN_le hk0 s j) hk1) (pow13 i (by omega)))
      have HLO : Hid (∀ i, i < min n m → pN (i + 1) (chN n k s) = pN i (chN n k s) * Int.gcd ((s i).natAbs : Int) k) := hide (fun i hi => by
        show pN i (chN n k s) * chN n k s i = _
        rw [chN_low (by omega)])
      have HHI : Hid (∀ i, min n m ≤ i → i < m → pN (i + 1) (chN n k s) = pN i (chN n k s) * k) := hide (fun i h1 h2 => by
        show pN i (chN n k s) * chN n k s i = _
        rw [chN_high (by omega)])
      obtain ⟨K, hK⟩ : ∃ K, min n m = K := ⟨_, rfl⟩
      rw [hK] at HFA HLO HHI
      have hKm : K ≤ m := by omega
      have HFL : Hid (∀ i, i < K → (facL s K).getD i 0 = ((s i).natAbs : Int)) := hide (fun i hi => by simp [facL, List.getD, hi])
      obtain ⟨P, hP⟩ : ∃ P, (fun i => pN i (chN n k s)) = P := ⟨_, rfl⟩
      have hPi : ∀ i, pN i (chN n k s) = P i := fun i => by rw [← hP]
      simp only [hPi] at HPL HLO HHI ⊢
      have HP0 : Hid (P 0 = 1) := hide (by rw [← hPi]; rfl)
      clear hP hPi hK
      go_enter Tryd.func19, Tryd.ntmps19
      go_wp2_with fail
      refine HCK.out.mono ?_
      rintro e w' ⟨rfl, rfl⟩
      go_wp2_with fail
      refine HFA.out.mono ?_
      rintro e w2 ⟨b, rfl, ho, hb, hsl⟩
      have HO := hide ho
      have HB := hide hb
      have HSL := hide hsl
      clear ho hb hsl HFA HCK
      go_wp2_with fail
      go_loopw [8, 26] (fun sv iv wr => ∃ i : Nat, i ≤ K ∧ iv = .int .i64 i ∧ sv = .int .i64 (P i : Nat) ∧ Below w2.heap.size w2 wr) (fun _ iv _ => K - (intOf iv).toNat)
      case atStart => exact ⟨0, Nat.zero_le _, rfl, by rw [HP0.out]; rfl, Below.refl _ _⟩
      case round =>
        clear HP0
        obtain ⟨i, hi, rfl, rfl, hbw⟩ := hrel
        have HBW := hide hbw
        have HOW := hide (HO.out.below hbw)
        clear hbw
        have hpi := HPL.out i (by omega)
        by_cases hlt : i < K
        · have hcl := HOW.out.cell hlt
          rw [HFL.out i hlt] at hcl
          have hsb := HSL.out i hlt
          have HGC := hide (fun (w : World) => imgcd_any ((s i).natAbs : Int) (k : Int) w (by omega) (by omega))
          have HN := hide (HLO.out i hlt)
          have hpn := HPL.out (i + 1) (by omega)
          rw [HN.out] at hpn
          generalize Int.gcd ((s i).natAbs : Int) k = d at *
          generalize ((s i).natAbs : Int) = x at *
          have hw1 : IntKind.i64.wrap ((P i : Int) * (d : Int)) = ((P i * d : Nat) : Int) := by
            rw [← Int.natCast_mul, IntKind.wrap_i64]; omega
          clear hpn hsb hpi
          go_wp2_with fail
          refine (HGC.out _).mono ?_
          rintro e w5 ⟨rfl, hb5⟩
          have HB5 := hide (HBW.out.trans (hb5.mono HBW.out.size))
          clear hb5 hcl
          go_wp2_with (simp only [hw1])
          go_roundw
          case rel => exact ⟨i + 1, by omega, by go_num, by rw [HN.out, Int.natCast_mul], HB5.out⟩
          case measure => simp [intOf]; omega
        · have hiK : i = K := by omega
          subst hiK
          have HBA := hide (HB.out.trans (HBW.out.mono HB.out.size))
          have hjm : ((m : Int) - (i : Int)) = ((m - i : Nat) : Int) := by omega
          go_wp2_with fail
          refine (HCO.out _ (HA.out.below HBA.out)).mono ?_
          rintro e w' ⟨rfl, rfl⟩
          go_wp2_with fail
          go_loop [8, 41] (fun sv jv => ∃ j : Nat, i + j ≤ m ∧ jv = .int .i64 j ∧ sv = .int .i64 (P (i + j) : Nat)) (fun _ jv => m - i - (intOf jv).toNat)
          case atStart => exact ⟨0, by omega, rfl, rfl⟩
          case round =>
            obtain ⟨j, hj, rfl, rfl⟩ := hrel
            have hpj := HPL.out (i + j) hj
            by_cases hjl : i + j < m
            · have HN := hide (HHI.out (i + j) (by omega) hjl)
              have hpn := HPL.out (i + j + 1) (by omega)
              rw [HN.out] at hpn
              have hw1 : IntKind.i64.wrap ((P (i + j) : Int) * (k : Int)) = ((P (i + j) * k : Nat) : Int) := by
                rw [← Int.natCast_mul, IntKind.wrap_i64]; omega
              clear hpn
              go_wp2_with (simp only [hw1])
              go_round
              case rel => exact ⟨j + 1, by omega, by go_num, by rw [show i + (j + 1) = i + j + 1 by omega, HN.out, Int.natCast_mul]⟩
              case measure => simp [intOf]; omega
            · have hjm : i + j = m := by omega
              have HJM := hide hjm
              clear hpi
              go_wp2_with fail
              go_ret2
              refine ⟨?_, HBA.out⟩
              rw [← HJM.out]
              rfl
  · have HE : Hid (solE xss q = mfault xss) := hide (by unfold solE; rw [if_neg hf])
    have HV : Hid (solV xss q = 0) := hide (by unfold solV; rw [if_neg (by rw [HE.out]; exact hf)])
    rw [HE.out, HV.out]
    generalize mfault xss = E at *
    have hb0 : (E != 0) = true := by simpa using hf
    clear ha hT HE HV hwf
    go_enter Tryd.func19, Tryd.ntmps19
    go_wp2_with fail
    refine HCK.out.mono ?_
    rintro e w' ⟨rfl, rfl⟩
    go_wp2_with fail
    go_ret2
    exact ⟨rfl, Below.refl _ _⟩

end Go.Proofs.YtbedpgcbfbjgiaaDoor
/- Package braid: Permutation. -/
namespace Go.Proofs.YtbedpgcbfbjgiaaDoor
set_option linter.unusedVariables false
set_option linter.unusedSimpArgs false
open Go.RowKit

/-- The strands at each position, after the letters w. -/
def AtP (n : Nat) (w : List Int) (sl : List Nat) : Prop := sl.length = n ∧ ∀ p, p < n → sl.getD p 0 < n ∧ endE w (sl.getD p 0) = p
theorem AtP.start (n : Nat) : AtP n [] (List.range n) := ⟨by simp, fun p hp => by rw [range_getD hp]; exact ⟨hp, rfl⟩⟩
theorem AtP.isP {n : Nat} {w : List Int} {sl : List Nat} (h : AtP n w sl) : Proofs.YtbedpgcbfbjgiaaDoor.isP sl := isP_of (fun j hj => by rw [h.1]; exact (h.2 j (by rw [← h.1]; exact hj)).1) (fun i j hi hj he => by
  have h1 := (h.2 i (by rw [← h.1]; exact hi)).2
  have h2 := (h.2 j (by rw [← h.1]; exact hj)).2
  rw [he, h2] at h1
  exact h1.symm)
/-- Two positions exchanged. -/
def swapP (i : Nat) (sl : List Nat) : List Nat := (sl.set (i - 1) (sl.getD i 0)).set i (sl.getD (i - 1) 0)
theorem swapP_getD {i n : Nat} {x : Int} (hx : x.natAbs = i) {sl : List Nat} (hl : sl.length = n) (h1 : 1 ≤ i) (h2 : i < n) {p : Nat} (hp : p < n) : (swapP i sl).getD p 0 = sl.getD (stepE p x) 0 := by
  unfold swapP stepE
  rw [hx]
  simp only [List.getD, List.getElem?_set, List.length_set]
  grind
theorem AtP.step {n : Nat} {w : List Int} {sl : List Nat} (h : AtP n w sl) {x : Int} (h0 : x ≠ 0) (h1 : x.natAbs < n) : AtP n (w ++ [x]) (swapP x.natAbs sl) := by
  refine ⟨by unfold swapP; simp [h.1], fun p hp => ?_⟩
  rw [swapP_getD rfl h.1 (by omega) h1 hp]
  have hs := stepE_lt h0 h1 hp
  obtain ⟨h3, h4⟩ := h.2 _ hs
  exact ⟨h3, by rw [endE_snoc, h4, stepE_twice h0]⟩

end Go.Proofs.YtbedpgcbfbjgiaaDoor
/- Package braid keeps its contracts (those that a seat has functions for). -/
namespace Go.Proofs.YtbedpgcbfbjgiaaDoor
open Go.RowKit
theorem braidC : BraidC where
  check := fun m A n c xs w h hm => (bcheck_any m A n c xs w h hm).mono fun e w' ⟨h1, h2⟩ => ⟨h1, by rw [← h2]; exact Below.refl _ _⟩
  inverse := binv_any -- 16
end Go.Proofs.YtbedpgcbfbjgiaaDoor
/- Package coloring: Count, Propagate; the package keeps its contracts. -/
namespace Go.Proofs.YtbedpgcbfbjgiaaDoor
set_option linter.unusedVariables false
set_option linter.unusedSimpArgs false
open Go.RowKit

theorem colV_bad' {nn kk : Int} {xs : List Int} (h : colE nn xs kk ≠ 0) : colV nn xs kk = 0 := by unfold colV; rw [if_neg h]
theorem colE_zero {m k : Int} {xs : List Int} (h : colE m xs k = 0) : bfault m xs = 0 ∧ 1 ≤ k ∧ k ≤ 13 := by
  unfold colE at h
  by_cases h0 : bfault m xs = 0
  · rw [if_neg (by omega)] at h
    by_cases h1 : k < 1 ∨ 13 < k
    · rw [if_pos h1] at h; omega
    · exact ⟨h0, by omega, by omega⟩
  · rw [if_pos h0] at h; exact absurd h h0

set_option maxRecDepth 100000 in
set_option maxHeartbeats 4000000 in
theorem clcount_any (m : Int) (A : Option Addr) (n c : Nat) (xs : List Int) (k : Int) (w : World) (ha : SL w A n c xs) (hT : TabW w) (hm : (Lit.int .i64 m).wf = true) (hwk : (Lit.int .i64 k).wf = true) :
    Calls Tryd.prog 5 #[.int .i64 m, .slice A n c, .int .i64 k] w fun e w' => e = .returned (.tuple #[.int .i64 (colV m xs k), .int .i64 (colE m xs k)]) ∧ Below w.heap.size w w' := by
  have HC := hide (clcheck_any braidC m A n c xs k w ha hm)
  by_cases h0 : colE m xs k = 0
  · obtain ⟨hb, hk1, hk2⟩ := colE_zero h0
    obtain ⟨g1, g6, gl, gx⟩ := bfault_zero hb
    obtain ⟨N, rfl⟩ : ∃ N : Nat, m = N := ⟨m.toNat, by omega⟩
    obtain ⟨K, rfl⟩ : ∃ K : Nat, k = K := ⟨k.toNat, by omega⟩
    have hx : ∀ x ∈ xs, x ≠ 0 ∧ x.natAbs < N := fun x h => by have := gx x h; omega
    have HV : Hid (colV N xs K = (cntC N K xs : Int)) := hide (by unfold colV; rw [if_pos h0, Int.toNat_natCast, Int.toNat_natCast])
    have HS := hide (dMx_sol (m := K) (n := N) (w := xs) (by omega) (by omega) (by omega) (by omega) hx)
    have HD := hide (fun (w : World) (h : SL w A n c xs) => cldiff_any A n c xs K N w h hx (by omega) (by omega) (by omega) (by omega))
    have HA := hide ha
    have HTB := hide hT
    have HWK := hide hwk
    rw [h0, HV.out]
    rw [h0] at HC
    clear ha hT hwk hm hb hx gx gl h0 HV g1 g6 hk1 hk2
    go_enter Tryd.func5, Tryd.ntmps5
    go_wp2_with fail
    refine HC.out.mono ?_
    rintro e w1 ⟨rfl, hb⟩
    have HW := hide hb
    clear hb HC
    go_wp2_with fail
    refine (HD.out _ (HA.out.below HW.out)).mono ?_
    rintro e w2 ⟨g, rfl, hs, hb⟩
    replace HW := hide (HW.out.trans (hb.mono HW.out.size))
    have HSL := hide hs
    clear hb hs HD
    go_wp2_with fail
    refine (imsol_any _ N N _ (K : Int) _ HSL.out (HTB.out.below HW.out) HWK.out).mono ?_
    rintro e w3 ⟨rfl, hb⟩
    replace HW := hide (HW.out.trans (hb.mono HW.out.size))
    rw [HS.out.1, HS.out.2]
    clear hb
    go_wp2_with fail
    go_ret2
    exact ⟨rfl, HW.out⟩
  · have HV : Hid (colV m xs k = 0) := hide (colV_bad' h0)
    rw [HV.out]
    generalize colE m xs k = E at *
    have hb0 : (E != 0) = true := by simpa using h0
    clear ha hT HV hm hwk h0
    go_enter Tryd.func5, Tryd.ntmps5
    go_wp2_with fail
    refine HC.out.mono ?_
    rintro e w1 ⟨rfl, hb⟩
    have HW := hide hb
    clear hb HC
    go_wp2_with fail
    go_ret2
    exact ⟨rfl, HW.out⟩

set_option maxRecDepth 100000 in
set_option maxHeartbeats 4000000 in
theorem clpropagate_any (m : Int) (A : Option Addr) (n c : Nat) (xs : List Int) (B : Option Addr) (l d : Nat) (ys : List Int) (k : Int) (w : World) (ha : SL w A n c xs) (hb : SL w B l d ys) (hm : (Lit.int .i64 m).wf = true) (hwk : (Lit.int .i64 k).wf = true) :
    Calls Tryd.prog 6 #[.int .i64 m, .slice A n c, .slice B l d, .int .i64 k] w (GivesLE w (proE m xs ys k) (proV m xs ys k)) := by
  have HC := hide (clcheck_any braidC m A n c xs k w ha hm)
  have HA := hide ha
  have HB := hide hb
  have HLN : Hid (ys.length = l) := hide hb.il.len
  have hlm := hb.il.small
  by_cases h0 : colE m xs k = 0
  case neg =>
    have HE : Hid (proE m xs ys k = colE m xs k) := hide (by unfold proE; rw [if_pos h0])
    have HV : Hid (proV m xs ys k = []) := hide (by unfold proV; rw [if_neg (by rw [HE.out]; exact h0)])
    rw [HE.out, HV.out]
    generalize colE m xs k = E at *
    have hb0 : (E != 0) = true := by simpa using h0
    clear ha hb HE HV hm hwk h0
    go_enter Tryd.func6, Tryd.ntmps6
    go_wp2_with fail
    refine HC.out.mono ?_
    rintro e w1 ⟨rfl, hb⟩
    have HW := hide hb
    clear hb HC
    go_wp2_with fail
    go_ret2
    exact ⟨none, 0, 0, rfl, SL.nil_ _, HW.out⟩
  case pos =>
    obtain ⟨hbf, hk1, hk2⟩ := colE_zero h0
    obtain ⟨g1, g6, gl, gx⟩ := bfault_zero hbf
    obtain ⟨N, rfl⟩ : ∃ N : Nat, m = N := ⟨m.toNat, by omega⟩
    obtain ⟨K, rfl⟩ : ∃ K : Nat, k = K := ⟨k.toNat, by omega⟩
    have hx : ∀ x ∈ xs, x ≠ 0 ∧ x.natAbs < N := fun x h => by have := gx x h; omega
    rw [h0] at HC
    by_cases hln : l = N
    case neg =>
      have HE : Hid (proE N xs ys K = 3) := hide (by unfold proE; rw [if_neg (by omega), if_pos (by rw [HLN.out]; omega)])
      have HV : Hid (proV N xs ys K = []) := hide (by unfold proV; rw [if_neg (by rw [HE.out]; omega)])
      rw [HE.out, HV.out]
      have hne : ((l : Int) != (N : Int)) = true := by simp; omega
      clear ha hb HE HV hm hwk h0 hbf gx hx
      go_enter Tryd.func6, Tryd.ntmps6
      go_wp2_with fail
      refine HC.out.mono ?_
      rintro e w1 ⟨rfl, hb⟩
      have HW := hide hb
      clear hb HC
      go_wp2_with fail
      go_ret2
      exact ⟨none, 0, 0, rfl, SL.nil_ _, HW.out⟩
    case pos =>
      subst hln
      have hne : ((l : Int) != (l : Int)) = false := by simp
      have HE : Hid (proE l xs ys K = if badC K ys then 1 else 0) := hide (by unfold proE; rw [if_neg (by omega), if_neg (by rw [HLN.out]; simp)])
      have HVb : Hid (badC K ys = true → proV l xs ys K = []) := hide (fun h => by unfold proV; rw [HE.out, if_pos h, if_neg (by omega)])
      have HVg : Hid (badC K ys = false → proV l xs ys K = cCol K xs ys) := hide (fun h => by unfold proV; rw [HE.out, h]; simp)
      have HBT : Hid (∀ j, j < l → (ys.getD j 0 < 0 ∨ (K : Int) ≤ ys.getD j 0) → badC K ys = true) := hide (fun j hj hb => by
        unfold badC
        rw [List.any_eq_true]
        have hj2 : j < ys.length := by rw [HLN.out]; exact hj
        refine ⟨ys[j], List.getElem_mem _, ?_⟩
        rw [show ys.getD j 0 = ys[j] by simp [List.getD, hj2]] at hb
        simp
        omega)
      have HBF : Hid ((∀ j, j < l → ¬ (ys.getD j 0 < 0 ∨ (K : Int) ≤ ys.getD j 0)) → badC K ys = false) := hide (fun h => by
        cases hc : badC K ys with
        | false => rfl
        | true =>
          unfold badC at hc
          rw [List.any_eq_true] at hc
          obtain ⟨y, hy, hp⟩ := hc
          obtain ⟨j, hj, rfl⟩ := List.mem_iff_getElem.1 hy
          have := h j (by rw [← HLN.out]; exact hj)
          rw [show ys.getD j 0 = ys[j] by simp [List.getD, hj]] at this
          simp at hp
          omega)
      have HX := hide hx
      rw [HE.out]
      obtain ⟨eb, heb⟩ : ∃ z : Int, (if badC (K : Int) ys = true then 1 else 0) = z := ⟨_, rfl⟩
      obtain ⟨V, hV⟩ : ∃ V, proV (l : Int) xs ys (K : Int) = V := ⟨_, rfl⟩
      have HE1 : Hid (badC (K : Int) ys = true → eb = 1) := hide (fun h => by rw [← heb, if_pos h])
      have HE0 : Hid (badC (K : Int) ys = false → eb = 0) := hide (fun h => by rw [← heb, h]; rfl)
      rw [hV] at HVb HVg
      rw [heb, hV]
      clear heb hV
      clear ha hb HE hm hwk h0 hbf gx hx
      go_enter Tryd.func6, Tryd.ntmps6
      go_wp2_with fail
      refine HC.out.mono ?_
      rintro e w1 ⟨rfl, hb⟩
      have HW := hide hb
      replace HA := hide (HA.out.below hb)
      replace HB := hide (HB.out.below hb)
      clear hb HC
      go_wp2_with fail
      go_loop [26] (fun iv => ∃ j : Nat, j ≤ l ∧ iv = .int .i64 j ∧ Hid (∀ i, i < j → ¬ (ys.getD i 0 < 0 ∨ (K : Int) ≤ ys.getD i 0))) (fun iv => l - (intOf iv).toNat)
      case atStart => exact ⟨0, Nat.zero_le _, rfl, hide (fun i hi => absurd hi (Nat.not_lt_zero _))⟩
      case round =>
        obtain ⟨j, hj, rfl, HG⟩ := hrel
        by_cases hlt : j < l
        · obtain ⟨ad, rfl, hcl⟩ := HB.out.il.at_ hlt
          by_cases hbad : ys.getD j 0 < 0 ∨ (K : Int) ≤ ys.getD j 0
          · have hbt := HBT.out j hlt hbad
            have e1 := HE1.out hbt
            have e2 := HVb.out hbt
            clear hbt HVb HVg HBT HBF HG HE0 HE1
            subst e1 e2
            generalize ys.getD j 0 = y at *
            by_cases hy : y < 0
            · have d1 : decide (y < 0) = true := decide_eq_true hy
              clear hbad hy
              go_wp2_with fail
              go_ret2
              exact ⟨none, 0, 0, rfl, SL.nil_ _, HW.out⟩
            · have d1 : decide (y < 0) = false := decide_eq_false hy
              have d2 : decide ((K : Int) ≤ y) = true := decide_eq_true (by omega)
              clear hbad hy
              go_wp2_with fail
              go_ret2
              exact ⟨none, 0, 0, rfl, SL.nil_ _, HW.out⟩
          · have HG2 : Hid (∀ i, i < j + 1 → ¬ (ys.getD i 0 < 0 ∨ (K : Int) ≤ ys.getD i 0)) := hide (fun i hi => by
              by_cases e : i = j
              · rw [e]; exact hbad
              · exact HG.out i (by omega))
            generalize ys.getD j 0 = y at *
            have d1 : decide (y < 0) = false := decide_eq_false (by omega)
            have d2 : decide ((K : Int) ≤ y) = false := decide_eq_false (by omega)
            clear hbad HG
            go_wp2_with fail
            go_round
            case rel => exact ⟨j + 1, by omega, by go_num, HG2⟩
            case measure => simp [intOf]; omega
        · have hjl : j = l := by omega
          have hbf := HBF.out (fun i hi => HG.out i (by omega))
          have e1 := HE0.out hbf
          have e2 := HVg.out hbf
          have HIC := hide (isC_badC HLN.out hbf)
          clear HG HVb HVg HBT HBF hbf HE0 HE1
          subst e1 e2
          go_wp2_with fail
          refine (clprop_any A n c xs B l d ys K l _ HA.out HB.out HIC.out HX.out (by omega) (by omega) (by omega)).mono ?_
          rintro e w2 ⟨R, rn, rc, rfl, ho, hb⟩
          have HR := hide ho.sl
          have HW2 := hide (HW.out.trans (hb.mono HW.out.size))
          clear hb ho
          go_wp2_with fail
          go_ret2
          exact ⟨_, _, _, rfl, HR.out, HW2.out⟩

/-- THE PACKAGE KEEPS ITS CONTRACTS. -/
theorem colC : ColC where
  prop := fun m A n c xs B l d ys k w h1 h2 h3 h4 => clpropagate_any m A n c xs B l d ys k w h1 h2 h3 h4 -- 6
  count := fun m A n c xs k w h1 hT h3 h4 => clcount_any m A n c xs k w h1 hT h3 h4
end Go.Proofs.YtbedpgcbfbjgiaaDoor
/- slices.IndexFunc and slices.DeleteFunc of integers, with a function that only answers. -/
namespace Go.Proofs.YtbedpgcbfbjgiaaDoor
set_option linter.unusedVariables false
set_option linter.unusedSimpArgs false
open Go.RowKit

theorem eIntIx : ∀ args w, (callFunc 22 args).run Tryd.prog w = .ok (.enter 22 args) w := enters (fn := Tryd.f22) (by kernel_rfl) (by kernel_rfl) (by kernel_rfl)
end Go.Proofs.YtbedpgcbfbjgiaaDoor
