/- Package intmatrix: divisors and factors. -/
import Derived.Test.YtgjblcfcbohjdaaDoorIm3
import Derived.Test.YtgjblcfcbohjdaaDoorDivM
import Derived.Test.YtgjblcfcbohjdaaDoorFacRef2
import Derived.Deep.DeepCutAuto
namespace Go.Proofs.YtgjblcfcbohjdaaDoor
set_option linter.unusedVariables false
set_option linter.unusedSimpArgs false
open Go.RowKit

theorem dvl_start (F : Mtx Int) (m K : Nat) : DvL F m K 0 0 (List.replicate (K + 1) 0) := DvL.start F m K

set_option maxRecDepth 100000 in
set_option maxHeartbeats 4000000 in
theorem divisors_any (A : Option Addr) (n c m : Nat) (xss : List (List Int)) (w : World) (ha : SLL w A n c xss) (hf : mfault xss = 0) (hT : TabW w) (hm : colsM xss = m) :
    Calls Tryd.prog 48 #[.slice A n c] w fun e w' => ∃ b, e = .returned (.slice (some ⟨b, 0, none⟩) (min n m + 1) (min n m + 1)) ∧ OwnI w' w.heap.size (some ⟨b, 0, none⟩) (min n m + 1) (min n m + 1) (dvL (smithS n m (matF xss)) (min n m)) ∧ Below w.heap.size w w' ∧ ∀ k, k ≤ min n m → ((dvL (smithS n m (matF xss)) (min n m)).getD k 0).natAbs ≤ 720000000000000 := by
  obtain ⟨hn6, hm6, _, hent⟩ := mat_rows hf
  have hl := ha.len
  rw [hl] at hn6
  rw [hm] at hm6
  obtain ⟨i0, hi0, hz0, hz1, hz2⟩ := info_parts int_info
  have HI0 := hide hi0
  have HZ0 := hide hz0
  have HZ1 := hide hz1
  have HZ2 := hide hz2
  obtain ⟨hN0, hN64⟩ := pow_pos2 n (by omega)
  obtain ⟨hM0, hM64⟩ := pow_pos2 m (by omega)
  have HA := hide ha
  have HT := hide hT
  have HCO := hide (fun (w : World) (h : SLL w A n c xss) => columns_any A n c xss w h)
  rw [hm] at HCO
  have HMN : Hid (∀ (w : World), SLL w A n c xss → TabW w → Calls Tryd.prog 31 #[.slice A n c] w fun e w' => ∃ g, e = .returned (.slice (some ⟨g, 0, none⟩) (2 ^ n) (2 ^ n)) ∧ TabO w' w.heap.size g (2 ^ m) (matF xss) m (2 ^ n) ∧ Below w.heap.size w w') := hide (fun w h1 h2 => minors_any A n c m xss w h1 hf h2 hm)
  have HSZ := hide (fun (x : Nat) (w : World) (h : x < 64) => imsize_any x w h)
  have HGD : Hid (∀ R C, C < 2 ^ m → (mnrL (matF xss) m R).getD C 0 = mnr (matF xss) R C) := hide (fun R C h => mnrL_getD _ h)
  have HSK : Hid (∀ R C, R < 2 ^ n → C < 2 ^ m → sizeN R = sizeN C → sizeN R ≤ min n m) := hide (fun R C h1 h2 h3 => by
    have := (bits_below n (by omega) R h1).2
    have := (bits_below m (by omega) C h2).2
    omega)
  have HAD : Hid (∀ R C ds, DvL (matF xss) m (min n m) R C ds → R < 2 ^ n → C < 2 ^ m → sizeN R = sizeN C → DvL (matF xss) m (min n m) R (C + 1) (ds.set (sizeN R) (Int.gcd (ds.getD (sizeN R) 0) (mnr (matF xss) R C) : Nat)) ∧ (ds.getD (sizeN R) 0).natAbs ≤ 720000000000000 ∧ (mnr (matF xss) R C).natAbs ≤ 720000000000000) := hide (fun R C ds h h1 h2 h3 => by
    have hl := mnr_small (C := C) (show R < 64 by omega) hent
    exact ⟨h.add_ h2 h3 hl (HSK.out R C h1 h2 h3), (h.at_ _ (HSK.out R C h1 h2 h3)).le, hl⟩)
  have HRW : Hid (∀ R ds, DvL (matF xss) m (min n m) R (2 ^ m) ds → DvL (matF xss) m (min n m) (R + 1) 0 ds) := hide (fun R ds h => h.row_)
  have HEN : Hid (∀ ds, DvL (matF xss) m (min n m) (2 ^ n) 0 ds → ds = dvL (smithS n m (matF xss)) (min n m) ∧ ∀ k, k ≤ min n m → ((dvL (smithS n m (matF xss)) (min n m)).getD k 0).natAbs ≤ 720000000000000) := hide (fun ds h => by
    have e := h.eq_ hn6 hm6 (smithS_chain n m (matF xss)) (smithS_el n m (matF xss))
    refine ⟨e, fun k hk => ?_⟩
    rw [← e]
    exact (h.at_ k hk).le)
  obtain ⟨K, hK⟩ : ∃ K, min n m = K := ⟨_, rfl⟩
  rw [hK] at HSK HAD HRW HEN ⊢
  have hK6 : K ≤ 6 := by omega
  have hKn : K ≤ n := by omega
  have hKm : K ≤ m := by omega
  have hKo : n ≤ K ∨ m ≤ K := by omega
  clear ha hf hT hm hl hi0 hz0 hz1 hz2 hent hK
  generalize 2 ^ n = N at *
  generalize 2 ^ m = M at *
  generalize matF xss = F at *
  generalize dvL (smithS n m F) K = dl at *
  go_enter Tryd.func48, Tryd.ntmps48
  go_upto_region 1 with fail
  go_cut [3, 9, 10, 11, 12, 13, 14, 15] (fun v _ _ _ _ _ _ _ wx => v = .slice (some ⟨w.heap.size, 0, none⟩) (K + 1) (K + 1) ∧ OwnI wx w.heap.size (some ⟨w.heap.size, 0, none⟩) (K + 1) (K + 1) (List.replicate (K + 1) 0) ∧ Below w.heap.size w wx)
  case first =>
    go_wp2_with fail
    refine (HCO.out _ HA.out).mono ?_
    rintro e w' ⟨rfl, hw'⟩
    subst hw'
    go_wp2_with (at_make; refine wpList_make_full _ rfl _ _ 28 rfl w.heap.size 3 i0 (.int .i64 0) 1 Tryd.underlying28 HI0.out HZ0.out HZ1.out .i64 .i64 _ _ (K + 1) rfl rfl (by omega) (by omega) (by rw [HZ2.out]; omega) (by unfold maxLen; omega) (Nat.le_refl _) ?_; intro w1 hown1 hg1)
    all_goals
      have ho : OwnI w1 w.heap.size (some ⟨w.heap.size, 0, none⟩) (K + 1) (K + 1) (List.replicate (K + 1) 0) := OwnI.zero (z := #[]) hown1 (by omega)
      have hb : Below w.heap.size w w1 := (Below.refl _ _).grown hg1 (Nat.le_refl _) (by intro k hk; cases hk)
      go_meet
      exact ⟨rfl, ho, hb⟩
  case rest =>
    obtain ⟨rfl, ho, hb⟩ := hcut
    have HO0 := hide ho
    have HB0 := hide hb
    have hsz : w.heap.size < wc.heap.size := (ho.form (by omega)).elim fun g h => by
      obtain ⟨e, _, h2⟩ := h
      injection e with e
      injection e with e
      omega
    have hdl := dvl_start F m K
    clear ho hb
    go_wp2_with fail
    refine (HMN.out _ (HA.out.below HB0.out) (HT.out.below HB0.out)).mono ?_
    rintro e w2 ⟨g, rfl, htab, hb2⟩
    have HTAB := hide htab
    have HO2 := hide (HO0.out.below hb2)
    have HB2 := hide (HB0.out.trans (hb2.mono HB0.out.size))
    have hdt : w.heap.size < wc.heap.size := hsz
    clear htab hb2 HO0 HB0 HMN
    obtain ⟨t, ht⟩ : ∃ t, wc.heap.size = t := ⟨_, rfl⟩
    rw [ht] at HTAB hdt
    clear ht hsz
    go_wp2_with fail
    go_loopw [19] (fun iv wr => ∃ (R : Nat) (ds : List Int), iv = .int .i64 R ∧ R ≤ N ∧ DvL F m K R 0 ds ∧ OwnI wr w.heap.size (some ⟨w.heap.size, 0, none⟩) (K + 1) (K + 1) ds ∧ w2.grownBy wr (some w.heap.size)) (fun iv _ => N - (intOf iv).toNat)
    case atStart => exact ⟨0, _, rfl, Nat.zero_le _, hdl, HO2.out, World.grownBy.refl _ _⟩
    case round =>
      clear HO2 hdl
      obtain ⟨R, ds, rfl, hR, hdv, ho, hgr⟩ := hrel
      have HDV := hide hdv
      have HO := hide ho
      have HGR := hide hgr
      have HTR := hide (HTAB.out.grown hgr hdt)
      clear hdv ho hgr
      rename World => wo
      by_cases hlt : R < N
      · obtain ⟨rb, hrc, hro⟩ := HTR.out.2 R hlt
        have HRO := hide hro
        have hrb : w.heap.size ≠ rb := by have := (ownsRow_type hro.own).1; omega
        clear hro
        go_wp2_with fail
        go_loopw [26] (fun jv wr => ∃ (C : Nat) (es : List Int), jv = .int .i64 C ∧ C ≤ M ∧ DvL F m K R C es ∧ OwnI wr w.heap.size (some ⟨w.heap.size, 0, none⟩) (K + 1) (K + 1) es ∧ wo.grownBy wr (some w.heap.size)) (fun jv _ => M - (intOf jv).toNat)
        case atStart => exact ⟨0, ds, rfl, Nat.zero_le _, HDV.out, HO.out, World.grownBy.refl _ _⟩
        case round =>
          clear HDV HO
          obtain ⟨C, es, rfl, hC, hdv, ho, hgr⟩ := hrel
          have HDV := hide hdv
          have HO := hide ho
          have HGW := hide hgr
          have hro : OwnI wr t (some ⟨rb, 0, none⟩) M M (mnrL F m R) := by
            obtain ⟨_, cs, hc⟩ := ownsRow_type HRO.out.own
            exact ⟨ownsRow_block HRO.out.own (hgr.block rb (Blk.lt (w := wo) (t := 3) (cs := cs) hc) (by intro e; injection e with e; omega)), HRO.out.small⟩
          by_cases hlc : C < M
          · have hx := hro.cell hlc
            rw [HGD.out R C hlc] at hx
            clear hdv ho hgr hro
            by_cases hs : sizeN R = sizeN C
            · obtain ⟨hd2, hl1, hl2⟩ := HAD.out R C es HDV.out hlt hlc hs
              have HD2 := hide hd2
              have hsk := HSK.out R C hlt hlc hs
              have hdc := HO.out.cell (show sizeN R < K + 1 by omega)
              have HGC := hide (fun (w : World) => imgcd_any (es.getD (sizeN R) 0) (mnr F R C) w (by omega) (by omega))
              have hse : ((sizeN R : Int) == (sizeN C : Int)) = true := by simp [hs]
              clear hd2 hs
              generalize mnr F R C = y at *
              generalize es.getD (sizeN R) 0 = z at *
              go_wp2_with fail
              refine (HSZ.out R _ (by omega)).mono ?_
              rintro e w' ⟨rfl, rfl⟩
              go_wp2_with fail
              refine (HSZ.out C _ (by omega)).mono ?_
              rintro e w' ⟨rfl, rfl⟩
              generalize sizeN R = k at *
              go_wp2_with fail
              refine (HGC.out _).mono ?_
              rintro e w5 ⟨rfl, hb5⟩
              have ho5 := HO.out.below hb5
              have hcd := ho5.cell (show k < K + 1 by omega)
              have hfr := ho5.frozen k
              generalize z.gcd y = q at *
              have HN := hide (ho5.set_ k q)
              have HGN := hide ((HGW.out.trans (grownBy_of_below hb5 _)).trans (grownBy_set1 w5 w.heap.size k (.int .i64 q)))
              clear ho5 hb5 hdc hx HO HGW HDV
              go_wp2_with fail
              go_roundw
              case rel => exact ⟨C + 1, es.set k q, by go_num, by omega, HD2.out, HN.out, HGN.out⟩
              case measure => simp [intOf]; omega
            · have hse : ((sizeN R : Int) == (sizeN C : Int)) = false := by simp; omega
              have HN := hide (HDV.out.skip_ hs)
              clear hs
              go_wp2_with fail
              refine (HSZ.out R _ (by omega)).mono ?_
              rintro e w' ⟨rfl, rfl⟩
              go_wp2_with fail
              refine (HSZ.out C _ (by omega)).mono ?_
              rintro e w' ⟨rfl, rfl⟩
              go_wp2_with fail
              go_roundw
              case rel => exact ⟨C + 1, es, by go_num, by omega, HN.out, HO.out, HGW.out⟩
              case measure => simp [intOf]; omega
          · have hCM : C = M := by omega
            rw [hCM] at hdv
            have HN := hide (HRW.out R es hdv)
            have HG2 := hide (HGR.out.trans hgr)
            clear hdv ho hgr hro
            go_wp2_with fail
            go_roundw
            case rel => exact ⟨R + 1, es, by go_num, by omega, HN.out, HO.out, HG2.out⟩
            case measure => simp [intOf]; omega
      · have hRN : R = N := by omega
        have hdv := HDV.out
        rw [hRN] at hdv
        have HN := hide HO.out
        obtain ⟨hde, hdb⟩ := HEN.out ds hdv
        have HDB := hide hdb
        rw [hde] at HN
        clear hde hdb
        have HBB := hide (HB2.out.grown HGR.out HB2.out.size (fun k hk => by injection hk with hk; omega))
        clear hdv HDV HO
        go_wp2_with fail
        go_ret
        exact ⟨_, rfl, HN.out, HBB.out, HDB.out⟩

theorem fac_le {s : Nat → Int} {N : Nat} (h : ∀ i, i + 1 < N → s i ∣ s (i + 1)) {B : Nat} (hb : ∀ k, k ≤ N → ((dvL s N).getD k 0).natAbs ≤ B) : ∀ i, i < N → (s i).natAbs ≤ B := fun i hi => by
  have h1 := fac_quo h hi
  have h2 := hb (i + 1) (by omega)
  rw [dvL_getD s (by omega)] at h2
  split at h1
  · omega
  · have h3 := Int.tdiv_le_self (a := ((prodF s (i + 1)).natAbs : Int)) ((prodF s i).natAbs : Int) (by omega)
    omega

set_option maxRecDepth 100000 in
set_option maxHeartbeats 4000000 in
theorem imfactors_any (A : Option Addr) (n c m : Nat) (xss : List (List Int)) (w : World) (ha : SLL w A n c xss) (hf : mfault xss = 0) (hT : TabW w) (hm : colsM xss = m) :
    Calls Tryd.prog 35 #[.slice A n c] w fun e w' => ∃ b, e = .returned (.slice (some ⟨b, 0, none⟩) (min n m) (min n m)) ∧ OwnI w' w.heap.size (some ⟨b, 0, none⟩) (min n m) (min n m) (facL (smithS n m (matF xss)) (min n m)) ∧ Below w.heap.size w w' ∧ ∀ i, i < min n m → (smithS n m (matF xss) i).natAbs ≤ 720000000000000 := by
  obtain ⟨hn6, hm6, _, hent⟩ := mat_rows hf
  have hl := ha.len
  rw [hl] at hn6
  rw [hm] at hm6
  obtain ⟨i0, hi0, hz0, hz1, hz2⟩ := info_parts int_info
  have HI0 := hide hi0
  have HZ0 := hide hz0
  have HZ1 := hide hz1
  have HZ2 := hide hz2
  have HDV := hide (divisors_any A n c m xss w ha hf hT hm)
  have HCH := smithS_chain n m (matF xss)
  obtain ⟨s, hs⟩ : ∃ s, smithS n m (matF xss) = s := ⟨_, rfl⟩
  rw [hs] at HDV HCH ⊢
  obtain ⟨K, hK⟩ : ∃ K, min n m = K := ⟨_, rfl⟩
  rw [hK] at HDV HCH ⊢
  have hK6 : K ≤ 6 := by omega
  have HGD : Hid (∀ k, k ≤ K → (dvL s K).getD k 0 = ((prodF s k).natAbs : Int)) := hide (fun k h => dvL_getD s h)
  have HQ : Hid (∀ i, i < K → (if ((prodF s i).natAbs : Int) = 0 then (0 : Int) else ((prodF s (i + 1)).natAbs : Int).tdiv ((prodF s i).natAbs : Int)) = ((s i).natAbs : Int)) := hide (fun i hi => fac_quo HCH hi)
  have HFE : Hid ((∀ k, k ≤ K → ((dvL s K).getD k 0).natAbs ≤ 720000000000000) → ∀ i, i < K → (s i).natAbs ≤ 720000000000000) := hide (fun h => fac_le HCH h)
  have HFL : Hid (fillN (fun i => ((s i).natAbs : Int)) K K = facL s K) := hide (fillN_full (by simp [facL]) (fun j hj => by simp [facL, List.getD, hj]))
  clear ha hf hT hm hl hi0 hz0 hz1 hz2 hent hs hK HCH
  go_enter Tryd.func35, Tryd.ntmps35
  go_wp2_with fail
  refine HDV.out.mono ?_
  rintro e w1 ⟨b, rfl, hob, hb1, hdb⟩
  have HDB := hide hdb
  have HOB := hide hob
  have HB1 := hide hb1
  have hs1 := hb1.size
  clear HDV hob hb1 hdb
  go_wp2_with (at_make; refine wpList_make_full _ rfl _ _ 28 rfl w.heap.size 3 i0 (.int .i64 0) 1 Tryd.underlying28 HI0.out HZ0.out HZ1.out .i64 .i64 _ _ K rfl rfl (by omega) (by omega) (by rw [HZ2.out]; omega) (by unfold maxLen; omega) hs1 ?_; intro w2 hown2 hg2)
  have HO0 : Hid (OwnI w2 w.heap.size (some ⟨w1.heap.size, 0, none⟩) K K (fillN (fun i => ((s i).natAbs : Int)) K 0)) := hide (by rw [fillN_zero]; exact OwnI.zero (z := #[]) hown2 (by omega))
  have HB2 : Hid (Below w1.heap.size w1 w2) := hide ((Below.refl _ _).grown hg2 (Nat.le_refl _) (by intro k hk; cases hk))
  clear hown2 hg2
  go_loopw [14] (fun iv wr => ∃ i : Nat, iv = .int .i64 i ∧ i ≤ K ∧ OwnI wr w.heap.size (some ⟨w1.heap.size, 0, none⟩) K K (fillN (fun i => ((s i).natAbs : Int)) K i) ∧ Below w1.heap.size w1 wr) (fun iv _ => K - (intOf iv).toNat)
  case atStart => exact ⟨0, rfl, Nat.zero_le _, HO0.out, HB2.out⟩
  case round =>
    clear HO0 HB2
    obtain ⟨i, rfl, hi, ho, hbw⟩ := hrel
    have HO := hide ho
    have HBW := hide hbw
    have HD := hide (HOB.out.below hbw)
    clear ho hbw
    by_cases hlt : i < K
    · have hdi := HD.out.cell (show i < K + 1 by omega)
      have hdj := HD.out.cell (show i + 1 < K + 1 by omega)
      rw [HGD.out i (by omega)] at hdi
      rw [HGD.out (i + 1) (by omega)] at hdj
      have HQI := hide (HQ.out i hlt)
      have HFS : Hid ((fillN (fun i => ((s i).natAbs : Int)) K i).set i ((s i).natAbs : Int) = fillN (fun i => ((s i).natAbs : Int)) K (i + 1)) := hide (fillN_set (fun i => ((s i).natAbs : Int)) K i)
      obtain ⟨x, hx⟩ : ∃ x : Int, ((prodF s i).natAbs : Int) = x := ⟨_, rfl⟩
      obtain ⟨y, hy⟩ : ∃ y : Int, ((prodF s (i + 1)).natAbs : Int) = y := ⟨_, rfl⟩
      have hbi : b < wr.heap.size := World.block_lt_of_cell? wr _ hdi
      rw [hx] at HQI hdi
      rw [hy] at HQI hdj
      have hyb := HDB.out (i + 1) (by omega)
      rw [HGD.out (i + 1) (by omega), hy] at hyb
      by_cases h0 : x = 0
      · have hbe : (x != 0) = false := by simp [h0]
        have HN : Hid (OwnI wr w.heap.size (some ⟨w1.heap.size, 0, none⟩) K K (fillN (fun i => ((s i).natAbs : Int)) K (i + 1))) := hide (by
          have h := HQI.out
          rw [if_pos h0] at h
          rw [← fillN_same (f := fun i => ((s i).natAbs : Int)) h.symm]
          exact HO.out)
        clear h0 hx hy HQI
        go_wp2_with fail
        go_roundw
        case rel => exact ⟨i + 1, by go_num, by omega, HN.out, HBW.out⟩
        case measure => simp [intOf]; omega
      · have hbe : (x != 0) = true := by simpa using h0
        have hq := HQI.out
        rw [if_neg h0] at hq
        rw [← hq] at HFS
        have hx0 : 0 ≤ x := by omega
        have hy0 : 0 ≤ y := by omega
        have hwq : IntKind.i64.wrap (y.tdiv x) = y.tdiv x := by
          have h1 := Int.tdiv_nonneg hy0 hx0
          have h2 : y.tdiv x ≤ y := Int.tdiv_le_self x hy0
          rw [IntKind.wrap_i64]; omega
        have hw1 : IntKind.i64.wrap ((i : Int) + 1) = ((i + 1 : Nat) : Int) := by rw [IntKind.wrap_i64]; omega
        have HDI := hide hdi
        have HDJ := hide hdj
        have HX0 := hide h0
        have HWQ := hide hwq
        have HW1 := hide hw1
        clear hx hy hq HQI hwq hw1 hdj h0 hyb
        go_upto_region 7 with fail
        refine wp_region_T (S := fun x => Below wr.heap.size wr x) 13 (by kernel_rfl) (Below.refl _ _).drew (fun hS => ?_)
        refine wpT_tk 0 (v := .slice (some ⟨w1.heap.size, 0, none⟩) K K) rfl (by kernel_rfl) (by kernel_rfl) (by kernel_rfl) (by kernel_rfl) (yi rfl fun x hx => gives_move (.inl rfl) rfl) hS ?_
        go_frame
        refine wpT_tk 1 (v := .int .i64 i) rfl (by kernel_rfl) (by kernel_rfl) (by kernel_rfl) (by kernel_rfl) (yi rfl fun x hx => gives_move (.inl rfl) rfl) hS ?_
        go_frame
        refine wpT_tk 2 (v := .slice (some ⟨b, 0, none⟩) (K + 1) (K + 1)) rfl (by kernel_rfl) (by kernel_rfl) (by kernel_rfl) (by kernel_rfl) (yi rfl fun x hx => gives_move (.inl rfl) rfl) hS ?_
        go_frame
        refine wpT_tk 3 (v := .int .i64 i) rfl (by kernel_rfl) (by kernel_rfl) (by kernel_rfl) (by kernel_rfl) (yi rfl fun x hx => gives_move (.inl rfl) rfl) hS ?_
        go_frame
        refine wpT_tk 4 (v := .int .i64 ((i + 1 : Nat) : Int)) rfl (by kernel_rfl) (by kernel_rfl) (by kernel_rfl) (by kernel_rfl) (yi rfl fun x hx => gives_add rfl rfl rfl HW1.out) hS ?_
        go_frame
        refine wpT_tk 5 (v := .pointer (some ⟨b, (i + 1) * 1, none⟩)) rfl (by kernel_rfl) (by kernel_rfl) (by kernel_rfl) (by kernel_rfl) (yi rfl fun x hx => gives_indexB rfl Tryd.underlying28 (fun w => by kernel_rfl) rfl rfl (by omega)) hS ?_
        go_frame
        rw [Nat.mul_one]
        refine wpT_tk 6 (v := .int .i64 y) rfl (by kernel_rfl) (by kernel_rfl) (by kernel_rfl) (by kernel_rfl) (yi rfl fun x hx => gives_load1 rfl (by kernel_rfl) rfl ((hx.cell (p := ⟨b, i + 1, none⟩) hbi).trans HDJ.out)) hS ?_
        go_frame
        refine wpT_tk 7 (v := .slice (some ⟨b, 0, none⟩) (K + 1) (K + 1)) rfl (by kernel_rfl) (by kernel_rfl) (by kernel_rfl) (by kernel_rfl) (yi rfl fun x hx => gives_move (.inl rfl) rfl) hS ?_
        go_frame
        refine wpT_tk 8 (v := .int .i64 i) rfl (by kernel_rfl) (by kernel_rfl) (by kernel_rfl) (by kernel_rfl) (yi rfl fun x hx => gives_move (.inl rfl) rfl) hS ?_
        go_frame
        refine wpT_tk 9 (v := .pointer (some ⟨b, i * 1, none⟩)) rfl (by kernel_rfl) (by kernel_rfl) (by kernel_rfl) (by kernel_rfl) (yi rfl fun x hx => gives_indexB rfl Tryd.underlying28 (fun w => by kernel_rfl) rfl rfl (by omega)) hS ?_
        go_frame
        rw [Nat.mul_one]
        refine wpT_tk 10 (v := .int .i64 x) rfl (by kernel_rfl) (by kernel_rfl) (by kernel_rfl) (by kernel_rfl) (yi rfl fun z hz => gives_load1 rfl (by kernel_rfl) rfl ((hz.cell (p := ⟨b, i, none⟩) hbi).trans HDI.out)) hS ?_
        go_frame
        refine wpT_tk 11 (v := .int .i64 (y.tdiv x)) rfl (by kernel_rfl) (by kernel_rfl) (by kernel_rfl) (by kernel_rfl) (yi rfl fun z hz => gives_quo rfl rfl rfl HX0.out HWQ.out) hS ?_
        go_frame
        refine wpT_tk 12 (v := .pointer (some ⟨w1.heap.size, i * 1, none⟩)) rfl (by kernel_rfl) (by kernel_rfl) (by kernel_rfl) (by kernel_rfl) (yi rfl fun z hz => gives_indexB rfl Tryd.underlying28 (fun w => by kernel_rfl) rfl rfl hlt) hS ?_
        go_frame
        rw [Nat.mul_one]
        refine wpT_1 13 rfl (by kernel_rfl) ?_
        refine wp_storeI rfl (by kernel_rfl) (by kernel_rfl) rfl rfl (HO.out.cell hlt) (HO.out.frozen i) ?_
        refine ⟨fun h => absurd rfl h, ?_⟩
        go_frame
        refine wpT_done (by kernel_rfl) (noPanic_mk ?_) _
        have HN : Hid (OwnI (wr.drew.setCell ⟨w1.heap.size, i, none⟩ (.int .i64 (y.tdiv x))) w.heap.size (some ⟨w1.heap.size, 0, none⟩) K K (fillN (fun i => ((s i).natAbs : Int)) K (i + 1))) := hide (by
          rw [← HFS.out]
          exact (HO.out.below (Below.refl _ _).drew).set_ i (y.tdiv x))
        have HBN : Hid (Below w1.heap.size w1 (wr.drew.setCell ⟨w1.heap.size, i, none⟩ (.int .i64 (y.tdiv x)))) := hide (HBW.out.drew.setCell (p := ⟨w1.heap.size, i, none⟩) (Nat.le_refl _) _)
        clear hS HDI HDJ HD HO HBW
        generalize wr.drew.setCell ⟨w1.heap.size, i, none⟩ (.int .i64 (y.tdiv x)) = w5 at *
        go_wp2_with fail
        go_roundw
        case rel => exact ⟨i + 1, by go_num, by omega, HN.out, HBN.out⟩
        case measure => simp [intOf]; omega
    · have hiK : i = K := by omega
      have HN := hide HO.out
      rw [hiK, HFL.out] at HN
      have HBB := hide (HB1.out.trans (HBW.out.mono hs1))
      clear HO
      go_wp2_with fail
      go_ret
      exact ⟨_, rfl, HN.out, HBB.out, HFE.out HDB.out⟩
end Go.Proofs.YtgjblcfcbohjdaaDoor
