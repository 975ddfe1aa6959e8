/- Several texts in one. -/
import Derived.Test.YtndgffiihbdppaaDoorPart10
import Derived.Deep.DeepCutAuto
import Derived.Test.YtndgffiihbdppaaDoorPart4
import Derived.Test.YtndgffiihbdppaaDoorPart2
/- Package intmatrix: divisors and factors. -/
namespace Go.Proofs.YtndgffiihbdppaaDoor
set_option linter.unusedVariables false
set_option linter.unusedSimpArgs false
open Go.RowKit

theorem dvl_start (F : Mtx Int) (m K : Nat) : DvL F m K 0 0 (List.replicate (K + 1) 0) := DvL.start F m K

set_option maxRecDepth 100000 in
set_option maxHeartbeats 4000000 in
theorem divisors_any (A : Option Addr) (n c m : Nat) (xss : List (List Int)) (w : World) (ha : SLL w A n c xss) (hf : mfault xss = 0) (hT : TabW w) (hm : colsM xss = m) :
    Calls Tryd.prog 45 #[.slice A n c] w fun e w' => ∃ b, e = .returned (.slice (some ⟨b, 0, none⟩) (min n m + 1) (min n m + 1)) ∧ OwnI w' w.heap.size (some ⟨b, 0, none⟩) (min n m + 1) (min n m + 1) (dvL (smithS n m (matF xss)) (min n m)) ∧ Below w.heap.size w w' ∧ ∀ k, k ≤ min n m → ((dvL (smithS n m (matF xss)) (min n m)).getD k 0).natAbs ≤ 720000000000000 := by
  obtain ⟨hn6, hm6, _, hent⟩ := mat_rows hf
  have hl := ha.len
  rw [hl] at hn6
  rw [hm] at hm6
  obtain ⟨i0, hi0, hz0, hz1, hz2⟩ := info_parts int_info
  have HI0 := hide hi0
  have HZ0 := hide hz0
  have HZ1 := hide hz1
  have HZ2 := hide hz2
  obtain ⟨hN0, hN64⟩ := pow_pos2 n (by omega)
  obtain ⟨hM0, hM64⟩ := pow_pos2 m (by omega)
  have HA := hide ha
  have HT := hide hT
  have HCO := hide (fun (w : World) (h : SLL w A n c xss) => columns_any A n c xss w h)
  rw [hm] at HCO
  have HMN : Hid (∀ (w : World), SLL w A n c xss → TabW w → Calls Tryd.prog 58 #[.slice A n c] w fun e w' => ∃ g, e = .returned (.slice (some ⟨g, 0, none⟩) (2 ^ n) (2 ^ n)) ∧ TabO w' w.heap.size g (2 ^ m) (matF xss) m (2 ^ n) ∧ Below w.heap.size w w') := hide (fun w h1 h2 => minors_any A n c m xss w h1 hf h2 hm)
  have HSZ := hide (fun (x : Nat) (w : World) (h : x < 64) => imsize_any x w h)
  have HGD : Hid (∀ R C, C < 2 ^ m → (mnrL (matF xss) m R).getD C 0 = mnr (matF xss) R C) := hide (fun R C h => mnrL_getD _ h)
  have HSK : Hid (∀ R C, R < 2 ^ n → C < 2 ^ m → sizeN R = sizeN C → sizeN R ≤ min n m) := hide (fun R C h1 h2 h3 => by
    have := (bits_below n (by omega) R h1).2
    have := (bits_below m (by omega) C h2).2
    omega)
  have HAD : Hid (∀ R C ds, DvL (matF xss) m (min n m) R C ds → R < 2 ^ n → C < 2 ^ m → sizeN R = sizeN C → DvL (matF xss) m (min n m) R (C + 1) (ds.set (sizeN R) (Int.gcd (ds.getD (sizeN R) 0) (mnr (matF xss) R C) : Nat)) ∧ (ds.getD (sizeN R) 0).natAbs ≤ 720000000000000 ∧ (mnr (matF xss) R C).natAbs ≤ 720000000000000) := hide (fun R C ds h h1 h2 h3 => by
    have hl := mnr_small (C := C) (show R < 64 by omega) hent
    exact ⟨h.add_ h2 h3 hl (HSK.out R C h1 h2 h3), (h.at_ _ (HSK.out R C h1 h2 h3)).le, hl⟩)
  have HRW : Hid (∀ R ds, DvL (matF xss) m (min n m) R (2 ^ m) ds → DvL (matF xss) m (min n m) (R + 1) 0 ds) := hide (fun R ds h => h.row_)
  have HEN : Hid (∀ ds, DvL (matF xss) m (min n m) (2 ^ n) 0 ds → ds = dvL (smithS n m (matF xss)) (min n m) ∧ ∀ k, k ≤ min n m → ((dvL (smithS n m (matF xss)) (min n m)).getD k 0).natAbs ≤ 720000000000000) := hide (fun ds h => by
    have e := h.eq_ hn6 hm6 (smithS_chain n m (matF xss)) (smithS_el n m (matF xss))
    refine ⟨e, fun k hk => ?_⟩
    rw [← e]
    exact (h.at_ k hk).le)
  obtain ⟨K, hK⟩ : ∃ K, min n m = K := ⟨_, rfl⟩
  rw [hK] at HSK HAD HRW HEN ⊢
  have hK6 : K ≤ 6 := by omega
  have hKn : K ≤ n := by omega
  have hKm : K ≤ m := by omega
  have hKo : n ≤ K ∨ m ≤ K := by omega
  clear ha hf hT hm hl hi0 hz0 hz1 hz2 hent hK
  generalize 2 ^ n = N at *
  generalize 2 ^ m = M at *
  generalize matF xss = F at *
  generalize dvL (smithS n m F) K = dl at *
  go_enter Tryd.func45, Tryd.ntmps45
  go_upto_region 1 with fail
  go_cut [3, 9, 10, 11, 12, 13, 14, 15] (fun v _ _ _ _ _ _ _ wx => v = .slice (some ⟨w.heap.size, 0, none⟩) (K + 1) (K + 1) ∧ OwnI wx w.heap.size (some ⟨w.heap.size, 0, none⟩) (K + 1) (K + 1) (List.replicate (K + 1) 0) ∧ Below w.heap.size w wx)
  case first =>
    go_wp2_with fail
    refine (HCO.out _ HA.out).mono ?_
    rintro e w' ⟨rfl, hw'⟩
    subst hw'
    go_wp2_with (at_make; refine wpList_make_full _ rfl _ _ 22 rfl w.heap.size 3 i0 (.int .i64 0) 1 Tryd.underlying22 HI0.out HZ0.out HZ1.out .i64 .i64 _ _ (K + 1) rfl rfl (by omega) (by omega) (by rw [HZ2.out]; omega) (by unfold maxLen; omega) (Nat.le_refl _) ?_; intro w1 hown1 hg1)
    all_goals
      have ho : OwnI w1 w.heap.size (some ⟨w.heap.size, 0, none⟩) (K + 1) (K + 1) (List.replicate (K + 1) 0) := OwnI.zero (z := #[]) hown1 (by omega)
      have hb : Below w.heap.size w w1 := (Below.refl _ _).grown hg1 (Nat.le_refl _) (by intro k hk; cases hk)
      go_meet
      exact ⟨rfl, ho, hb⟩
  case rest =>
    obtain ⟨rfl, ho, hb⟩ := hcut
    have HO0 := hide ho
    have HB0 := hide hb
    have hsz : w.heap.size < wc.heap.size := (ho.form (by omega)).elim fun g h => by
      obtain ⟨e, _, h2⟩ := h
      injection e with e
      injection e with e
      omega
    have hdl := dvl_start F m K
    clear ho hb
    go_wp2_with fail
    refine (HMN.out _ (HA.out.below HB0.out) (HT.out.below HB0.out)).mono ?_
    rintro e w2 ⟨g, rfl, htab, hb2⟩
    have HTAB := hide htab
    have HO2 := hide (HO0.out.below hb2)
    have HB2 := hide (HB0.out.trans (hb2.mono HB0.out.size))
    have hdt : w.heap.size < wc.heap.size := hsz
    clear htab hb2 HO0 HB0 HMN
    obtain ⟨t, ht⟩ : ∃ t, wc.heap.size = t := ⟨_, rfl⟩
    rw [ht] at HTAB hdt
    clear ht hsz
    go_wp2_with fail
    go_loopw [19] (fun iv wr => ∃ (R : Nat) (ds : List Int), iv = .int .i64 R ∧ R ≤ N ∧ DvL F m K R 0 ds ∧ OwnI wr w.heap.size (some ⟨w.heap.size, 0, none⟩) (K + 1) (K + 1) ds ∧ w2.grownBy wr (some w.heap.size)) (fun iv _ => N - (intOf iv).toNat)
    case atStart => exact ⟨0, _, rfl, Nat.zero_le _, hdl, HO2.out, World.grownBy.refl _ _⟩
    case round =>
      clear HO2 hdl
      obtain ⟨R, ds, rfl, hR, hdv, ho, hgr⟩ := hrel
      have HDV := hide hdv
      have HO := hide ho
      have HGR := hide hgr
      have HTR := hide (HTAB.out.grown hgr hdt)
      clear hdv ho hgr
      rename World => wo
      by_cases hlt : R < N
      · obtain ⟨rb, hrc, hro⟩ := HTR.out.2 R hlt
        have HRO := hide hro
        have hrb : w.heap.size ≠ rb := by have := (ownsRow_type hro.own).1; omega
        clear hro
        go_wp2_with fail
        go_loopw [26] (fun jv wr => ∃ (C : Nat) (es : List Int), jv = .int .i64 C ∧ C ≤ M ∧ DvL F m K R C es ∧ OwnI wr w.heap.size (some ⟨w.heap.size, 0, none⟩) (K + 1) (K + 1) es ∧ wo.grownBy wr (some w.heap.size)) (fun jv _ => M - (intOf jv).toNat)
        case atStart => exact ⟨0, ds, rfl, Nat.zero_le _, HDV.out, HO.out, World.grownBy.refl _ _⟩
        case round =>
          clear HDV HO
          obtain ⟨C, es, rfl, hC, hdv, ho, hgr⟩ := hrel
          have HDV := hide hdv
          have HO := hide ho
          have HGW := hide hgr
          have hro : OwnI wr t (some ⟨rb, 0, none⟩) M M (mnrL F m R) := by
            obtain ⟨_, cs, hc⟩ := ownsRow_type HRO.out.own
            exact ⟨ownsRow_block HRO.out.own (hgr.block rb (Blk.lt (w := wo) (t := 3) (cs := cs) hc) (by intro e; injection e with e; omega)), HRO.out.small⟩
          by_cases hlc : C < M
          · have hx := hro.cell hlc
            rw [HGD.out R C hlc] at hx
            clear hdv ho hgr hro
            by_cases hs : sizeN R = sizeN C
            · obtain ⟨hd2, hl1, hl2⟩ := HAD.out R C es HDV.out hlt hlc hs
              have HD2 := hide hd2
              have hsk := HSK.out R C hlt hlc hs
              have hdc := HO.out.cell (show sizeN R < K + 1 by omega)
              have HGC := hide (fun (w : World) => imgcd_any (es.getD (sizeN R) 0) (mnr F R C) w (by omega) (by omega))
              have hse : ((sizeN R : Int) == (sizeN C : Int)) = true := by simp [hs]
              clear hd2 hs
              generalize mnr F R C = y at *
              generalize es.getD (sizeN R) 0 = z at *
              go_wp2_with fail
              refine (HSZ.out R _ (by omega)).mono ?_
              rintro e w' ⟨rfl, rfl⟩
              go_wp2_with fail
              refine (HSZ.out C _ (by omega)).mono ?_
              rintro e w' ⟨rfl, rfl⟩
              generalize sizeN R = k at *
              go_wp2_with fail
              refine (HGC.out _).mono ?_
              rintro e w5 ⟨rfl, hb5⟩
              have ho5 := HO.out.below hb5
              have hcd := ho5.cell (show k < K + 1 by omega)
              have hfr := ho5.frozen k
              generalize z.gcd y = q at *
              have HN := hide (ho5.set_ k q)
              have HGN := hide ((HGW.out.trans (grownBy_of_below hb5 _)).trans (grownBy_set1 w5 w.heap.size k (.int .i64 q)))
              clear ho5 hb5 hdc hx HO HGW HDV
              go_wp2_with fail
              go_roundw
              case rel => exact ⟨C + 1, es.set k q, by go_num, by omega, HD2.out, HN.out, HGN.out⟩
              case measure => simp [intOf]; omega
            · have hse : ((sizeN R : Int) == (sizeN C : Int)) = false := by simp; omega
              have HN := hide (HDV.out.skip_ hs)
              clear hs
              go_wp2_with fail
              refine (HSZ.out R _ (by omega)).mono ?_
              rintro e w' ⟨rfl, rfl⟩
              go_wp2_with fail
              refine (HSZ.out C _ (by omega)).mono ?_
              rintro e w' ⟨rfl, rfl⟩
              go_wp2_with fail
              go_roundw
              case rel => exact ⟨C + 1, es, by go_num, by omega, HN.out, HO.out, HGW.out⟩
              case measure => simp [intOf]; omega
          · have hCM : C = M := by omega
            rw [hCM] at hdv
            have HN := hide (HRW.out R es hdv)
            have HG2 := hide (HGR.out.trans hgr)
            clear hdv ho hgr hro
            go_wp2_with fail
            go_roundw
            case rel => exact ⟨R + 1, es, by go_num, by omega, HN.out, HO.out, HG2.out⟩
            case measure => simp [intOf]; omega
      · have hRN : R = N := by omega
        have hdv := HDV.out
        rw [hRN] at hdv
        have HN := hide HO.out
        obtain ⟨hde, hdb⟩ := HEN.out ds hdv
        have HDB := hide hdb
        rw [hde] at HN
        clear hde hdb
        have HBB := hide (HB2.out.grown HGR.out HB2.out.size (fun k hk => by injection hk with hk; omega))
        clear hdv HDV HO
        go_wp2_with fail
        go_ret
        exact ⟨_, rfl, HN.out, HBB.out, HDB.out⟩

theorem fac_le {s : Nat → Int} {N : Nat} (h : ∀ i, i + 1 < N → s i ∣ s (i + 1)) {B : Nat} (hb : ∀ k, k ≤ N → ((dvL s N).getD k 0).natAbs ≤ B) : ∀ i, i < N → (s i).natAbs ≤ B := fun i hi => by
  have h1 := fac_quo h hi
  have h2 := hb (i + 1) (by omega)
  rw [dvL_getD s (by omega)] at h2
  split at h1
  · omega
  · have h3 := Int.tdiv_le_self (a := ((prodF s (i + 1)).natAbs : Int)) ((prodF s i).natAbs : Int) (by omega)
    omega

set_option maxRecDepth 100000 in
set_option maxHeartbeats 4000000 in
theorem imfactors_any (A : Option Addr) (n c m : Nat) (xss : List (List Int)) (w : World) (ha : SLL w A n c xss) (hf : mfault xss = 0) (hT : TabW w) (hm : colsM xss = m) :
    Calls Tryd.prog 30 #[.slice A n c] w fun e w' => ∃ b, e = .returned (.slice (some ⟨b, 0, none⟩) (min n m) (min n m)) ∧ OwnI w' w.heap.size (some ⟨b, 0, none⟩) (min n m) (min n m) (facL (smithS n m (matF xss)) (min n m)) ∧ Below w.heap.size w w' ∧ ∀ i, i < min n m → (smithS n m (matF xss) i).natAbs ≤ 720000000000000 := by
  obtain ⟨hn6, hm6, _, hent⟩ := mat_rows hf
  have hl := ha.len
  rw [hl] at hn6
  rw [hm] at hm6
  obtain ⟨i0, hi0, hz0, hz1, hz2⟩ := info_parts int_info
  have HI0 := hide hi0
  have HZ0 := hide hz0
  have HZ1 := hide hz1
  have HZ2 := hide hz2
  have HDV := hide (divisors_any A n c m xss w ha hf hT hm)
  have HCH := smithS_chain n m (matF xss)
  obtain ⟨s, hs⟩ : ∃ s, smithS n m (matF xss) = s := ⟨_, rfl⟩
  rw [hs] at HDV HCH ⊢
  obtain ⟨K, hK⟩ : ∃ K, min n m = K := ⟨_, rfl⟩
  rw [hK] at HDV HCH ⊢
  have hK6 : K ≤ 6 := by omega
  have HGD : Hid (∀ k, k ≤ K → (dvL s K).getD k 0 = ((prodF s k).natAbs : Int)) := hide (fun k h => dvL_getD s h)
  have HQ : Hid (∀ i, i < K → (if ((prodF s i).natAbs : Int) = 0 then (0 : Int) else ((prodF s (i + 1)).natAbs : Int).tdiv ((prodF s i).natAbs : Int)) = ((s i).natAbs : Int)) := hide (fun i hi => fac_quo HCH hi)
  have HFE : Hid ((∀ k, k ≤ K → ((dvL s K).getD k 0).natAbs ≤ 720000000000000) → ∀ i, i < K → (s i).natAbs ≤ 720000000000000) := hide (fun h => fac_le HCH h)
  have HFL : Hid (fillN (fun i => ((s i).natAbs : Int)) K K = facL s K) := hide (fillN_full (by simp [facL]) (fun j hj => by simp [facL, List.getD, hj]))
  clear ha hf hT hm hl hi0 hz0 hz1 hz2 hent hs hK HCH
  go_enter Tryd.func30, Tryd.ntmps30
  go_wp2_with fail
  refine HDV.out.mono ?_
  rintro e w1 ⟨b, rfl, hob, hb1, hdb⟩
  have HDB := hide hdb
  have HOB := hide hob
  have HB1 := hide hb1
  have hs1 := hb1.size
  clear HDV hob hb1 hdb
  go_wp2_with (at_make; refine wpList_make_full _ rfl _ _ 22 rfl w.heap.size 3 i0 (.int .i64 0) 1 Tryd.underlying22 HI0.out HZ0.out HZ1.out .i64 .i64 _ _ K rfl rfl (by omega) (by omega) (by rw [HZ2.out]; omega) (by unfold maxLen; omega) hs1 ?_; intro w2 hown2 hg2)
  have HO0 : Hid (OwnI w2 w.heap.size (some ⟨w1.heap.size, 0, none⟩) K K (fillN (fun i => ((s i).natAbs : Int)) K 0)) := hide (by rw [fillN_zero]; exact OwnI.zero (z := #[]) hown2 (by omega))
  have HB2 : Hid (Below w1.heap.size w1 w2) := hide ((Below.refl _ _).grown hg2 (Nat.le_refl _) (by intro k hk; cases hk))
  clear hown2 hg2
  go_loopw [14] (fun iv wr => ∃ i : Nat, iv = .int .i64 i ∧ i ≤ K ∧ OwnI wr w.heap.size (some ⟨w1.heap.size, 0, none⟩) K K (fillN (fun i => ((s i).natAbs : Int)) K i) ∧ Below w1.heap.size w1 wr) (fun iv _ => K - (intOf iv).toNat)
  case atStart => exact ⟨0, rfl, Nat.zero_le _, HO0.out, HB2.out⟩
  case round =>
    clear HO0 HB2
    obtain ⟨i, rfl, hi, ho, hbw⟩ := hrel
    have HO := hide ho
    have HBW := hide hbw
    have HD := hide (HOB.out.below hbw)
    clear ho hbw
    by_cases hlt : i < K
    · have hdi := HD.out.cell (show i < K + 1 by omega)
      have hdj := HD.out.cell (show i + 1 < K + 1 by omega)
      rw [HGD.out i (by omega)] at hdi
      rw [HGD.out (i + 1) (by omega)] at hdj
      have HQI := hide (HQ.out i hlt)
      have HFS : Hid ((fillN (fun i => ((s i).natAbs : Int)) K i).set i ((s i).natAbs : Int) = fillN (fun i => ((s i).natAbs : Int)) K (i + 1)) := hide (fillN_set (fun i => ((s i).natAbs : Int)) K i)
      obtain ⟨x, hx⟩ : ∃ x : Int, ((prodF s i).natAbs : Int) = x := ⟨_, rfl⟩
      obtain ⟨y, hy⟩ : ∃ y : Int, ((prodF s (i + 1)).natAbs : Int) = y := ⟨_, rfl⟩
      have hbi : b < wr.heap.size := World.block_lt_of_cell? wr _ hdi
      rw [hx] at HQI hdi
      rw [hy] at HQI hdj
      have hyb := HDB.out (i + 1) (by omega)
      rw [HGD.out (i + 1) (by omega), hy] at hyb
      by_cases h0 : x = 0
      · have hbe : (x != 0) = false := by simp [h0]
        have HN : Hid (OwnI wr w.heap.size (some ⟨w1.heap.size, 0, none⟩) K K (fillN (fun i => ((s i).natAbs : Int)) K (i + 1))) := hide (by
          have h := HQI.out
          rw [if_pos h0] at h
          rw [← fillN_same (f := fun i => ((s i).natAbs : Int)) h.symm]
          exact HO.out)
        clear h0 hx hy HQI
        go_wp2_with fail
        go_roundw
        case rel => exact ⟨i + 1, by go_num, by omega, HN.out, HBW.out⟩
        case measure => simp [intOf]; omega
      · have hbe : (x != 0) = true := by simpa using h0
        have hq := HQI.out
        rw [if_neg h0] at hq
        rw [← hq] at HFS
        have hx0 : 0 ≤ x := by omega
        have hy0 : 0 ≤ y := by omega
        have hwq : IntKind.i64.wrap (y.tdiv x) = y.tdiv x := by
          have h1 := Int.tdiv_nonneg hy0 hx0
          have h2 : y.tdiv x ≤ y := Int.tdiv_le_self x hy0
          rw [IntKind.wrap_i64]; omega
        have hw1 : IntKind.i64.wrap ((i : Int) + 1) = ((i + 1 : Nat) : Int) := by rw [IntKind.wrap_i64]; omega
        have HDI := hide hdi
        have HDJ := hide hdj
        have HX0 := hide h0
        have HWQ := hide hwq
        have HW1 := hide hw1
        clear hx hy hq HQI hwq hw1 hdj h0 hyb
        go_upto_region 7 with fail
        refine wp_region_T (S := fun x => Below wr.heap.size wr x) 13 (by kernel_rfl) (Below.refl _ _).drew (fun hS => ?_)
        refine wpT_tk 0 (v := .slice (some ⟨w1.heap.size, 0, none⟩) K K) rfl (by kernel_rfl) (by kernel_rfl) (by kernel_rfl) (by kernel_rfl) (yi rfl fun x hx => gives_move (.inl rfl) rfl) hS ?_
        go_frame
        refine wpT_tk 1 (v := .int .i64 i) rfl (by kernel_rfl) (by kernel_rfl) (by kernel_rfl) (by kernel_rfl) (yi rfl fun x hx => gives_move (.inl rfl) rfl) hS ?_
        go_frame
        refine wpT_tk 2 (v := .slice (some ⟨b, 0, none⟩) (K + 1) (K + 1)) rfl (by kernel_rfl) (by kernel_rfl) (by kernel_rfl) (by kernel_rfl) (yi rfl fun x hx => gives_move (.inl rfl) rfl) hS ?_
        go_frame
        refine wpT_tk 3 (v := .int .i64 i) rfl (by kernel_rfl) (by kernel_rfl) (by kernel_rfl) (by kernel_rfl) (yi rfl fun x hx => gives_move (.inl rfl) rfl) hS ?_
        go_frame
        refine wpT_tk 4 (v := .int .i64 ((i + 1 : Nat) : Int)) rfl (by kernel_rfl) (by kernel_rfl) (by kernel_rfl) (by kernel_rfl) (yi rfl fun x hx => gives_add rfl rfl rfl HW1.out) hS ?_
        go_frame
        refine wpT_tk 5 (v := .pointer (some ⟨b, (i + 1) * 1, none⟩)) rfl (by kernel_rfl) (by kernel_rfl) (by kernel_rfl) (by kernel_rfl) (yi rfl fun x hx => gives_indexB rfl Tryd.underlying22 (fun w => by kernel_rfl) rfl rfl (by omega)) hS ?_
        go_frame
        rw [Nat.mul_one]
        refine wpT_tk 6 (v := .int .i64 y) rfl (by kernel_rfl) (by kernel_rfl) (by kernel_rfl) (by kernel_rfl) (yi rfl fun x hx => gives_load1 rfl (by kernel_rfl) rfl ((hx.cell (p := ⟨b, i + 1, none⟩) hbi).trans HDJ.out)) hS ?_
        go_frame
        refine wpT_tk 7 (v := .slice (some ⟨b, 0, none⟩) (K + 1) (K + 1)) rfl (by kernel_rfl) (by kernel_rfl) (by kernel_rfl) (by kernel_rfl) (yi rfl fun x hx => gives_move (.inl rfl) rfl) hS ?_
        go_frame
        refine wpT_tk 8 (v := .int .i64 i) rfl (by kernel_rfl) (by kernel_rfl) (by kernel_rfl) (by kernel_rfl) (yi rfl fun x hx => gives_move (.inl rfl) rfl) hS ?_
        go_frame
        refine wpT_tk 9 (v := .pointer (some ⟨b, i * 1, none⟩)) rfl (by kernel_rfl) (by kernel_rfl) (by kernel_rfl) (by kernel_rfl) (yi rfl fun x hx => gives_indexB rfl Tryd.underlying22 (fun w => by kernel_rfl) rfl rfl (by omega)) hS ?_
        go_frame
        rw [Nat.mul_one]
        refine wpT_tk 10 (v := .int .i64 x) rfl (by kernel_rfl) (by kernel_rfl) (by kernel_rfl) (by kernel_rfl) (yi rfl fun z hz => gives_load1 rfl (by kernel_rfl) rfl ((hz.cell (p := ⟨b, i, none⟩) hbi).trans HDI.out)) hS ?_
        go_frame
        refine wpT_tk 11 (v := .int .i64 (y.tdiv x)) rfl (by kernel_rfl) (by kernel_rfl) (by kernel_rfl) (by kernel_rfl) (yi rfl fun z hz => gives_quo rfl rfl rfl HX0.out HWQ.out) hS ?_
        go_frame
        refine wpT_tk 12 (v := .pointer (some ⟨w1.heap.size, i * 1, none⟩)) rfl (by kernel_rfl) (by kernel_rfl) (by kernel_rfl) (by kernel_rfl) (yi rfl fun z hz => gives_indexB rfl Tryd.underlying22 (fun w => by kernel_rfl) rfl rfl hlt) hS ?_
        go_frame
        rw [Nat.mul_one]
        refine wpT_1 13 rfl (by kernel_rfl) ?_
        refine wp_storeI rfl (by kernel_rfl) (by kernel_rfl) rfl rfl (HO.out.cell hlt) (HO.out.frozen i) ?_
        refine ⟨fun h => absurd rfl h, ?_⟩
        go_frame
        refine wpT_done (by kernel_rfl) (noPanic_mk ?_) _
        have HN : Hid (OwnI (wr.drew.setCell ⟨w1.heap.size, i, none⟩ (.int .i64 (y.tdiv x))) w.heap.size (some ⟨w1.heap.size, 0, none⟩) K K (fillN (fun i => ((s i).natAbs : Int)) K (i + 1))) := hide (by
          rw [← HFS.out]
          exact (HO.out.below (Below.refl _ _).drew).set_ i (y.tdiv x))
        have HBN : Hid (Below w1.heap.size w1 (wr.drew.setCell ⟨w1.heap.size, i, none⟩ (.int .i64 (y.tdiv x)))) := hide (HBW.out.drew.setCell (p := ⟨w1.heap.size, i, none⟩) (Nat.le_refl _) _)
        clear hS HDI HDJ HD HO HBW
        generalize wr.drew.setCell ⟨w1.heap.size, i, none⟩ (.int .i64 (y.tdiv x)) = w5 at *
        go_wp2_with fail
        go_roundw
        case rel => exact ⟨i + 1, by go_num, by omega, HN.out, HBN.out⟩
        case measure => simp [intOf]; omega
    · have hiK : i = K := by omega
      have HN := hide HO.out
      rw [hiK, HFL.out] at HN
      have HBB := hide (HB1.out.trans (HBW.out.mono hs1))
      clear HO
      go_wp2_with fail
      go_ret
      exact ⟨_, rfl, HN.out, HBB.out, HFE.out HDB.out⟩
end Go.Proofs.YtndgffiihbdppaaDoor
/- Package intmatrix: Solutions. -/
namespace Go.Proofs.YtndgffiihbdppaaDoor
set_option linter.unusedVariables false
set_option linter.unusedSimpArgs false
open Go.RowKit

theorem chN_low {n q : Nat} {s : Nat → Int} {i : Nat} (h : i < n) : chN n q s i = Int.gcd ((s i).natAbs : Int) q := by
  unfold chN
  rw [if_pos h]
  simp [Int.gcd]
theorem chN_high {n q : Nat} {s : Nat → Int} {i : Nat} (h : n ≤ i) : chN n q s i = q := by
  unfold chN
  rw [if_neg (by omega)]
theorem pow13 : ∀ m : Nat, m < 7 → 13 ^ m ≤ 4826809 := by decide

set_option maxRecDepth 100000 in
set_option maxHeartbeats 4000000 in
theorem imsol_any (A : Option Addr) (n c : Nat) (xss : List (List Int)) (q : Int) (w : World) (ha : SLL w A n c xss) (hT : TabW w) (hwf : (Lit.int .i64 q).wf = true) :
    Calls Tryd.prog 20 #[.slice A n c, .int .i64 q] w fun e w' => e = .returned (.tuple #[.int .i64 (solV xss q), .int .i64 (solE xss q)]) ∧ Below w.heap.size w w' := by
  have HCK := hide (imcheck_any A n c xss w ha.ill)
  have hl := ha.len
  have hsm := ha.small
  by_cases hf : mfault xss = 0
  · rw [hf] at HCK
    by_cases hq : q < 1 ∨ 13 < q
    · have HE : Hid (solE xss q = 1) := hide (by unfold solE; rw [if_pos hf, if_pos hq])
      have HV : Hid (solV xss q = 0) := hide (by unfold solV; rw [if_neg (by rw [HE.out]; decide)])
      rw [HE.out, HV.out]
      clear ha hT hf hl HE HV hwf
      by_cases h1 : q < 1
      · have hd1 : decide (q < 1) = true := decide_eq_true h1
        clear hq
        go_enter Tryd.func20, Tryd.ntmps20
        go_wp2_with fail
        refine HCK.out.mono ?_
        rintro e w' ⟨rfl, rfl⟩
        go_wp2_with fail
        go_ret2
        exact ⟨rfl, Below.refl _ _⟩
      · have hd1 : decide (q < 1) = false := decide_eq_false h1
        have hd2 : decide ((13 : Int) < q) = true := decide_eq_true (by omega)
        clear hq
        go_enter Tryd.func20, Tryd.ntmps20
        go_wp2_with fail
        refine HCK.out.mono ?_
        rintro e w' ⟨rfl, rfl⟩
        go_wp2_with fail
        go_ret2
        exact ⟨rfl, Below.refl _ _⟩
    · obtain ⟨k, rfl⟩ : ∃ k : Nat, q = k := ⟨q.toNat, by omega⟩
      have hk0 : 0 < k := by omega
      have hk1 : k ≤ 13 := by omega
      have hd1 : decide ((k : Int) < 1) = false := decide_eq_false (by omega)
      have hd2 : decide ((13 : Int) < (k : Int)) = false := decide_eq_false (by omega)
      have HE : Hid (solE xss k = 0) := hide (by unfold solE; rw [if_pos hf, if_neg hq])
      obtain ⟨hn6, hm6, hrow, _⟩ := mat_rows hf
      have HV : Hid (solV xss k = (pN (colsM xss) (chN n k (smithS n (colsM xss) (matF xss))) : Nat)) := hide (by
        unfold solV
        rw [if_pos HE.out, Int.toNat_natCast, solN_smith hk0 hk1 hrow (smithS_el _ _ _), hl])
      rw [HE.out, HV.out]
      rw [hl] at hn6
      have HCO := hide (fun (w : World) (h : SLL w A n c xss) => columns_any A n c xss w h)
      have HFA := hide (imfactors_any A n c _ xss w ha hf hT rfl)
      have HA := hide ha
      obtain ⟨s, hs⟩ : ∃ s, smithS n (colsM xss) (matF xss) = s := ⟨_, rfl⟩
      rw [hs] at HFA ⊢
      clear ha hT hf hl HE HV hwf hq hrow hs
      generalize colsM xss = m at *
      have HPL : Hid (∀ i, i ≤ m → pN i (chN n k s) ≤ 4826809) := hide (fun i hi => Nat.le_trans (pN_le (b := 13) fun j _ => Nat.le_trans (chN_le hk0 s j) hk1) (pow13 i (by omega)))
      have HLO : Hid (∀ i, i < min n m → pN (i + 1) (chN n k s) = pN i (chN n k s) * Int.gcd ((s i).natAbs : Int) k) := hide (fun i hi => by
        show pN i (chN n k s) * chN n k s i = _
        rw [chN_low (by omega)])
      have HHI : Hid (∀ i, min n m ≤ i → i < m → pN (i + 1) (chN n k s) = pN i (chN n k s) * k) := hide (fun i h1 h2 => by
        show pN i (chN n k s) * chN n k s i = _
        rw [chN_high (by omega)])
      obtain ⟨K, hK⟩ : ∃ K, min n m = K := ⟨_, rfl⟩
      rw [hK] at HFA HLO HHI
      have hKm : K ≤ m := by omega
      have HFL : Hid (∀ i, i < K → (facL s K).getD i 0 = ((s i).natAbs : Int)) := hide (fun i hi => by simp [facL, List.getD, hi])
      obtain ⟨P, hP⟩ : ∃ P, (fun i => pN i (chN n k s)) = P := ⟨_, rfl⟩
      have hPi : ∀ i, pN i (chN n k s) = P i := fun i => by rw [← hP]
      simp only [hPi] at HPL HLO HHI ⊢
      have HP0 : Hid (P 0 = 1) := hide (by rw [← hPi]; rfl)
      clear hP hPi hK
      go_enter Tryd.func20, Tryd.ntmps20
      go_wp2_with fail
      refine HCK.out.mono ?_
      rintro e w' ⟨rfl, rfl⟩
      go_wp2_with fail
      refine HFA.out.mono ?_
      rintro e w2 ⟨b, rfl, ho, hb, hsl⟩
      have HO := hide ho
      have HB := hide hb
      have HSL := hide hsl
      clear ho hb hsl HFA HCK
      go_wp2_with fail
      go_loopw [8, 26] (fun sv iv wr => ∃ i : Nat, i ≤ K ∧ iv = .int .i64 i ∧ sv = .int .i64 (P i : Nat) ∧ Below w2.heap.size w2 wr) (fun _ iv _ => K - (intOf iv).toNat)
      case atStart => exact ⟨0, Nat.zero_le _, rfl, by rw [HP0.out]; rfl, Below.refl _ _⟩
      case round =>
        clear HP0
        obtain ⟨i, hi, rfl, rfl, hbw⟩ := hrel
        have HBW := hide hbw
        have HOW := hide (HO.out.below hbw)
        clear hbw
        have hpi := HPL.out i (by omega)
        by_cases hlt : i < K
        · have hcl := HOW.out.cell hlt
          rw [HFL.out i hlt] at hcl
          have hsb := HSL.out i hlt
          have HGC := hide (fun (w : World) => imgcd_any ((s i).natAbs : Int) (k : Int) w (by omega) (by omega))
          have HN := hide (HLO.out i hlt)
          have hpn := HPL.out (i + 1) (by omega)
          rw [HN.out] at hpn
          generalize Int.gcd ((s i).natAbs : Int) k = d at *
          generalize ((s i).natAbs : Int) = x at *
          have hw1 : IntKind.i64.wrap ((P i : Int) * (d : Int)) = ((P i * d : Nat) : Int) := by
            rw [← Int.natCast_mul, IntKind.wrap_i64]; omega
          clear hpn hsb hpi
          go_wp2_with fail
          refine (HGC.out _).mono ?_
          rintro e w5 ⟨rfl, hb5⟩
          have HB5 := hide (HBW.out.trans (hb5.mono HBW.out.size))
          clear hb5 hcl
          go_wp2_with (simp only [hw1])
          go_roundw
          case rel => exact ⟨i + 1, by omega, by go_num, by rw [HN.out, Int.natCast_mul], HB5.out⟩
          case measure => simp [intOf]; omega
        · have hiK : i = K := by omega
          subst hiK
          have HBA := hide (HB.out.trans (HBW.out.mono HB.out.size))
          have hjm : ((m : Int) - (i : Int)) = ((m - i : Nat) : Int) := by omega
          go_wp2_with fail
          refine (HCO.out _ (HA.out.below HBA.out)).mono ?_
          rintro e w' ⟨rfl, rfl⟩
          go_wp2_with fail
          go_loop [8, 41] (fun sv jv => ∃ j : Nat, i + j ≤ m ∧ jv = .int .i64 j ∧ sv = .int .i64 (P (i + j) : Nat)) (fun _ jv => m - i - (intOf jv).toNat)
          case atStart => exact ⟨0, by omega, rfl, rfl⟩
          case round =>
            obtain ⟨j, hj, rfl, rfl⟩ := hrel
            have hpj := HPL.out (i + j) hj
            by_cases hjl : i + j < m
            · have HN := hide (HHI.out (i + j) (by omega) hjl)
              have hpn := HPL.out (i + j + 1) (by omega)
              rw [HN.out] at hpn
              have hw1 : IntKind.i64.wrap ((P (i + j) : Int) * (k : Int)) = ((P (i + j) * k : Nat) : Int) := by
                rw [← Int.natCast_mul, IntKind.wrap_i64]; omega
              clear hpn
              go_wp2_with (simp only [hw1])
              go_round
              case rel => exact ⟨j + 1, by omega, by go_num, by rw [show i + (j + 1) = i + j + 1 by omega, HN.out, Int.natCast_mul]⟩
              case measure => simp [intOf]; omega
            · have hjm : i + j = m := by omega
              have HJM := hide hjm
              clear hpi
              go_wp2_with fail
              go_ret2
              refine ⟨?_, HBA.out⟩
              rw [← HJM.out]
              rfl
  · have HE : Hid (solE xss q = mfault xss) := hide (by unfold solE; rw [if_neg hf])
    have HV : Hid (solV xss q = 0) := hide (by unfold solV; rw [if_neg (by rw [HE.out]; exact hf)])
    rw [HE.out, HV.out]
    generalize mfault xss = E at *
    have hb0 : (E != 0) = true := by simpa using hf
    clear ha hT HE HV hwf
    go_enter Tryd.func20, Tryd.ntmps20
    go_wp2_with fail
    refine HCK.out.mono ?_
    rintro e w' ⟨rfl, rfl⟩
    go_wp2_with fail
    go_ret2
    exact ⟨rfl, Below.refl _ _⟩

end Go.Proofs.YtndgffiihbdppaaDoor
/- Sums, and matrices whose rows are short sums of terms. (Split off XBuP: it needs no function of the program.) -/
namespace Go.Proofs.YtndgffiihbdppaaDoor
set_option linter.unusedVariables false
set_option linter.unusedSimpArgs false
open Go.RowKit
def sumK (f : Nat → Nat) : Nat → Nat
  | 0 => 0
  | n + 1 => sumK f n + f n
theorem sumK_le {f g : Nat → Nat} : ∀ {n : Nat}, (∀ i, i < n → f i ≤ g i) → sumK f n ≤ sumK g n
  | 0, _ => Nat.le_refl _
  | n + 1, h => Nat.add_le_add (sumK_le fun i hi => h i (by omega)) (h n (by omega))
theorem sumK_mul (c : Nat) (f : Nat → Nat) : ∀ n, sumK (fun i => c * f i) n = c * sumK f n
  | 0 => rfl
  | n + 1 => by
    show sumK (fun i => c * f i) n + c * f n = c * (sumK f n + f n)
    rw [sumK_mul c f n, Nat.mul_add]
theorem sumK_mulr (c : Nat) (f : Nat → Nat) (n : Nat) : sumK (fun i => f i * c) n = sumK f n * c := by
  rw [Nat.mul_comm, ← sumK_mul]
  congr 1
  funext i
  exact Nat.mul_comm _ _
theorem sumK_add (f g : Nat → Nat) : ∀ n, sumK (fun i => f i + g i) n = sumK f n + sumK g n
  | 0 => rfl
  | n + 1 => by
    show sumK (fun i => f i + g i) n + (f n + g n) = sumK f n + f n + (sumK g n + g n)
    rw [sumK_add f g n]; omega
theorem sumK_zero : ∀ n, sumK (fun _ => 0) n = 0
  | 0 => rfl
  | n + 1 => sumK_zero n
theorem sumK_swap (f : Nat → Nat → Nat) (m : Nat) : ∀ n, sumK (fun i => sumK (fun j => f i j) m) n = sumK (fun j => sumK (fun i => f i j) n) m
  | 0 => by
    show 0 = sumK (fun _ => 0) m
    rw [sumK_zero]
  | n + 1 => by
    show sumK (fun i => sumK (fun j => f i j) m) n + sumK (fun j => f n j) m = sumK (fun j => sumK (fun i => f i j) n + f n j) m
    rw [sumK_swap f m n, sumK_add]
theorem sumK_one {f : Nat → Nat} : ∀ {n i : Nat}, i < n → f i ≤ sumK f n
  | n + 1, i, h => by
    show f i ≤ sumK f n + f n
    by_cases e : i = n
    · subst e; omega
    · have := sumK_one (f := f) (n := n) (i := i) (by omega); omega
theorem sumK_mono_ {f : Nat → Nat} : ∀ {n m : Nat}, m ≤ n → sumK f m ≤ sumK f n
  | 0, m, h => by obtain rfl : m = 0 := by omega
                  exact Nat.le_refl _
  | n + 1, m, h => by
    by_cases e : m = n + 1
    · subst e; exact Nat.le_refl _
    · exact Nat.le_trans (sumK_mono_ (show m ≤ n by omega)) (Nat.le_add_right _ _)
theorem LP.N1.sumK {f : Nat → LP} {g : Nat → Nat} {E : Nat} : ∀ {n : Nat}, (∀ i, i < n → LP.N1 (f i) E (g i)) → LP.N1 (CR.sumN n f) E (Proofs.YtndgffiihbdppaaDoor.sumK g n)
  | 0, _ => LP.N1.zero.mono (Nat.zero_le _) (Nat.zero_le _)
  | n + 1, h => by
    rw [CR.sumN_succ]
    exact (LP.N1.sumK fun i hi => h i (by omega)).add (h n (by omega))
/-- Each row is a short sum of terms. -/
def RN (n : Nat) (A : Mtx LP) (E V : Nat) : Prop := ∃ v : Nat → Nat → Nat, (∀ i, i < n → ∀ j, j < n → LP.N1 (A i j) E (v i j)) ∧ ∀ i, i < n → sumK (v i) n ≤ V
theorem RN.entry {n E V : Nat} {A : Mtx LP} (h : RN n A E V) {i j : Nat} (hi : i < n) (hj : j < n) : LP.N1 (A i j) E V := by
  obtain ⟨v, h1, h2⟩ := h
  exact (h1 i hi j hj).mono (Nat.le_refl _) (Nat.le_trans (sumK_one hj) (h2 i hi))
theorem RN.part {n E V E' V' : Nat} {A B : Mtx LP} (hA : RN n A E V) (hB : RN n B E' V') {i j m : Nat} (hi : i < n) (hj : j < n) (hm : m ≤ n) : LP.N1 (CR.sumN m fun k => A i k * B k j) (E + E') (V * V') := by
  obtain ⟨v, h1, h2⟩ := hA
  have h3 := LP.N1.sumK (n := m) (f := fun k => A i k * B k j) (g := fun k => v i k * V') (E := E + E') (fun k hk => (h1 i hi k (by omega)).mul (hB.entry (by omega) hj))
  refine h3.mono (Nat.le_refl _) ?_
  rw [sumK_mulr]
  refine Nat.mul_le_mul_right _ (Nat.le_trans ?_ (h2 i hi))
  exact sumK_mono_ hm
theorem RN.mul {n E V E' V' : Nat} {A B : Mtx LP} (hA : RN n A E V) (hB : RN n B E' V') : RN n (mulM n A B) (E + E') (V * V') := by
  obtain ⟨v, h1, h2⟩ := hA
  obtain ⟨u, h3, h4⟩ := hB
  refine ⟨fun i j => sumK (fun k => v i k * u k j) n, fun i hi j hj => LP.N1.sumK fun k hk => (h1 i hi k hk).mul (h3 k hk j hj), fun i hi => ?_⟩
  show sumK (fun j => sumK (fun k => v i k * u k j) n) n ≤ V * V'
  rw [sumK_swap]
  have e : sumK (fun k => sumK (fun j => v i k * u k j) n) n ≤ sumK (fun k => v i k * V') n := sumK_le fun k hk => by
    rw [sumK_mul]
    exact Nat.mul_le_mul_left _ (h4 k hk)
  refine Nat.le_trans e ?_
  rw [sumK_mulr]
  exact Nat.mul_le_mul_right _ (h2 i hi)
theorem RN.congr {n E V : Nat} {A B : Mtx LP} (h : RN n A E V) (e : EqM n A B) : RN n B E V := by
  obtain ⟨v, h1, h2⟩ := h
  exact ⟨v, fun i hi j hj => by rw [← e i hi j hj]; exact h1 i hi j hj, h2⟩
theorem RN.mono {n E V E' V' : Nat} {A : Mtx LP} (h : RN n A E V) (h1 : E ≤ E') (h2 : V ≤ V') : RN n A E' V' := by
  obtain ⟨v, h3, h4⟩ := h
  exact ⟨v, fun i hi j hj => (h3 i hi j hj).mono h1 (Nat.le_refl _), fun i hi => Nat.le_trans (h4 i hi) h2⟩
theorem oneM_rn (n : Nat) : RN n (oneM : Mtx LP) 0 1 := by
  refine ⟨fun i j => if j = i then 1 else 0, fun i _ j _ => ?_, fun i hi => ?_⟩
  · show LP.N1 (if i = j then 1 else 0) 0 (if j = i then 1 else 0)
    by_cases h : i = j
    · rw [if_pos h, if_pos h.symm]; exact LP.N1.one
    · rw [if_neg h, if_neg (fun e => h e.symm)]; exact LP.N1.zero
  · have h : ∀ m, sumK (fun j => if j = i then 1 else 0) m = if i < m then 1 else 0 := fun m => by
      induction m with
      | zero => rfl
      | succ m ih =>
        show sumK _ m + (if m = i then 1 else 0) = _
        rw [ih]
        split <;> split <;> split <;> omega
    rw [h, if_pos hi]
    exact Nat.le_refl _
theorem bl_rn (n : Nat) (x : Int) : RN n (bl x) 1 3 := by
  refine ⟨fun i j => if i + 1 = x.natAbs then (if j = i then 2 else if j = i + 1 then 1 else 0) else if i = x.natAbs then (if j + 1 = i then 1 else if j = i then 2 else 0) else if j = i then 1 else 0, fun i _ j _ => ?_, fun i hi => ?_⟩
  · have h1 : LP.N1 (1 + -tT) 1 2 := (LP.N1.one.mono (Nat.zero_le _) (Nat.le_refl _)).add (LP.N1.term 1 1).neg
    have h2 : LP.N1 (1 + -tI) 1 2 := (LP.N1.one.mono (Nat.zero_le _) (Nat.le_refl _)).add (LP.N1.term (-1) 1).neg
    have h3 : LP.N1 (1 : LP) 1 1 := LP.N1.one.mono (Nat.zero_le _) (Nat.le_refl _)
    have h4 : LP.N1 (0 : LP) 1 0 := LP.N1.zero.mono (Nat.zero_le _) (Nat.le_refl _)
    have h5 : LP.N1 tT 1 1 := LP.N1.term 1 1
    have h6 : LP.N1 tI 1 1 := LP.N1.term (-1) 1
    unfold bl
    by_cases a1 : i + 1 = x.natAbs
    · simp only [if_pos a1]
      by_cases a2 : 0 < x
      · simp only [if_pos a2]
        by_cases a3 : j = i
        · simp only [if_pos a3]; exact h1
        · simp only [if_neg a3]
          by_cases a4 : j = i + 1
          · simp only [if_pos a4]; exact h5
          · simp only [if_neg a4]; exact h4
      · simp only [if_neg a2]
        by_cases a4 : j = i + 1
        · simp only [if_pos a4, if_neg (show ¬ j = i by omega)]; exact h3
        · simp only [if_neg a4]; exact h4.mono (Nat.le_refl _) (Nat.zero_le _)
    · simp only [if_neg a1]
      by_cases b1 : i = x.natAbs
      · simp only [if_pos b1]
        by_cases a2 : 0 < x
        · simp only [if_pos a2]
          by_cases a3 : j + 1 = i
          · simp only [if_pos a3]; exact h3
          · simp only [if_neg a3]; exact h4.mono (Nat.le_refl _) (Nat.zero_le _)
        · simp only [if_neg a2]
          by_cases a3 : j + 1 = i
          · simp only [if_pos a3]; exact h6
          · simp only [if_neg a3]
            by_cases a4 : j = i
            · simp only [if_pos a4]; exact h2
            · simp only [if_neg a4]; exact h4
      · simp only [if_neg b1]
        by_cases a4 : i = j
        · simp only [if_pos a4, if_pos a4.symm]; exact h3
        · simp only [if_neg a4, if_neg (show ¬ j = i from fun e => a4 e.symm)]; exact h4
  · have hone : ∀ (a v : Nat) m, sumK (fun j => if j = a then v else 0) m = if a < m then v else 0 := fun a v m => by
      induction m with
      | zero => rfl
      | succ m ih =>
        show sumK _ m + (if m = a then v else 0) = _
        rw [ih]
        split <;> split <;> split <;> omega
    show sumK (fun j => if i + 1 = x.natAbs then (if j = i then 2 else if j = i + 1 then 1 else 0) else if i = x.natAbs then (if j + 1 = i then 1 else if j = i then 2 else 0) else if j = i then 1 else 0) n ≤ 3
    have hle : sumK (fun j => if i + 1 = x.natAbs then (if j = i then 2 else if j = i + 1 then 1 else 0) else if i = x.natAbs then (if j + 1 = i then 1 else if j = i then 2 else 0) else if j = i then 1 else 0) n ≤ sumK (fun j => (if j = i then 2 else 0) + ((if i + 1 = x.natAbs then (if j = i + 1 then 1 else 0) else (if j = i - 1 then 1 else 0)))) n := sumK_le fun j _ => by
      by_cases a1 : i + 1 = x.natAbs
      · simp only [if_pos a1]; split <;> split <;> omega
      · simp only [if_neg a1]
        by_cases b1 : i = x.natAbs
        · simp only [if_pos b1]; split <;> (try split) <;> split <;> omega
        · simp only [if_neg b1]; split <;> split <;> omega
    refine Nat.le_trans hle ?_
    rw [sumK_add, hone]
    by_cases a1 : i + 1 = x.natAbs
    · simp only [if_pos a1]; rw [hone]; split <;> split <;> omega
    · simp only [if_neg a1]; rw [hone]; split <;> split <;> omega
theorem bu_rn {n : Nat} : ∀ w : List Int, RN n (bu n w) w.length (3 ^ w.length)
  | [] => oneM_rn n
  | x :: w => by
    have h := (bl_rn n x).mul (bu_rn w)
    exact h.mono (by rw [List.length_cons]; omega) (by rw [List.length_cons, Nat.pow_succ, Nat.mul_comm]; exact Nat.le_refl _)
end Go.Proofs.YtndgffiihbdppaaDoor
