/- Several texts in one. -/
import Derived.Test.YtndgffiihbdppaaGreatDoorPart11
import Derived.Deep.DeepCutAuto
import Derived.Test.YtndgffiihbdppaaGreatDoorPart5
import Derived.Test.YtndgffiihbdppaaGreatDoorPart7
import Derived.Test.YtndgffiihbdppaaGreatDoorPart2
import Derived.Test.YtndgffiihbdppaaGreatDoorBase1
import Derived.Test.YtndgffiihbdppaaGreatDoorPart1
namespace Go.Proofs.YtndgffiihbdppaaGreatDoor
set_option linter.unusedVariables false
set_option linter.unusedSimpArgs false
open Go.RowKit

theorem dvl_start (F:Mtx Int) (m K:Nat):DvL F m K 0 0 (List.replicate (K + 1) 0):=DvL.start F m K

set_option maxRecDepth 100000 in
set_option maxHeartbeats 4000000 in
theorem divisors_any (A:Option Addr) (n c m:Nat) (xss:List (List Int)) (w:World) (ha:SLL w A n c xss) (hf:mfault xss = 0) (hT:TabW w) (hm:colsM xss = m) :
    Calls Tryz.prog 64 #[.slice A n c] w fun e w' => ∃ b,e = .returned (.slice (some ⟨b,0,none⟩) (min n m + 1) (min n m + 1)) ∧ OwnI w' w.heap.size (some ⟨b,0,none⟩) (min n m + 1) (min n m + 1) (dvL (smithS n m (matF xss)) (min n m)) ∧ Below w.heap.size w w' ∧ ∀ k,k ≤ min n m → ((dvL (smithS n m (matF xss)) (min n m)).getD k 0).natAbs ≤ 720000000000000:=by
  obtain ⟨hn6,hm6,_,hent⟩:=mat_rows hf
  have hl:=ha.len
  rw [hl] at hn6
  rw [hm] at hm6
  obtain ⟨i0,hi0,hz0,hz1,hz2⟩:=info_parts int_info
  have HI0:=hide hi0
  have HZ0:=hide hz0
  have HZ1:=hide hz1
  have HZ2:=hide hz2
  obtain ⟨hN0,hN64⟩:=pow_pos2 n (by omega)
  obtain ⟨hM0,hM64⟩:=pow_pos2 m (by omega)
  have HA:=hide ha
  have HT:=hide hT
  have HCO:=hide (fun (w:World) (h:SLL w A n c xss) => columns_any A n c xss w h)
  rw [hm] at HCO
  have HMN:Hid (∀ (w:World),SLL w A n c xss → TabW w → Calls Tryz.prog 78 #[.slice A n c] w fun e w' => ∃ g,e = .returned (.slice (some ⟨g,0,none⟩) (2 ^ n) (2 ^ n)) ∧ TabO w' w.heap.size g (2 ^ m) (matF xss) m (2 ^ n) ∧ Below w.heap.size w w'):=hide (fun w h1 h2 => minors_any A n c m xss w h1 hf h2 hm)
  have HSZ:=hide (fun (x:Nat) (w:World) (h:x < 64) => imsize_any x w h)
  have HGD:Hid (∀ R C,C < 2 ^ m → (mnrL (matF xss) m R).getD C 0 = mnr (matF xss) R C):=hide (fun R C h => mnrL_getD _ h)
  have HSK:Hid (∀ R C,R < 2 ^ n → C < 2 ^ m → sizeN R = sizeN C → sizeN R ≤ min n m):=hide (fun R C h1 h2 h3 => by
    have:=(bits_below n (by omega) R h1).2
    have:=(bits_below m (by omega) C h2).2
    omega)
  have HAD:Hid (∀ R C ds,DvL (matF xss) m (min n m) R C ds → R < 2 ^ n → C < 2 ^ m → sizeN R = sizeN C → DvL (matF xss) m (min n m) R (C + 1) (ds.set (sizeN R) (Int.gcd (ds.getD (sizeN R) 0) (mnr (matF xss) R C):Nat)) ∧ (ds.getD (sizeN R) 0).natAbs ≤ 720000000000000 ∧ (mnr (matF xss) R C).natAbs ≤ 720000000000000):=hide (fun R C ds h h1 h2 h3 => by
    have hl:=mnr_small (C:=C) (show R < 64 by omega) hent
    exact ⟨h.add_ h2 h3 hl (HSK.out R C h1 h2 h3),(h.at_ _ (HSK.out R C h1 h2 h3)).le,hl⟩)
  have HRW:Hid (∀ R ds,DvL (matF xss) m (min n m) R (2 ^ m) ds → DvL (matF xss) m (min n m) (R + 1) 0 ds):=hide (fun R ds h => h.row_)
  have HEN:Hid (∀ ds,DvL (matF xss) m (min n m) (2 ^ n) 0 ds → ds = dvL (smithS n m (matF xss)) (min n m) ∧ ∀ k,k ≤ min n m → ((dvL (smithS n m (matF xss)) (min n m)).getD k 0).natAbs ≤ 720000000000000):=hide (fun ds h => by
    have e:=h.eq_ hn6 hm6 (smithS_chain n m (matF xss)) (smithS_el n m (matF xss))
    refine ⟨e,fun k hk => ?_⟩
    rw [← e]
    exact (h.at_ k hk).le)
  obtain ⟨K,hK⟩:∃ K,min n m = K:=⟨_,rfl⟩
  rw [hK] at HSK HAD HRW HEN ⊢
  have hK6:K ≤ 6:=by omega
  have hKn:K ≤ n:=by omega
  have hKm:K ≤ m:=by omega
  have hKo:n ≤ K ∨ m ≤ K:=by omega
  clear ha hf hT hm hl hi0 hz0 hz1 hz2 hent hK
  generalize 2 ^ n = N at *
  generalize 2 ^ m = M at *
  generalize matF xss = F at *
  generalize dvL (smithS n m F) K = dl at *
  go_enter Tryz.func64,Tryz.ntmps64
  go_upto_region 1 with fail
  go_cut [3,9,10,11,12,13,14,15] (fun v _ _ _ _ _ _ _ wx => v = .slice (some ⟨w.heap.size,0,none⟩) (K + 1) (K + 1) ∧ OwnI wx w.heap.size (some ⟨w.heap.size,0,none⟩) (K + 1) (K + 1) (List.replicate (K + 1) 0) ∧ Below w.heap.size w wx)
  case first =>
    go_wp2_with fail
    refine (HCO.out _ HA.out).mono ?_
    rintro e w' ⟨rfl,hw'⟩
    subst hw'
    go_wp2_with (at_make;refine wpList_make_full _ rfl _ _ 23 rfl w.heap.size 3 i0 (.int .i64 0) 1 Tryz.underlying23 HI0.out HZ0.out HZ1.out .i64 .i64 _ _ (K + 1) rfl rfl (by omega) (by omega) (by rw [HZ2.out];omega) (by unfold maxLen;omega) (Nat.le_refl _) ?_;intro w1 hown1 hg1)
    all_goals
      have ho:OwnI w1 w.heap.size (some ⟨w.heap.size,0,none⟩) (K + 1) (K + 1) (List.replicate (K + 1) 0):=OwnI.zero (z:=#[]) hown1 (by omega)
      have hb:Below w.heap.size w w1:=(Below.refl _ _).grown hg1 (Nat.le_refl _) (by intro k hk;cases hk)
      go_meet
      exact ⟨rfl,ho,hb⟩
  case rest =>
    obtain ⟨rfl,ho,hb⟩:=hcut
    have HO0:=hide ho
    have HB0:=hide hb
    have hsz:w.heap.size < wc.heap.size:=(ho.form (by omega)).elim fun g h => by
      obtain ⟨e,_,h2⟩:=h
      injection e with e
      injection e with e
      omega
    have hdl:=dvl_start F m K
    clear ho hb
    go_wp2_with fail
    refine (HMN.out _ (HA.out.below HB0.out) (HT.out.below HB0.out)).mono ?_
    rintro e w2 ⟨g,rfl,htab,hb2⟩
    have HTAB:=hide htab
    have HO2:=hide (HO0.out.below hb2)
    have HB2:=hide (HB0.out.trans (hb2.mono HB0.out.size))
    have hdt:w.heap.size < wc.heap.size:=hsz
    clear htab hb2 HO0 HB0 HMN
    obtain ⟨t,ht⟩:∃ t,wc.heap.size = t:=⟨_,rfl⟩
    rw [ht] at HTAB hdt
    clear ht hsz
    go_wp2_with fail
    go_loopw [19] (fun iv wr => ∃ (R:Nat) (ds:List Int),iv = .int .i64 R ∧ R ≤ N ∧ DvL F m K R 0 ds ∧ OwnI wr w.heap.size (some ⟨w.heap.size,0,none⟩) (K + 1) (K + 1) ds ∧ w2.grownBy wr (some w.heap.size)) (fun iv _ => N - (intOf iv).toNat)
    case atStart => exact ⟨0,_,rfl,Nat.zero_le _,hdl,HO2.out,World.grownBy.refl _ _⟩
    case round =>
      clear HO2 hdl
      obtain ⟨R,ds,rfl,hR,hdv,ho,hgr⟩:=hrel
      have HDV:=hide hdv
      have HO:=hide ho
      have HGR:=hide hgr
      have HTR:=hide (HTAB.out.grown hgr hdt)
      clear hdv ho hgr
      rename World => wo
      by_cases hlt:R < N
      · obtain ⟨rb,hrc,hro⟩:=HTR.out.2 R hlt
        have HRO:=hide hro
        have hrb:w.heap.size ≠ rb:=by have:=(ownsRow_type hro.own).1;omega
        clear hro
        go_wp2_with fail
        go_loopw [26] (fun jv wr => ∃ (C:Nat) (es:List Int),jv = .int .i64 C ∧ C ≤ M ∧ DvL F m K R C es ∧ OwnI wr w.heap.size (some ⟨w.heap.size,0,none⟩) (K + 1) (K + 1) es ∧ wo.grownBy wr (some w.heap.size)) (fun jv _ => M - (intOf jv).toNat)
        case atStart => exact ⟨0,ds,rfl,Nat.zero_le _,HDV.out,HO.out,World.grownBy.refl _ _⟩
        case round =>
          clear HDV HO
          obtain ⟨C,es,rfl,hC,hdv,ho,hgr⟩:=hrel
          have HDV:=hide hdv
          have HO:=hide ho
          have HGW:=hide hgr
          have hro:OwnI wr t (some ⟨rb,0,none⟩) M M (mnrL F m R):=by
            obtain ⟨_,cs,hc⟩:=ownsRow_type HRO.out.own
            exact ⟨ownsRow_block HRO.out.own (hgr.block rb (Blk.lt (w:=wo) (t:=3) (cs:=cs) hc) (by intro e;injection e with e;omega)),HRO.out.small⟩
          by_cases hlc:C < M
          · have hx:=hro.cell hlc
            rw [HGD.out R C hlc] at hx
            clear hdv ho hgr hro
            by_cases hs:sizeN R = sizeN C
            · obtain ⟨hd2,hl1,hl2⟩:=HAD.out R C es HDV.out hlt hlc hs
              have HD2:=hide hd2
              have hsk:=HSK.out R C hlt hlc hs
              have hdc:=HO.out.cell (show sizeN R < K + 1 by omega)
              have HGC:=hide (fun (w:World) => imgcd_any (es.getD (sizeN R) 0) (mnr F R C) w (by omega) (by omega))
              have hse:((sizeN R:Int) == (sizeN C:Int)) = true:=by simp [hs]
              clear hd2 hs
              generalize mnr F R C = y at *
              generalize es.getD (sizeN R) 0 = z at *
              go_wp2_with fail
              refine (HSZ.out R _ (by omega)).mono ?_
              rintro e w' ⟨rfl,rfl⟩
              go_wp2_with fail
              refine (HSZ.out C _ (by omega)).mono ?_
              rintro e w' ⟨rfl,rfl⟩
              generalize sizeN R = k at *
              go_wp2_with fail
              refine (HGC.out _).mono ?_
              rintro e w5 ⟨rfl,hb5⟩
              have ho5:=HO.out.below hb5
              have hcd:=ho5.cell (show k < K + 1 by omega)
              have hfr:=ho5.frozen k
              generalize z.gcd y = q at *
              have HN:=hide (ho5.set_ k q)
              have HGN:=hide ((HGW.out.trans (grownBy_of_below hb5 _)).trans (grownBy_set1 w5 w.heap.size k (.int .i64 q)))
              clear ho5 hb5 hdc hx HO HGW HDV
              go_wp2_with fail
              go_roundw
              case rel => exact ⟨C + 1,es.set k q,by go_num,by omega,HD2.out,HN.out,HGN.out⟩
              case measure => simp [intOf];omega
            · have hse:((sizeN R:Int) == (sizeN C:Int)) = false:=by simp;omega
              have HN:=hide (HDV.out.skip_ hs)
              clear hs
              go_wp2_with fail
              refine (HSZ.out R _ (by omega)).mono ?_
              rintro e w' ⟨rfl,rfl⟩
              go_wp2_with fail
              refine (HSZ.out C _ (by omega)).mono ?_
              rintro e w' ⟨rfl,rfl⟩
              go_wp2_with fail
              go_roundw
              case rel => exact ⟨C + 1,es,by go_num,by omega,HN.out,HO.out,HGW.out⟩
              case measure => simp [intOf];omega
          · have hCM:C = M:=by omega
            rw [hCM] at hdv
            have HN:=hide (HRW.out R es hdv)
            have HG2:=hide (HGR.out.trans hgr)
            clear hdv ho hgr hro
            go_wp2_with fail
            go_roundw
            case rel => exact ⟨R + 1,es,by go_num,by omega,HN.out,HO.out,HG2.out⟩
            case measure => simp [intOf];omega
      · have hRN:R = N:=by omega
        have hdv:=HDV.out
        rw [hRN] at hdv
        have HN:=hide HO.out
        obtain ⟨hde,hdb⟩:=HEN.out ds hdv
        have HDB:=hide hdb
        rw [hde] at HN
        clear hde hdb
        have HBB:=hide (HB2.out.grown HGR.out HB2.out.size (fun k hk => by injection hk with hk;omega))
        clear hdv HDV HO
        go_wp2_with fail
        go_ret
        exact ⟨_,rfl,HN.out,HBB.out,HDB.out⟩

theorem fac_le {s:Nat → Int} {N:Nat} (h:∀ i,i + 1 < N → s i ∣ s (i + 1)) {B:Nat} (hb:∀ k,k ≤ N → ((dvL s N).getD k 0).natAbs ≤ B):∀ i,i < N → (s i).natAbs ≤ B:=fun i hi => by
  have h1:=fac_quo h hi
  have h2:=hb (i + 1) (by omega)
  rw [dvL_getD s (by omega)] at h2
  split at h1
  · omega
  · have h3:=Int.tdiv_le_self (a:=((prodF s (i + 1)).natAbs:Int)) ((prodF s i).natAbs:Int) (by omega)
    omega

set_option maxRecDepth 100000 in
set_option maxHeartbeats 4000000 in
theorem imfactors_any (A:Option Addr) (n c m:Nat) (xss:List (List Int)) (w:World) (ha:SLL w A n c xss) (hf:mfault xss = 0) (hT:TabW w) (hm:colsM xss = m) :
    Calls Tryz.prog 39 #[.slice A n c] w fun e w' => ∃ b,e = .returned (.slice (some ⟨b,0,none⟩) (min n m) (min n m)) ∧ OwnI w' w.heap.size (some ⟨b,0,none⟩) (min n m) (min n m) (facL (smithS n m (matF xss)) (min n m)) ∧ Below w.heap.size w w' ∧ ∀ i,i < min n m → (smithS n m (matF xss) i).natAbs ≤ 720000000000000:=by
  obtain ⟨hn6,hm6,_,hent⟩:=mat_rows hf
  have hl:=ha.len
  rw [hl] at hn6
  rw [hm] at hm6
  obtain ⟨i0,hi0,hz0,hz1,hz2⟩:=info_parts int_info
  have HI0:=hide hi0
  have HZ0:=hide hz0
  have HZ1:=hide hz1
  have HZ2:=hide hz2
  have HDV:=hide (divisors_any A n c m xss w ha hf hT hm)
  have HCH:=smithS_chain n m (matF xss)
  obtain ⟨s,hs⟩:∃ s,smithS n m (matF xss) = s:=⟨_,rfl⟩
  rw [hs] at HDV HCH ⊢
  obtain ⟨K,hK⟩:∃ K,min n m = K:=⟨_,rfl⟩
  rw [hK] at HDV HCH ⊢
  have hK6:K ≤ 6:=by omega
  have HGD:Hid (∀ k,k ≤ K → (dvL s K).getD k 0 = ((prodF s k).natAbs:Int)):=hide (fun k h => dvL_getD s h)
  have HQ:Hid (∀ i,i < K → (if ((prodF s i).natAbs:Int) = 0 then (0:Int) else ((prodF s (i + 1)).natAbs:Int).tdiv ((prodF s i).natAbs:Int)) = ((s i).natAbs:Int)):=hide (fun i hi => fac_quo HCH hi)
  have HFE:Hid ((∀ k,k ≤ K → ((dvL s K).getD k 0).natAbs ≤ 720000000000000) → ∀ i,i < K → (s i).natAbs ≤ 720000000000000):=hide (fun h => fac_le HCH h)
  have HFL:Hid (fillN (fun i => ((s i).natAbs:Int)) K K = facL s K):=hide (fillN_full (by simp [facL]) (fun j hj => by simp [facL,List.getD,hj]))
  clear ha hf hT hm hl hi0 hz0 hz1 hz2 hent hs hK HCH
  go_enter Tryz.func39,Tryz.ntmps39
  go_wp2_with fail
  refine HDV.out.mono ?_
  rintro e w1 ⟨b,rfl,hob,hb1,hdb⟩
  have HDB:=hide hdb
  have HOB:=hide hob
  have HB1:=hide hb1
  have hs1:=hb1.size
  clear HDV hob hb1 hdb
  go_wp2_with (at_make;refine wpList_make_full _ rfl _ _ 23 rfl w.heap.size 3 i0 (.int .i64 0) 1 Tryz.underlying23 HI0.out HZ0.out HZ1.out .i64 .i64 _ _ K rfl rfl (by omega) (by omega) (by rw [HZ2.out];omega) (by unfold maxLen;omega) hs1 ?_;intro w2 hown2 hg2)
  have HO0:Hid (OwnI w2 w.heap.size (some ⟨w1.heap.size,0,none⟩) K K (fillN (fun i => ((s i).natAbs:Int)) K 0)):=hide (by rw [fillN_zero];exact OwnI.zero (z:=#[]) hown2 (by omega))
  have HB2:Hid (Below w1.heap.size w1 w2):=hide ((Below.refl _ _).grown hg2 (Nat.le_refl _) (by intro k hk;cases hk))
  clear hown2 hg2
  go_loopw [14] (fun iv wr => ∃ i:Nat,iv = .int .i64 i ∧ i ≤ K ∧ OwnI wr w.heap.size (some ⟨w1.heap.size,0,none⟩) K K (fillN (fun i => ((s i).natAbs:Int)) K i) ∧ Below w1.heap.size w1 wr) (fun iv _ => K - (intOf iv).toNat)
  case atStart => exact ⟨0,rfl,Nat.zero_le _,HO0.out,HB2.out⟩
  case round =>
    clear HO0 HB2
    obtain ⟨i,rfl,hi,ho,hbw⟩:=hrel
    have HO:=hide ho
    have HBW:=hide hbw
    have HD:=hide (HOB.out.below hbw)
    clear ho hbw
    by_cases hlt:i < K
    · have hdi:=HD.out.cell (show i < K + 1 by omega)
      have hdj:=HD.out.cell (show i + 1 < K + 1 by omega)
      rw [HGD.out i (by omega)] at hdi
      rw [HGD.out (i + 1) (by omega)] at hdj
      have HQI:=hide (HQ.out i hlt)
      have HFS:Hid ((fillN (fun i => ((s i).natAbs:Int)) K i).set i ((s i).natAbs:Int) = fillN (fun i => ((s i).natAbs:Int)) K (i + 1)):=hide (fillN_set (fun i => ((s i).natAbs:Int)) K i)
      obtain ⟨x,hx⟩:∃ x:Int,((prodF s i).natAbs:Int) = x:=⟨_,rfl⟩
      obtain ⟨y,hy⟩:∃ y:Int,((prodF s (i + 1)).natAbs:Int) = y:=⟨_,rfl⟩
      have hbi:b < wr.heap.size:=World.block_lt_of_cell? wr _ hdi
      rw [hx] at HQI hdi
      rw [hy] at HQI hdj
      have hyb:=HDB.out (i + 1) (by omega)
      rw [HGD.out (i + 1) (by omega),hy] at hyb
      by_cases h0:x = 0
      · have hbe:(x != 0) = false:=by simp [h0]
        have HN:Hid (OwnI wr w.heap.size (some ⟨w1.heap.size,0,none⟩) K K (fillN (fun i => ((s i).natAbs:Int)) K (i + 1))):=hide (by
          have h:=HQI.out
          rw [if_pos h0] at h
          rw [← fillN_same (f:=fun i => ((s i).natAbs:Int)) h.symm]
          exact HO.out)
        clear h0 hx hy HQI
        go_wp2_with fail
        go_roundw
        case rel => exact ⟨i + 1,by go_num,by omega,HN.out,HBW.out⟩
        case measure => simp [intOf];omega
      · have hbe:(x != 0) = true:=by simpa using h0
        have hq:=HQI.out
        rw [if_neg h0] at hq
        rw [← hq] at HFS
        have hx0:0 ≤ x:=by omega
        have hy0:0 ≤ y:=by omega
        have hwq:IntKind.i64.wrap (y.tdiv x) = y.tdiv x:=by
          have h1:=Int.tdiv_nonneg hy0 hx0
          have h2:y.tdiv x ≤ y:=Int.tdiv_le_self x hy0
          rw [IntKind.wrap_i64];omega
        have hw1:IntKind.i64.wrap ((i:Int) + 1) = ((i + 1:Nat):Int):=by rw [IntKind.wrap_i64];omega
        have HDI:=hide hdi
        have HDJ:=hide hdj
        have HX0:=hide h0
        have HWQ:=hide hwq
        have HW1:=hide hw1
        clear hx hy hq HQI hwq hw1 hdj h0 hyb
        go_upto_region 7 with fail
        refine wp_region_T (S:=fun x => Below wr.heap.size wr x) 13 (by kernel_rfl) (Below.refl _ _).drew (fun hS => ?_)
        refine wpT_tk 0 (v:=.slice (some ⟨w1.heap.size,0,none⟩) K K) rfl (by kernel_rfl) (by kernel_rfl) (by kernel_rfl) (by kernel_rfl) (yi rfl fun x hx => gives_move (.inl rfl) rfl) hS ?_
        go_frame
        refine wpT_tk 1 (v:=.int .i64 i) rfl (by kernel_rfl) (by kernel_rfl) (by kernel_rfl) (by kernel_rfl) (yi rfl fun x hx => gives_move (.inl rfl) rfl) hS ?_
        go_frame
        refine wpT_tk 2 (v:=.slice (some ⟨b,0,none⟩) (K + 1) (K + 1)) rfl (by kernel_rfl) (by kernel_rfl) (by kernel_rfl) (by kernel_rfl) (yi rfl fun x hx => gives_move (.inl rfl) rfl) hS ?_
        go_frame
        refine wpT_tk 3 (v:=.int .i64 i) rfl (by kernel_rfl) (by kernel_rfl) (by kernel_rfl) (by kernel_rfl) (yi rfl fun x hx => gives_move (.inl rfl) rfl) hS ?_
        go_frame
        refine wpT_tk 4 (v:=.int .i64 ((i + 1:Nat):Int)) rfl (by kernel_rfl) (by kernel_rfl) (by kernel_rfl) (by kernel_rfl) (yi rfl fun x hx => gives_add rfl rfl rfl HW1.out) hS ?_
        go_frame
        refine wpT_tk 5 (v:=.pointer (some ⟨b,(i + 1) * 1,none⟩)) rfl (by kernel_rfl) (by kernel_rfl) (by kernel_rfl) (by kernel_rfl) (yi rfl fun x hx => gives_indexB rfl Tryz.underlying23 (fun w => by kernel_rfl) rfl rfl (by omega)) hS ?_
        go_frame
        rw [Nat.mul_one]
        refine wpT_tk 6 (v:=.int .i64 y) rfl (by kernel_rfl) (by kernel_rfl) (by kernel_rfl) (by kernel_rfl) (yi rfl fun x hx => gives_load1 rfl (by kernel_rfl) rfl ((hx.cell (p:=⟨b,i + 1,none⟩) hbi).trans HDJ.out)) hS ?_
        go_frame
        refine wpT_tk 7 (v:=.slice (some ⟨b,0,none⟩) (K + 1) (K + 1)) rfl (by kernel_rfl) (by kernel_rfl) (by kernel_rfl) (by kernel_rfl) (yi rfl fun x hx => gives_move (.inl rfl) rfl) hS ?_
        go_frame
        refine wpT_tk 8 (v:=.int .i64 i) rfl (by kernel_rfl) (by kernel_rfl) (by kernel_rfl) (by kernel_rfl) (yi rfl fun x hx => gives_move (.inl rfl) rfl) hS ?_
        go_frame
        refine wpT_tk 9 (v:=.pointer (some ⟨b,i * 1,none⟩)) rfl (by kernel_rfl) (by kernel_rfl) (by kernel_rfl) (by kernel_rfl) (yi rfl fun x hx => gives_indexB rfl Tryz.underlying23 (fun w => by kernel_rfl) rfl rfl (by omega)) hS ?_
        go_frame
        rw [Nat.mul_one]
        refine wpT_tk 10 (v:=.int .i64 x) rfl (by kernel_rfl) (by kernel_rfl) (by kernel_rfl) (by kernel_rfl) (yi rfl fun z hz => gives_load1 rfl (by kernel_rfl) rfl ((hz.cell (p:=⟨b,i,none⟩) hbi).trans HDI.out)) hS ?_
        go_frame
        refine wpT_tk 11 (v:=.int .i64 (y.tdiv x)) rfl (by kernel_rfl) (by kernel_rfl) (by kernel_rfl) (by kernel_rfl) (yi rfl fun z hz => gives_quo rfl rfl rfl HX0.out HWQ.out) hS ?_
        go_frame
        refine wpT_tk 12 (v:=.pointer (some ⟨w1.heap.size,i * 1,none⟩)) rfl (by kernel_rfl) (by kernel_rfl) (by kernel_rfl) (by kernel_rfl) (yi rfl fun z hz => gives_indexB rfl Tryz.underlying23 (fun w => by kernel_rfl) rfl rfl hlt) hS ?_
        go_frame
        rw [Nat.mul_one]
        refine wpT_1 13 rfl (by kernel_rfl) ?_
        refine wp_storeI rfl (by kernel_rfl) (by kernel_rfl) rfl rfl (HO.out.cell hlt) (HO.out.frozen i) ?_
        refine ⟨fun h => absurd rfl h,?_⟩
        go_frame
        refine wpT_done (by kernel_rfl) (noPanic_mk ?_) _
        have HN:Hid (OwnI (wr.drew.setCell ⟨w1.heap.size,i,none⟩ (.int .i64 (y.tdiv x))) w.heap.size (some ⟨w1.heap.size,0,none⟩) K K (fillN (fun i => ((s i).natAbs:Int)) K (i + 1))):=hide (by
          rw [← HFS.out]
          exact (HO.out.below (Below.refl _ _).drew).set_ i (y.tdiv x))
        have HBN:Hid (Below w1.heap.size w1 (wr.drew.setCell ⟨w1.heap.size,i,none⟩ (.int .i64 (y.tdiv x)))):=hide (HBW.out.drew.setCell (p:=⟨w1.heap.size,i,none⟩) (Nat.le_refl _) _)
        clear hS HDI HDJ HD HO HBW
        generalize wr.drew.setCell ⟨w1.heap.size,i,none⟩ (.int .i64 (y.tdiv x)) = w5 at *
        go_wp2_with fail
        go_roundw
        case rel => exact ⟨i + 1,by go_num,by omega,HN.out,HBN.out⟩
        case measure => simp [intOf];omega
    · have hiK:i = K:=by omega
      have HN:=hide HO.out
      rw [hiK,HFL.out] at HN
      have HBB:=hide (HB1.out.trans (HBW.out.mono hs1))
      clear HO
      go_wp2_with fail
      go_ret
      exact ⟨_,rfl,HN.out,HBB.out,HFE.out HDB.out⟩
end Go.Proofs.YtndgffiihbdppaaGreatDoor
namespace Go.Proofs.YtndgffiihbdppaaGreatDoor
set_option linter.unusedVariables false
set_option linter.unusedSimpArgs false
open Go.RowKit

theorem chN_low {n q:Nat} {s:Nat → Int} {i:Nat} (h:i < n):chN n q s i = Int.gcd ((s i).natAbs:Int) q:=by
  unfold chN
  rw [if_pos h]
  simp [Int.gcd]
theorem chN_high {n q:Nat} {s:Nat → Int} {i:Nat} (h:n ≤ i):chN n q s i = q:=by
  unfold chN
  rw [if_neg (by omega)]
theorem pow13:∀ m:Nat,m < 7 → 13 ^ m ≤ 4826809:=by decide

set_option maxRecDepth 100000 in
set_option maxHeartbeats 4000000 in
theorem imsol_any (A:Option Addr) (n c:Nat) (xss:List (List Int)) (q:Int) (w:World) (ha:SLL w A n c xss) (hT:TabW w) (hwf:(Lit.int .i64 q).wf = true) :
    Calls Tryz.prog 20 #[.slice A n c,.int .i64 q] w fun e w' => e = .returned (.tuple #[.int .i64 (solV xss q),.int .i64 (solE xss q)]) ∧ Below w.heap.size w w':=by
  have HCK:=hide (imcheck_any A n c xss w ha.ill)
  have hl:=ha.len
  have hsm:=ha.small
  by_cases hf:mfault xss = 0
  · rw [hf] at HCK
    by_cases hq:q < 1 ∨ 13 < q
    · have HE:Hid (solE xss q = 1):=hide (by unfold solE;rw [if_pos hf,if_pos hq])
      have HV:Hid (solV xss q = 0):=hide (by unfold solV;rw [if_neg (by rw [HE.out];decide)])
      rw [HE.out,HV.out]
      clear ha hT hf hl HE HV hwf
      by_cases h1:q < 1
      · have hd1:decide (q < 1) = true:=decide_eq_true h1
        clear hq
        go_enter Tryz.func20,Tryz.ntmps20
        go_wp2_with fail
        refine HCK.out.mono ?_
        rintro e w' ⟨rfl,rfl⟩
        go_wp2_with fail
        go_ret2
        exact ⟨rfl,Below.refl _ _⟩
      · have hd1:decide (q < 1) = false:=decide_eq_false h1
        have hd2:decide ((13:Int) < q) = true:=decide_eq_true (by omega)
        clear hq
        go_enter Tryz.func20,Tryz.ntmps20
        go_wp2_with fail
        refine HCK.out.mono ?_
        rintro e w' ⟨rfl,rfl⟩
        go_wp2_with fail
        go_ret2
        exact ⟨rfl,Below.refl _ _⟩
    · obtain ⟨k,rfl⟩:∃ k:Nat,q = k:=⟨q.toNat,by omega⟩
      have hk0:0 < k:=by omega
      have hk1:k ≤ 13:=by omega
      have hd1:decide ((k:Int) < 1) = false:=decide_eq_false (by omega)
      have hd2:decide ((13:Int) < (k:Int)) = false:=decide_eq_false (by omega)
      have HE:Hid (solE xss k = 0):=hide (by unfold solE;rw [if_pos hf,if_neg hq])
      obtain ⟨hn6,hm6,hrow,_⟩:=mat_rows hf
      have HV:Hid (solV xss k = (pN (colsM xss) (chN n k (smithS n (colsM xss) (matF xss))):Nat)):=hide (by
        unfold solV
        rw [if_pos HE.out,Int.toNat_natCast,solN_smith hk0 hk1 hrow (smithS_el _ _ _),hl])
      rw [HE.out,HV.out]
      rw [hl] at hn6
      have HCO:=hide (fun (w:World) (h:SLL w A n c xss) => columns_any A n c xss w h)
      have HFA:=hide (imfactors_any A n c _ xss w ha hf hT rfl)
      have HA:=hide ha
      obtain ⟨s,hs⟩:∃ s,smithS n (colsM xss) (matF xss) = s:=⟨_,rfl⟩
      rw [hs] at HFA ⊢
      clear ha hT hf hl HE HV hwf hq hrow hs
      generalize colsM xss = m at *
      have HPL:Hid (∀ i,i ≤ m → pN i (chN n k s) ≤ 4826809):=hide (fun i hi => Nat.le_trans (pN_le (b:=13) fun j _ => Nat.le_trans (chN_le hk0 s j) hk1) (pow13 i (by omega)))
      have HLO:Hid (∀ i,i < min n m → pN (i + 1) (chN n k s) = pN i (chN n k s) * Int.gcd ((s i).natAbs:Int) k):=hide (fun i hi => by
        show pN i (chN n k s) * chN n k s i = _
        rw [chN_low (by omega)])
      have HHI:Hid (∀ i,min n m ≤ i → i < m → pN (i + 1) (chN n k s) = pN i (chN n k s) * k):=hide (fun i h1 h2 => by
        show pN i (chN n k s) * chN n k s i = _
        rw [chN_high (by omega)])
      obtain ⟨K,hK⟩:∃ K,min n m = K:=⟨_,rfl⟩
      rw [hK] at HFA HLO HHI
      have hKm:K ≤ m:=by omega
      have HFL:Hid (∀ i,i < K → (facL s K).getD i 0 = ((s i).natAbs:Int)):=hide (fun i hi => by simp [facL,List.getD,hi])
      obtain ⟨P,hP⟩:∃ P,(fun i => pN i (chN n k s)) = P:=⟨_,rfl⟩
      have hPi:∀ i,pN i (chN n k s) = P i:=fun i => by rw [← hP]
      simp only [hPi] at HPL HLO HHI ⊢
      have HP0:Hid (P 0 = 1):=hide (by rw [← hPi];rfl)
      clear hP hPi hK
      go_enter Tryz.func20,Tryz.ntmps20
      go_wp2_with fail
      refine HCK.out.mono ?_
      rintro e w' ⟨rfl,rfl⟩
      go_wp2_with fail
      refine HFA.out.mono ?_
      rintro e w2 ⟨b,rfl,ho,hb,hsl⟩
      have HO:=hide ho
      have HB:=hide hb
      have HSL:=hide hsl
      clear ho hb hsl HFA HCK
      go_wp2_with fail
      go_loopw [8,26] (fun sv iv wr => ∃ i:Nat,i ≤ K ∧ iv = .int .i64 i ∧ sv = .int .i64 (P i:Nat) ∧ Below w2.heap.size w2 wr) (fun _ iv _ => K - (intOf iv).toNat)
      case atStart => exact ⟨0,Nat.zero_le _,rfl,by rw [HP0.out];rfl,Below.refl _ _⟩
      case round =>
        clear HP0
        obtain ⟨i,hi,rfl,rfl,hbw⟩:=hrel
        have HBW:=hide hbw
        have HOW:=hide (HO.out.below hbw)
        clear hbw
        have hpi:=HPL.out i (by omega)
        by_cases hlt:i < K
        · have hcl:=HOW.out.cell hlt
          rw [HFL.out i hlt] at hcl
          have hsb:=HSL.out i hlt
          have HGC:=hide (fun (w:World) => imgcd_any ((s i).natAbs:Int) (k:Int) w (by omega) (by omega))
          have HN:=hide (HLO.out i hlt)
          have hpn:=HPL.out (i + 1) (by omega)
          rw [HN.out] at hpn
          generalize Int.gcd ((s i).natAbs:Int) k = d at *
          generalize ((s i).natAbs:Int) = x at *
          have hw1:IntKind.i64.wrap ((P i:Int) * (d:Int)) = ((P i * d:Nat):Int):=by
            rw [← Int.natCast_mul,IntKind.wrap_i64];omega
          clear hpn hsb hpi
          go_wp2_with fail
          refine (HGC.out _).mono ?_
          rintro e w5 ⟨rfl,hb5⟩
          have HB5:=hide (HBW.out.trans (hb5.mono HBW.out.size))
          clear hb5 hcl
          go_wp2_with (simp only [hw1])
          go_roundw
          case rel => exact ⟨i + 1,by omega,by go_num,by rw [HN.out,Int.natCast_mul],HB5.out⟩
          case measure => simp [intOf];omega
        · have hiK:i = K:=by omega
          subst hiK
          have HBA:=hide (HB.out.trans (HBW.out.mono HB.out.size))
          have hjm:((m:Int) - (i:Int)) = ((m - i:Nat):Int):=by omega
          go_wp2_with fail
          refine (HCO.out _ (HA.out.below HBA.out)).mono ?_
          rintro e w' ⟨rfl,rfl⟩
          go_wp2_with fail
          go_loop [8,41] (fun sv jv => ∃ j:Nat,i + j ≤ m ∧ jv = .int .i64 j ∧ sv = .int .i64 (P (i + j):Nat)) (fun _ jv => m - i - (intOf jv).toNat)
          case atStart => exact ⟨0,by omega,rfl,rfl⟩
          case round =>
            obtain ⟨j,hj,rfl,rfl⟩:=hrel
            have hpj:=HPL.out (i + j) hj
            by_cases hjl:i + j < m
            · have HN:=hide (HHI.out (i + j) (by omega) hjl)
              have hpn:=HPL.out (i + j + 1) (by omega)
              rw [HN.out] at hpn
              have hw1:IntKind.i64.wrap ((P (i + j):Int) * (k:Int)) = ((P (i + j) * k:Nat):Int):=by
                rw [← Int.natCast_mul,IntKind.wrap_i64];omega
              clear hpn
              go_wp2_with (simp only [hw1])
              go_round
              case rel => exact ⟨j + 1,by omega,by go_num,by rw [show i + (j + 1) = i + j + 1 by omega,HN.out,Int.natCast_mul]⟩
              case measure => simp [intOf];omega
            · have hjm:i + j = m:=by omega
              have HJM:=hide hjm
              clear hpi
              go_wp2_with fail
              go_ret2
              refine ⟨?_,HBA.out⟩
              rw [← HJM.out]
              rfl
  · have HE:Hid (solE xss q = mfault xss):=hide (by unfold solE;rw [if_neg hf])
    have HV:Hid (solV xss q = 0):=hide (by unfold solV;rw [if_neg (by rw [HE.out];exact hf)])
    rw [HE.out,HV.out]
    generalize mfault xss = E at *
    have hb0:(E != 0) = true:=by simpa using hf
    clear ha hT HE HV hwf
    go_enter Tryz.func20,Tryz.ntmps20
    go_wp2_with fail
    refine HCK.out.mono ?_
    rintro e w' ⟨rfl,rfl⟩
    go_wp2_with fail
    go_ret2
    exact ⟨rfl,Below.refl _ _⟩

end Go.Proofs.YtndgffiihbdppaaGreatDoor
namespace Go.Proofs.YtndgffiihbdppaaGreatDoor
set_option linter.unusedVariables false
set_option linter.unusedSimpArgs false
open Go.RowKit

set_option maxRecDepth 100000 in
set_option maxHeartbeats 2000000 in
theorem bpoly_any (lo:Int) (A:Option Addr) (n c:Nat) (w:World):Calls Tryz.prog 75 #[.int .i64 lo,.slice A n c] w fun e w' => e = .returned (PV lo A n c) ∧ Below w.heap.size w w':=by
  have hb0:Below w.heap.size w (w.alloc (.cells #[.int .i64 lo,.slice A n c] 26)):=(Below.refl _ _).alloc (Nat.le_refl _) _
  have HB0:=hide hb0
  have HK:=hide (Blk.new w 26 #[.int .i64 lo,.slice A n c])
  clear hb0
  go_enter Tryz.func75,Tryz.ntmps75
  go_wp2_with fail
  refine bodyPost_ret (results_poly rfl _ rfl HK.out) rfl ?_
  exact ⟨rfl,HB0.out⟩

set_option maxRecDepth 100000 in
set_option maxHeartbeats 4000000 in
theorem sumP_any (F:PolyC) (x y z u:LP) (A:Option Addr) (n c:Nat) (B:Option Addr) (m d:Nat) (C:Option Addr) (l e:Nat) (D:Option Addr) (k f:Nat) (w:World) (ha:SL w A n c (LP.canon x).2) (hb:SL w B m d (LP.canon y).2) (hc:SL w C l e (LP.canon z).2) (hd:SL w D k f (LP.canon u).2)
    (rx:LP.Rt x) (ry:LP.Rt y) (rz:LP.Rt z) (ru:LP.Rt u) (rxy:LP.Rt (x * y)) (rzu:LP.Rt (z * u)) (rs:LP.Rt (x * y + z * u)) :
    Calls Tryz.prog 77 #[PV (LP.canon x).1 A n c,PV (LP.canon y).1 B m d,PV (LP.canon z).1 C l e,PV (LP.canon u).1 D k f] w (GivesP w (LP.canon (x * y + z * u)).1 (LP.canon (x * y + z * u)).2):=by
  have HM1:=hide (fun (w':World) (h1:SL w' A n c (LP.canon x).2) (h2:SL w' B m d (LP.canon y).2) => F.mul (LP.canon x).1 A n c _ (LP.canon y).1 B m d _ w' h1 h2 rx.wf ry.wf)
  have HM2:=hide (fun (w':World) (h1:SL w' C l e (LP.canon z).2) (h2:SL w' D k f (LP.canon u).2) => F.mul (LP.canon z).1 C l e _ (LP.canon u).1 D k f _ w' h1 h2 rz.wf ru.wf)
  have HA3:=hide (fun (w':World) (P Q:Option Addr) (pn pc qn qc:Nat) (h1:SL w' P pn pc (LP.canon (x * y)).2) (h2:SL w' Q qn qc (LP.canon (z * u)).2) => F.add (LP.canon (x * y)).1 P pn pc _ (LP.canon (z * u)).1 Q qn qc _ w' h1 h2 rxy.wf rzu.wf)
  rw [LP.mulR_canon rx ry rxy] at HM1
  rw [LP.mulR_canon rz ru rzu] at HM2
  rw [LP.addR_canon rxy rzu rs] at HA3
  clear F rx ry rz ru rxy rzu rs
  generalize (LP.canon (x * y + z * u)).1 = ls at *
  generalize (LP.canon (x * y + z * u)).2 = cs at *
  generalize (LP.canon (x * y)).1 = lp at *
  generalize (LP.canon (x * y)).2 = cp at *
  generalize (LP.canon (z * u)).1 = lq at *
  generalize (LP.canon (z * u)).2 = cq at *
  generalize (LP.canon x).1 = lx at *
  generalize (LP.canon x).2 = cx at *
  generalize (LP.canon y).1 = ly at *
  generalize (LP.canon y).2 = cy at *
  generalize (LP.canon z).1 = lz at *
  generalize (LP.canon z).2 = cz at *
  generalize (LP.canon u).1 = lu at *
  generalize (LP.canon u).2 = cu at *
  obtain ⟨W0,hW0⟩:∃ W,((((w.alloc (.cells #[.int .i64 lx,.slice A n c] 26)).alloc (.cells #[.int .i64 ly,.slice B m d] 26)).alloc (.cells #[.int .i64 lz,.slice C l e] 26)).alloc (.cells #[.int .i64 lu,.slice D k f] 26)).alloc (.cells #[.int .i64 0,.slice none 0 0] 26) = W:=⟨_,rfl⟩
  have hs0:W0.heap.size = w.heap.size + 5:=by rw [← hW0];simp
  have hb0:Below w.heap.size w W0:=by
    rw [← hW0]
    exact (((((Below.refl _ _).alloc (Nat.le_refl _) _).alloc (by simp) _).alloc (by simp;omega) _).alloc (by simp;omega) _).alloc (by simp;omega) _
  have B1:Blk W0 w.heap.size 26 #[.int .i64 lx,.slice A n c]:=by rw [← hW0];exact (((Blk.new w _ _).alloc _).alloc _).alloc _ |>.alloc _
  have B2:Blk W0 (w.heap.size + 1) 26 #[.int .i64 ly,.slice B m d]:=by
    rw [← hW0]
    have h:=((Blk.new (w.alloc (.cells #[.int .i64 lx,.slice A n c] 26)) 26 #[.int .i64 ly,.slice B m d]).alloc (.cells #[.int .i64 lz,.slice C l e] 26)).alloc (.cells #[.int .i64 lu,.slice D k f] 26) |>.alloc (.cells #[.int .i64 0,.slice none 0 0] 26)
    simpa using h
  have B3:Blk W0 (w.heap.size + 1 + 1) 26 #[.int .i64 lz,.slice C l e]:=by
    rw [← hW0]
    have h:=(Blk.new ((w.alloc (.cells #[.int .i64 lx,.slice A n c] 26)).alloc (.cells #[.int .i64 ly,.slice B m d] 26)) 26 #[.int .i64 lz,.slice C l e]).alloc (.cells #[.int .i64 lu,.slice D k f] 26) |>.alloc (.cells #[.int .i64 0,.slice none 0 0] 26)
    simpa using h
  have B4:Blk W0 (w.heap.size + 1 + 1 + 1) 26 #[.int .i64 lu,.slice D k f]:=by
    rw [← hW0]
    have h:=(Blk.new (((w.alloc (.cells #[.int .i64 lx,.slice A n c] 26)).alloc (.cells #[.int .i64 ly,.slice B m d] 26)).alloc (.cells #[.int .i64 lz,.slice C l e] 26)) 26 #[.int .i64 lu,.slice D k f]).alloc (.cells #[.int .i64 0,.slice none 0 0] 26)
    simpa using h
  have B5:Blk W0 (w.heap.size + 1 + 1 + 1 + 1) 26 #[.int .i64 0,.slice none 0 0]:=by
    rw [← hW0]
    have h:=Blk.new ((((w.alloc (.cells #[.int .i64 lx,.slice A n c] 26)).alloc (.cells #[.int .i64 ly,.slice B m d] 26)).alloc (.cells #[.int .i64 lz,.slice C l e] 26)).alloc (.cells #[.int .i64 lu,.slice D k f] 26)) 26 #[.int .i64 0,.slice none 0 0]
    simpa using h
  have HS1:=hide (ha.below hb0)
  have HS2:=hide (hb.below hb0)
  have HS3:=hide (hc.below hb0)
  have HS4:=hide (hd.below hb0)
  have HW:=hide hb0
  have K1:=hide B1
  have K2:=hide B2
  have K3:=hide B3
  have K4:=hide B4
  have K5:=hide B5
  clear ha hb hc hd hb0 B1 B2 B3 B4 B5
  go_enter Tryz.func77,Tryz.ntmps77
  go_upto_region 1 with fail
  clear hW0
  obtain ⟨b1,hb1⟩:∃ b,w.heap.size = b:=⟨_,rfl⟩
  rw [hb1] at K1 K2 K3 K4 K5 hs0 ⊢
  have HZ:=hide hb1
  clear hb1
  obtain ⟨b2,hb2⟩:∃ b,b1 + 1 = b:=⟨_,rfl⟩
  rw [hb2] at K2 K3 K4 K5 ⊢
  obtain ⟨b3,hb3⟩:∃ b,b2 + 1 = b:=⟨_,rfl⟩
  rw [hb3] at K3 K4 K5 ⊢
  obtain ⟨b4,hb4⟩:∃ b,b3 + 1 = b:=⟨_,rfl⟩
  rw [hb4] at K4 K5 ⊢
  obtain ⟨b5,hb5⟩:∃ b,b4 + 1 = b:=⟨_,rfl⟩
  rw [hb5] at K5 ⊢
  have q1:b1 < W0.heap.size:=by omega
  have q2:b2 < W0.heap.size:=by omega
  have q3:b3 < W0.heap.size:=by omega
  have q4:b4 < W0.heap.size:=by omega
  have q5:b5 < W0.heap.size:=by omega
  have p1:b1 < b5:=by omega
  have p2:b1 ≤ b5:=by omega
  clear hb2 hb3 hb4 hb5 hs0
  have c10:=K1.out.cell 0
  have c11:=K1.out.cell 1
  have c20:=K2.out.cell 0
  have c21:=K2.out.cell 1
  simp at c10 c11 c20 c21
  go_wp2_with fail
  refine (HM1.out W0 HS1.out HS2.out).mono ?_
  rintro e1 w1 ⟨P,pn,pc,rfl,hs,hnw,hb⟩
  have HP:=hide (hs.below ((Below.refl w1.heap.size w1).alloc (Nat.le_refl _) (.cells #[.int .i64 lp,.slice P pn pc] 26)))
  have hb1:=hb.trans (((Below.refl w1.heap.size w1).alloc (Nat.le_refl _) (.cells #[.int .i64 lp,.slice P pn pc] 26)).mono hb.size)
  have K6:=hide (Blk.new w1 26 #[.int .i64 lp,.slice P pn pc])
  replace K3:=hide (K3.out.below hb1 q3)
  replace K4:=hide (K4.out.below hb1 q4)
  replace K5:=hide (K5.out.below hb1 q5)
  replace HS3:=hide (HS3.out.below hb1)
  replace HS4:=hide (HS4.out.below hb1)
  replace HW:=hide (HW.out.trans (hb1.mono HW.out.size))
  have r5:b5 < w1.heap.size:=by have:=hb.size;omega
  have r1:b1 ≤ w1.heap.size:=by omega
  clear K1 K2 HS1 HS2 hb1 hb hs hnw c10 c11 c20 c21 HM1 q1 q2 q3 q4 q5
  go_upto_region 2 with fail
  obtain ⟨b6,hb6⟩:∃ b,w1.heap.size = b:=⟨_,rfl⟩
  obtain ⟨W1,hW1⟩:∃ W,w1.alloc (.cells #[.int .i64 lp,.slice P pn pc] 26) = W:=⟨_,rfl⟩
  have q6:b6 < W1.heap.size:=by rw [← hW1,← hb6];simp
  rw [hb6] at K6 r5 r1 ⊢
  rw [hW1] at K6 K3 K4 K5 HS3 HS4 HW HP ⊢
  clear hb6 hW1
  have c10:=K3.out.cell 0
  have c11:=K3.out.cell 1
  have c20:=K4.out.cell 0
  have c21:=K4.out.cell 1
  simp at c10 c11 c20 c21
  go_wp2_with fail
  refine (HM2.out W1 HS3.out HS4.out).mono ?_
  rintro e1 w2 ⟨Q,qn,qc,rfl,hs,hnw,hb⟩
  have HQ:=hide (hs.below ((Below.refl w2.heap.size w2).alloc (Nat.le_refl _) (.cells #[.int .i64 lq,.slice Q qn qc] 26)))
  have hb1:=hb.trans (((Below.refl w2.heap.size w2).alloc (Nat.le_refl _) (.cells #[.int .i64 lq,.slice Q qn qc] 26)).mono hb.size)
  have K7:=hide (Blk.new w2 26 #[.int .i64 lq,.slice Q qn qc])
  replace K6:=hide (K6.out.below hb1 q6)
  replace K5:=hide (K5.out.below hb1 (by omega))
  replace HP:=hide (HP.out.below hb1)
  replace HW:=hide (HW.out.trans (hb1.mono HW.out.size))
  have r6:b6 < w2.heap.size:=by have:=hb.size;omega
  clear K3 K4 HS3 HS4 hb1 hb hs hnw c10 c11 c20 c21 HM2 q6
  go_upto_region 3 with fail
  obtain ⟨b7,hb7⟩:∃ b,w2.heap.size = b:=⟨_,rfl⟩
  obtain ⟨W2,hW2⟩:∃ W,w2.alloc (.cells #[.int .i64 lq,.slice Q qn qc] 26) = W:=⟨_,rfl⟩
  have q7:b7 < W2.heap.size:=by rw [← hW2,← hb7];simp
  rw [hb7] at K7 r6 ⊢
  rw [hW2] at K7 K6 K5 HP HQ HW ⊢
  clear hb7 hW2
  have c10:=K6.out.cell 0
  have c11:=K6.out.cell 1
  have c20:=K7.out.cell 0
  have c21:=K7.out.cell 1
  simp at c10 c11 c20 c21
  go_wp2_with fail
  refine (HA3.out W2 _ _ _ _ _ _ HP.out HQ.out).mono ?_
  rintro e1 w3 ⟨R,rn,rc,rfl,hs,hnw,hb⟩
  have HR:=hide (hs.below ((Below.refl w3.heap.size w3).alloc (Nat.le_refl _) (.cells #[.int .i64 ls,.slice R rn rc] 26)))
  have hb1:=hb.trans (((Below.refl w3.heap.size w3).alloc (Nat.le_refl _) (.cells #[.int .i64 ls,.slice R rn rc] 26)).mono hb.size)
  have K8:=hide (Blk.new w3 26 #[.int .i64 ls,.slice R rn rc])
  replace K5:=hide (K5.out.below hb1 (by omega))
  replace HW:=hide (HW.out.trans (hb1.mono HW.out.size))
  have HN:Hid (0 < rn → ∀ ad,R = some ad → b7 < ad.block):=hide (fun h ad e => by have:=hnw h ad e;omega)
  have r7:b7 < w3.heap.size:=by have:=hb.size;omega
  clear K6 K7 HP HQ hb1 hb hs hnw c10 c11 c20 c21 HA3 q7
  go_upto_region 4 with fail
  obtain ⟨b8,hb8⟩:∃ b,w3.heap.size = b:=⟨_,rfl⟩
  obtain ⟨W3,hW3⟩:∃ W,w3.alloc (.cells #[.int .i64 ls,.slice R rn rc] 26) = W:=⟨_,rfl⟩
  rw [hb8] at K8 r7 ⊢
  rw [hW3] at K8 K5 HR HW ⊢
  clear hb8 hW3
  have c10:=K8.out.cell 0
  have c11:=K8.out.cell 1
  have c20:=K5.out.cell 0
  have c21:=K5.out.cell 1
  have f20:=K5.out.frozen 0
  have f21:=K5.out.frozen 1
  simp at c10 c11 c20 c21
  go_wp2_with fail
  refine bodyPost_ret (results_poly rfl _ rfl ((K5.out.set_ 0 (.int .i64 ls)).set_ 1 (.slice R rn rc))) rfl ?_
  refine ⟨R,rn,rc,rfl,?_,fun h ad e => by have:=HN.out h ad e;have:=HZ.out;omega,?_⟩
  · exact (HR.out.setCell (fun h ad e => by have:=HN.out h ad e;omega) 0 _).setCell (fun h ad e => by have:=HN.out h ad e;omega) 1 _
  · exact (HW.out.setCell (p:=⟨b5,0,none⟩) (by show w.heap.size ≤ b5;rw [HZ.out];exact p2) _).setCell (p:=⟨b5,1,none⟩) (by show w.heap.size ≤ b5;rw [HZ.out];exact p2) _
end Go.Proofs.YtndgffiihbdppaaGreatDoor
namespace Go.Proofs.YtndgffiihbdppaaGreatDoor
set_option linter.unusedVariables false
set_option linter.unusedSimpArgs false
open Go.RowKit

theorem SL.setRow_ {w:World} {A:Option Addr} {n c:Nat} {xs:List Int} (h:SL w A n c xs) {b:Nat} (hb:0 < n → ∀ ad,A = some ad → ad.block ≠ b) (cs:Array Value):SL (w.setRow b cs) A n c xs:=
  ⟨⟨h.il.len,h.il.small,fun hn => by
    obtain ⟨ad,e,hl,hc⟩:=h.il.mem hn
    refine ⟨ad,e,by simpa using hl,fun j hj => ?_⟩
    rw [← hc j hj]
    exact cell_setRow_other w b cs (ad.add j) (by rw [block_of_add];exact hb hn ad e)⟩,h.nil,h.cap⟩
theorem Below.setRow_ {B g:Nat} {w0 w:World} (hb:Below B w0 w) (hBg:B ≤ g) (cs:Array Value):Below B w0 (w.setRow g cs):=
  ⟨hb.os,hb.tape,hb.output,by simpa using hb.size,fun k hk => (setRow_other _ _ _ _ (by omega)).trans (hb.block k hk)⟩
end Go.Proofs.YtndgffiihbdppaaGreatDoor
