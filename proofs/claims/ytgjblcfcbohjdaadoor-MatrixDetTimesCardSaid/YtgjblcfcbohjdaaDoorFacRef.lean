/- timbref1.Factors: the two closures. -/
import Derived.Test.YtgjblcfcbohjdaaDoorChoice
import Derived.Test.YtgjblcfcbohjdaaDoorDetRef2
import Derived.Test.YtgjblcfcbohjdaaDoorMProd
namespace Go.Proofs.YtgjblcfcbohjdaaDoor
set_option linter.unusedVariables false
set_option linter.unusedSimpArgs false
open Go.RowKit

/-- What the closures keep. -/
structure FJ (w0 : World) (g bm kb : Nat) (A : Option Addr) (n c K : Nat) (s : Int) (w : World) : Prop where
  below : Below w0.heap.size w0 w
  sum : Blk w g 3 #[.int .i64 s]
  box : Blk w bm 22 #[.slice A n c]
  kbox : Blk w kb 3 #[.int .i64 K]
  pos : 0 ≤ s
  le : s.natAbs ≤ 720000000000000
theorem FJ.to {w0 : World} {g bm kb : Nat} {A : Option Addr} {n c K : Nat} {s : Int} {w w' : World} (h : FJ w0 g bm kb A n c K s w) (hb : Below w.heap.size w w') : FJ w0 g bm kb A n c K s w' :=
  ⟨h.below.trans (hb.mono h.below.size), h.sum.below hb h.sum.lt, h.box.below hb h.box.lt, h.kbox.below hb h.kbox.lt, h.pos, h.le⟩
def subM (M : Mtx Int) (rows cols : List Nat) : Mtx Int := fun a b => M (rows.getD a 0) (cols.getD b 0)
def stepF (M : Mtx Int) (K : Nat) (rows : List Nat) (d : Int) (cols : List Nat) : Int := (Int.gcd d (detR K (subM M rows cols)) : Nat)
def stepF2 (M : Mtx Int) (K m : Nat) (d : Int) (rows : List Nat) : Int := (chs m K [] 0).foldl (stepF M K rows) d
theorem gcd_le {a b : Int} {B : Nat} (ha : a.natAbs ≤ B) (hb : b.natAbs ≤ B) : Int.gcd a b ≤ B := by
  unfold Int.gcd
  by_cases h : a.natAbs = 0
  · rw [h, Nat.gcd_zero_left]; exact hb
  · exact Nat.le_trans (Nat.gcd_le_left _ (Nat.pos_of_ne_zero h)) ha
theorem eFacIn : ∀ args w, (callFunc 38 args).run Tryd.prog w = .ok (.enter 38 args) w := enters (fn := Tryd.f38) (by kernel_rfl) (by kernel_rfl) (by kernel_rfl)
theorem eFacOut : ∀ args w, (callFunc 37 args).run Tryd.prog w = .ok (.enter 37 args) w := enters (fn := Tryd.f37) (by kernel_rfl) (by kernel_rfl) (by kernel_rfl)
theorem eFacDet : ∀ args w, (callFunc 14 args).run Tryd.prog w = .ok (.enter 14 args) w := enters (fn := Tryd.f14) (by kernel_rfl) (by kernel_rfl) (by kernel_rfl)
theorem eFacCom : ∀ args w, (callFunc 39 args).run Tryd.prog w = .ok (.enter 39 args) w := enters (fn := Tryd.f39) (by kernel_rfl) (by kernel_rfl) (by kernel_rfl)

set_option maxRecDepth 100000 in
set_option maxHeartbeats 4000000 in
theorem fac_inner (w0 w1 : World) (g bm kb br : Nat) (A R : Option Addr) (n c K m rn rc : Nat) (xss : List (List Int)) (rows : List Nat) (hm : SLL w0 A n c xss) (hg : w0.heap.size ≤ g) (h1 : bm ≠ g) (h2 : kb ≠ g) (h3 : br ≠ g) (hrow : ∀ i, i < n → (xss.getD i []).length = m) (hB : ∀ i j, ((matF xss) i j).natAbs ≤ 100) (hK : K ≤ 6) (hK0 : 0 < K)
    (hbr : Blk w1 br 28 #[.slice R rn rc]) (hR : SL w1 R rn rc (zs rows)) (hRg : ∀ ad, R = some ad → ad.block ≠ g) (hrows : Inc n K rows) :
    Visit Tryd.prog 38 [.pointer (some ⟨br, 0, none⟩), .pointer (some ⟨bm, 0, none⟩), .pointer (some ⟨g, 0, none⟩)] g Int (fun s w => FJ w0 g bm kb A n c K s w ∧ w1.grownBy w (some g)) (Inc m K) (stepF (matF xss) K rows) := by
  refine ⟨fun s w w' h hb => ⟨h.1.to hb, h.2.trans (grownBy_of_below hb _)⟩, fun s w h => h.1.sum.lt, ?_⟩
  rintro cols C cn cc s w hC hCg hcols ⟨hJ, hG⟩
  have hrl := hR.il.len
  rw [zs_length, hrows.2.1] at hrl
  have hcl := hC.il.len
  rw [zs_length, hcols.2.1] at hcl
  subst hrl
  subst hcl
  have HM := hide hm
  have HJ := hide hJ
  have HG := hide hG
  have HC := hide hC
  have HRW := hide (show SL w R K rc (zs rows) from ⟨hR.il.kept hG hRg, hR.nil, hR.cap⟩)
  have HBR := hide (hbr.kept hG h3)
  have HROW := hide hrow
  have HRX : Hid (∀ a, a < K → rows.getD a 0 < n) := hide (fun a ha => hrows.2.2 _ (getD_mem (by rw [hrows.2.1]; exact ha)))
  have HCX : Hid (∀ a, a < K → cols.getD a 0 < m) := hide (fun a ha => hcols.2.2 _ (getD_mem (by rw [hcols.2.1]; exact ha)))
  have hbrc := HBR.out.cell 0
  simp at hbrc
  have HBB := hide hB
  obtain ⟨i0, hi0, hz0, hz1, hz2⟩ := info_parts int_info
  obtain ⟨i2, hj0, hk0, hk1, hk2⟩ := info_parts rows_info
  have HI0 := hide hi0
  have HZ0 := hide hz0
  have HZ1 := hide hz1
  have HZ2 := hide hz2
  have HJ0 := hide hj0
  have HK0 := hide hk0
  have HK1 := hide hk1
  have HK2 := hide hk2
  clear hm hJ hG hC hR hbr hrow hrows hcols hB hi0 hz0 hz1 hz2 hj0 hk0 hk1 hk2 hRg hCg
  go_enter Tryd.func38, Tryd.ntmps38
  go_wp2_with fail
  go_loopw [5, 13] (fun sv iv wr => ∃ (i k d : Nat) (S : Option Addr) (vs : List Value), iv = .int .i64 i ∧ sv = .slice S k d ∧ i ≤ K ∧ Hid (k = i) ∧ MSt w wr S k d vs (tabL i K (subM (matF xss) rows cols))) (fun _ iv _ => K - (intOf iv).toNat)
  case atStart => exact ⟨0, 0, 0, none, [], rfl, rfl, Nat.zero_le _, rfl, MSt.start w⟩
  case round =>
    obtain ⟨i, k, d, S, vs, rfl, rfl, hi, HMI, hst⟩ := hrel
    have HST := hide hst
    have hbs := hst.below.size
    rename World => wo
    by_cases hlt : i < K
    · obtain ⟨rd, rfl, hrc⟩ := (HRW.out.il.below hst.below).at_ hlt
      rw [zs_getD] at hrc
      have hrx := HRX.out i hlt
      have HSUB : Hid (∀ b, subM (matF xss) rows cols i b = matF xss (rows.getD i 0) (cols.getD b 0)) := hide (fun b => rfl)
      generalize rows.getD i 0 = rx at *
      clear hst
      go_wp2_with fail
      go_loopw [8, 19] (fun rv jv wr => ∃ (j q : Nat) (Q : Option Addr), jv = .int .i64 j ∧ rv = .slice Q j q ∧ j ≤ K ∧ OwnI wr wo.heap.size Q j q ((List.range j).map fun j => subM (matF xss) rows cols i j) ∧ Below wo.heap.size wo wr) (fun _ jv _ => K - (intOf jv).toNat)
      case atStart => exact ⟨0, 0, none, rfl, rfl, Nat.zero_le _, OwnI.nil_ _ _, Below.refl _ _⟩
      case round =>
        obtain ⟨j, q, Q, rfl, rfl, hj, ho, hb1⟩ := hrel
        have HO := hide ho
        have HB1 := hide hb1
        clear ho hb1
        have hbw : Below w.heap.size w wr := HST.out.below.trans (HB1.out.mono HST.out.below.size)
        have HBW := hide hbw
        by_cases hjl : j < K
        · have hb0 : Below w0.heap.size w0 wr := HJ.out.below.trans (hbw.mono HJ.out.below.size)
          have hbox := (HJ.out.box.below hbw HJ.out.box.lt).cell 0
          simp at hbox
          obtain ⟨cd, rfl, hcc⟩ := (HC.out.il.below hbw).at_ hjl
          rw [zs_getD] at hcc
          have hcx := HCX.out j hjl
          obtain ⟨ad, T, tn, tc, rfl, hrowk, hslk⟩ := (HM.out.below hb0).at_ hrx
          have htn := hslk.il.len
          rw [HROW.out rx hrx] at htn
          subst htn
          obtain ⟨qd, rfl, hyc⟩ := hslk.il.at_ hcx
          have HPR : Hid (((List.range j).map fun j => subM (matF xss) rows cols i j) ++ [(xss.getD rx []).getD (cols.getD j 0) 0] = (List.range (j + 1)).map fun j => subM (matF xss) rows cols i j) := hide (by
            rw [List.range_succ, List.map_append, List.map_singleton, HSUB.out]; rfl)
          clear hbw hslk hb0
          generalize cols.getD j 0 = cx at *
          generalize (xss.getD rx []).getD cx 0 = x at *
          go_wp2_with (at_builtin; refine wpList_append_int _ rfl (.tmp 23) (.tmp 31) 28 rfl wo.heap.size i0 Tryd.underlying28 HI0.out HZ0.out HZ1.out HZ2.out Q j q _ rfl (HO.out.alloc _) (some ⟨_, 0, none⟩) 1 1 [x] rfl (IL.lit _ [x] (by simp) rfl rfl) (by omega) (by have := HB1.out.size; simp; omega) ?_; intro A8 c8 w8 hap)
          have hN := hap.own
          rw [HPR.out] at hN
          have hb8 := (HB1.out.alloc HB1.out.size (.cells #[.int .i64 x] 3)).grown hap.grown (by have := HB1.out.size; simp; omega) (fun g hg => (HO.out.lt g (by rw [ownBlock_len Q j (j + 1) q q]; exact hg)).1)
          clear hap
          go_roundw
          case rel => exact ⟨j + 1, c8, A8, by go_num, rfl, by omega, hN, hb8⟩
          case measure => simp [intOf]; omega
        · have hjn : j = K := by omega
          have HSTB := hide (HST.out.to HB1.out)
          have HO2 := hide (HO.out.mono hbs)
          have hm1 : k + 1 ≤ 1000000 := by have := HMI.out; omega
          have hbs2 := HSTB.out.below.size
          have HOV := hide HSTB.out.own
          have HJN := hide hjn
          clear HO HB1 hjn hbw
          go_wp2_with (at_builtin; refine wpList_append_val _ rfl (.tmp 34) (.tmp 36) 22 rfl w.heap.size i2 Tryd.underlying22 HJ0.out HK0.out HK1.out HK2.out S k d vs rfl (HOV.out.alloc _) ⟨_, 0, none⟩ 1 (.slice Q j q) rfl (by simp [World.cell?_alloc_new]) rfl hm1 (Nat.le_trans hbs2 (by simp)) ?_; intro A9 c9 w9 happ)
          have hN := HSTB.out.add HO2.out happ
          rw [HJN.out] at hN
          rw [← tabL_succ] at hN
          have HN := hide hN
          clear hN happ
          go_roundw
          case rel => exact ⟨i + 1, k + 1, c9, A9, _, by go_num, rfl, by omega, by rw [HMI.out]; exact rfl, HN.out⟩
          case measure => simp [intOf]; omega
    · have hin : i = K := by omega
      have hkn : k = K := by rw [HMI.out]; exact hin
      subst hkn
      have HSL := hide HST.out.sll
      rw [hin] at HSL
      have HBW := hide HST.out.below
      have HJW := hide (HJ.out.to HST.out.below)
      have HD := hide (determinant_any S k d _ wo.drew (HSL.out.below (Below.refl _ _).drew) (fun i hi => by rw [tabL_row k k _ hi]; simp) (fun i hi j hj => by rw [tabL_matF k k _ hi hj]; exact HBB.out _ _) hK)
      rw [show detR k (matF (tabL k k (subM (matF xss) rows cols))) = detR k (subM (matF xss) rows cols) from detR_congr fun i hi j hj => tabL_matF k k _ hi hj] at HD
      have hdl : (detR k (subM (matF xss) rows cols)).natAbs ≤ 720000000000000 := detR_small hK fun i _ j _ => HBB.out _ _
      have HSTP : Hid (stepF (matF xss) k rows s cols = ((Int.gcd s (detR k (subM (matF xss) rows cols)) : Nat) : Int)) := rfl
      obtain ⟨dd, hdd⟩ : ∃ dd, detR k (subM (matF xss) rows cols) = dd := ⟨_, rfl⟩
      rw [hdd] at HD hdl HSTP
      have hsl := HJW.out.le
      have HGL := hide (gcd_le hsl hdl)
      have hgl : g < wo.heap.size := HJW.out.sum.lt
      clear hst HST hdd hin
      go_upto_region 12 with fail
      refine wp_region_T (S := fun w' => Below wo.heap.size wo w') 4 (by kernel_rfl) (Below.refl _ _).drew (fun hS => ?_)
      refine wpT_tk 0 (v := .int .i64 s) rfl (by kernel_rfl) (by kernel_rfl) (by kernel_rfl) (by kernel_rfl) (yi rfl fun w' hw' => gives_load1 rfl (by kernel_rfl) rfl (by
        have h := (HJW.out.sum.below hw' hgl).cell 0
        simpa using h)) hS ?_
      go_frame
      refine wpT_tk 1 (v := .slice S k d) rfl (by kernel_rfl) (by kernel_rfl) (by kernel_rfl) (by kernel_rfl) (yi rfl fun w' hw' => gives_move (.inl rfl) rfl) hS ?_
      go_frame
      refine wpT_1 2 rfl (by kernel_rfl) ?_
      refine wp_call [.slice S k d] rfl rfl eFacDet rfl (HD.out.mono ?_)
      rintro e w3 ⟨rfl, hb3⟩
      have hb3' : Below wo.heap.size wo w3 := hS.trans (hb3.mono hS.size)
      refine ⟨_, rfl, fun _ => hb3', ?_⟩
      go_frame
      refine wpT_1 3 rfl (by kernel_rfl) ?_
      refine wp_call [.int .i64 s, .int .i64 dd] rfl rfl eFacCom rfl ((common_any _ s dd w3 (Nat.le_refl _) (by omega) (by omega)).mono ?_)
      rintro e w4 ⟨rfl, rfl⟩
      refine ⟨_, rfl, fun _ => hb3', ?_⟩
      go_frame
      refine wpT_1 4 rfl (by kernel_rfl) ?_
      have hJ3 := HJW.out.to hb3'
      refine wp_storeI rfl (by kernel_rfl) (by kernel_rfl) rfl rfl (by have h := hJ3.sum.cell 0; simpa using h) (hJ3.sum.frozen 0) ?_
      refine ⟨fun h => absurd rfl h, ?_⟩
      go_frame
      refine wpT_done (by kernel_rfl) (noPanic_mk ?_) _
      have HN : Hid (FJ w0 g bm kb A n c k (stepF (matF xss) k rows s cols) (w3.setCell ⟨g, 0, none⟩ (.int .i64 (Int.gcd s dd : Nat)))) := hide (by
        rw [HSTP.out]
        refine ⟨hJ3.below.setCell hg _, ?_, hJ3.box.far h1 _, hJ3.kbox.far h2 _, by omega, by have := HGL.out; omega⟩
        have h := hJ3.sum.set_ 0 (.int .i64 (Int.gcd s dd : Nat))
        simpa using h)
      have hgw : w.grownBy (w3.setCell ⟨g, 0, none⟩ (.int .i64 (Int.gcd s dd : Nat))) (some g) := (grownBy_of_below (HBW.out.trans (hb3'.mono HBW.out.size)) _).trans (grownBy_set1 _ g 0 _)
      have HGW := hide hgw
      clear hJ3 hb3 hb3' hS hgw
      generalize w3.setCell ⟨g, 0, none⟩ (.int .i64 (Int.gcd s dd : Nat)) = w5 at *
      go_wp2_with fail
      go_returns
      exact ⟨rfl, ⟨HN.out, HG.out.trans HGW.out⟩, HGW.out⟩
end Go.Proofs.YtgjblcfcbohjdaaDoor
