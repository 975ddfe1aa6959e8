/- Several texts in one. -/
import Derived.Test.YtndgffiihbdppaaGreatDoorPart9
import Derived.Test.YtndgffiihbdppaaGreatDoorPart8
import Derived.Test.YtndgffiihbdppaaGreatDoorPart5
import Derived.Test.YtndgffiihbdppaaGreatDoorBase1
import Derived.Test.YtndgffiihbdppaaGreatDoorPart1
namespace Go.Proofs.YtndgffiihbdppaaGreatDoor
set_option linter.unusedVariables false
set_option linter.unusedSimpArgs false
open Go.RowKit

theorem OwnI.farC {w:World} {base n c:Nat} {A:Option Addr} {xs:List Int} (h:OwnI w base A n c xs) {p:Addr} (hg:p.block < base) (u:Value):OwnI (w.setCell p u) base A n c xs:=by
  refine ⟨⟨h.own.1,?_⟩,h.small⟩
  rcases h.own.2 with h2 | ⟨b,cap,cur,hv,hb,hh,r⟩
  · exact .inl h2
  · exact .inr ⟨b,cap,cur,hv,hb,(Below.heap_setCell w p u b (by omega)).trans hh,r⟩
theorem OwnI.keepC {w w':World} {base n c:Nat} {A:Option Addr} {xs:List Int} (h:OwnI w base A n c xs) (hb:Below w.heap.size w w'):OwnI w' base A n c xs:=(KeepT.below hb).ownI h
theorem dMx_sll {w:World} {base gm N:Nat} {gr:Nat → Nat} {m:Int} {xs:List Int} (hN:N ≤ 6) (h:MaI w base gm N gr N (fun i t => dEl m N xs i t)):SLL w (some ⟨gm,0,none⟩) N N (dMx m N xs):=by
  refine ⟨dMx_length _ _ _,by omega,fun e => (by cases e),Nat.le_refl _,fun _ => ⟨_,rfl,h.go_lt,fun j hj => ⟨_,_,_,by rw [Addr.add_mid,Nat.zero_add];exact h.out j hj,?_⟩⟩⟩
  rw [dMx_row xs hj]
  exact (h.row j hj).sl

set_option maxRecDepth 100000 in
set_option maxHeartbeats 8000000 in
theorem cldiff_any (A:Option Addr) (n c:Nat) (xs:List Int) (k N:Nat) (w:World) (ha:SL w A n c xs) (hx:∀ x ∈ xs,x ≠ 0 ∧ x.natAbs < N) (hk1:1 ≤ k) (hk:k ≤ 13) (hN1:1 ≤ N) (hN:N ≤ 6) :
    Calls Tryz.prog 21 #[.int .i64 (N:Int),.slice A n c,.int .i64 (k:Int)] w fun e w' => ∃ g,e = .returned (.slice (some ⟨g,0,none⟩) N N) ∧ SLL w' (some ⟨g,0,none⟩) N N (dMx (k:Int) N xs) ∧ Below w.heap.size w w':=by
  obtain ⟨i0,hi0,hz0,hz1,hz2⟩:=info_parts int_info
  have HI0:=hide hi0
  have HY0:=hide hz0
  have HY1:=hide hz1
  have HY2:=hide hz2
  obtain ⟨i1,hj0,hk0,hk1',hk2⟩:=info_parts rows_info
  have HI1:=hide hj0
  have HZ0:=hide hk0
  have HZ1:=hide hk1'
  have HZ2:=hide hk2
  have HA:=hide ha
  have HX:=hide hx
  clear ha hx hi0 hz0 hz1 hz2 hj0 hk0 hk1' hk2
  go_enter Tryz.func21,Tryz.ntmps21
  go_wp2_with (at_make;refine wpList_make_full _ rfl _ _ 33 rfl w.heap.size 23 i1 (.slice none 0 0) 1 Tryz.underlying33 HI1.out HZ0.out HZ1.out .i64 .i64 _ _ N rfl rfl rfl rfl (by rw [HZ2.out];omega) (by unfold maxLen;omega) (Nat.le_refl _) ?_;intro w3 hown3 hg3)
  have hB3:Below w.heap.size w w3:=(Below.refl _ _).grown hg3 (Nat.le_refl _) (by intro k hk;cases hk)
  have ho3:=ownV_zero hown3 (by omega)
  obtain ⟨gm,hgm⟩:∃ g,w.heap.size = g:=⟨_,rfl⟩
  rw [hgm] at ho3 hB3 ⊢
  have HM:=hide (MaI.start (n:=N) ho3 (fun _ _ => 0))
  have HCs:Hid (∀ i,i < N → ∃ v,w3.cell? ⟨gm,i,none⟩ = some v):=hide (fun i hi => by
    obtain ⟨g',e,hc⟩:=ho3.cellAt hi
    injection e with e
    injection e with e
    subst e
    exact ⟨_,hc.trans (by rw [List.getElem?_replicate,if_pos hi])⟩)
  have HB:=hide hB3
  have HGM:=hide hgm
  clear hown3 hg3 hB3 ho3 hgm
  go_wp2_with fail
  go_loopw [17] (fun iv wr => ∃ (i:Nat) (gr:Nat → Nat),iv = .int .i64 i ∧ i ≤ N ∧ Hid (MaI wr gm gm N gr i (fun _ _ => 0)) ∧ Hid (∀ i,i < N → ∃ v,wr.cell? ⟨gm,i,none⟩ = some v) ∧ Hid (Below gm w wr)) (fun iv _ => N - (intOf iv).toNat)
  case atStart => exact ⟨0,_,by go_num,Nat.zero_le _,HM,HCs,HB⟩
  case round =>
    clear HM HCs HB
    obtain ⟨i,gr,rfl,hi,HM,HCs,HB⟩:=hrel
    by_cases hlt:i < N
    · obtain ⟨v,hv⟩:=HCs.out i hlt
      obtain ⟨cs9,hcs9⟩:=HM.out.blk
      have HK9:=hide hcs9
      have HV:=hide hv
      have hbw:gm ≤ wr.heap.size:=by have:=HM.out.go_lt;omega
      clear hcs9 hv
      go_upto_region 6 with (at_make;refine wpList_make_full _ rfl _ _ 23 rfl wr.heap.size 3 i0 (.int .i64 0) 1 Tryz.underlying23 HI0.out HY0.out HY1.out .i64 .i64 _ _ N rfl rfl rfl rfl (by rw [HY2.out];omega) (by unfold maxLen;omega) (Nat.le_refl _) ?_;intro w4 hown4 hg4;have hb4:Below wr.heap.size wr w4:=(Below.refl _ _).grown hg4 (Nat.le_refl _) (by intro k hk;cases hk);have hv4:=(hb4.cell (p:=⟨gm,i,none⟩) HK9.out.lt).trans HV.out;have hf4:=(HK9.out.below hb4 HK9.out.lt).frozen i)
      have ho4:=OwnI.zero (z:=#[]) hown4 (by omega)
      have HM4:=hide (HM.out.push (g:=wr.heap.size) hb4 (Nat.le_refl _) (by rw [map_zero];exact ho4.mono hbw) (ho4.lt _ rfl).2 hbw HV.out)
      have HC4:Hid (∀ j,j < N → ∃ v,(w4.setCell ⟨gm,i,none⟩ (.slice (some ⟨wr.heap.size,0,none⟩) N N)).cell? ⟨gm,j,none⟩ = some v):=hide (fun j hj => by
        by_cases e:j = i
        · subst e
          exact ⟨_,World.cell?_setCell_same w4 _ _ hv4⟩
        · rw [World.cell?_setCell_other w4 _ _ _ (by intro h2;simp only [Addr.mk.injEq] at h2;omega)]
          obtain ⟨v',hv'⟩:=HCs.out j hj
          exact ⟨v',(hb4.cell (p:=⟨gm,j,none⟩) HK9.out.lt).trans hv'⟩)
      have HB4:=hide ((HB.out.trans (hb4.mono hbw)).setCell (p:=⟨gm,i,none⟩) (Nat.le_refl _) (.slice (some ⟨wr.heap.size,0,none⟩) N N))
      clear hown4 hg4 hb4 hv4 hf4 ho4 HM HB HCs HV HK9
      go_wp2_with fail
      go_roundw
      case rel => exact ⟨i + 1,_,by go_num,by omega,HM4,HC4,HB4⟩
      case measure => simp [intOf];omega
    · have hiN : i = N := by omega
      rw [hiN] at HM
      clear hiN HCs
      rename World => w5
      have HM0:Hid (MaI w5 gm gm N gr N (fun i t => if t < 0 then dEl (k:Int) N xs i t else 0)):=hide (HM.out.congr fun i _ j _ => by simp)
      clear HM
      go_wp2_with fail
      go_loopw [27] (fun iv wr => ∃ t:Nat,iv = .int .i64 t ∧ t ≤ N ∧ Hid (MaI wr gm gm N gr N (fun i t' => if t' < t then dEl (k:Int) N xs i t' else 0)) ∧ Hid (Below gm w wr)) (fun iv _ => N - (intOf iv).toNat)
      case atStart => exact ⟨0,by go_num,Nat.zero_le _,HM0,HB⟩
      case round =>
        clear HM0 HB
        obtain ⟨t,rfl,ht,HM,HB⟩:=hrel
        by_cases hlt:t < N
        · have hbw:gm ≤ wr.heap.size:=by have:=HM.out.go_lt;omega
          have hkz:((k:Int) == 0) = false:=by simp;omega
          go_upto_region 12 with (at_make;refine wpList_make_full _ rfl _ _ 23 rfl wr.heap.size 3 i0 (.int .i64 0) 1 Tryz.underlying23 HI0.out HY0.out HY1.out .i64 .i64 _ _ N rfl rfl rfl rfl (by rw [HY2.out];omega) (by unfold maxLen;omega) (Nat.le_refl _) ?_;intro w4 hown4 hg4;have ho4:=OwnI.zero (z:=#[]) hown4 (by omega);have hc4:=ho4.cell hlt;have hf4:=ho4.frozen t)
          have hb4:Below wr.heap.size wr w4:=(Below.refl _ _).grown hg4 (Nat.le_refl _) (by intro k hk;cases hk)
          have hlc:∀ i,i < N → gr i < wr.heap.size:=fun i hi => HM.out.lt i hi
          obtain ⟨gc,hgc⟩:∃ g,wr.heap.size = g:=⟨_,rfl⟩
          rw [hgc] at hlc ho4 hb4 hbw ⊢
          have HU4:Hid (OwnI (w4.setCell ⟨gc,t,none⟩ (.int .i64 (1 % (k:Int)))) gc (some ⟨gc,0,none⟩) N N (uCol (k:Int) N t)):=hide (ho4.set_ t (1 % (k:Int)))
          have hb5:Below gc wr (w4.setCell ⟨gc,t,none⟩ (.int .i64 (1 % (k:Int)))):=hb4.setCell (p:=⟨gc,t,none⟩) (Nat.le_refl _) _
          have HB4:=hide (HB.out.trans (hb5.mono hbw))
          have HM4:=hide (HM.out.below (by rw [hgc];exact hb5))
          have HGC:=hide hgc
          have hgs:gc < (w4.setCell ⟨gc,t,none⟩ (.int .i64 (1 % (k:Int)))).heap.size:=(HU4.out.lt gc rfl).2
          obtain ⟨w5',hw5⟩:∃ x,w4.setCell ⟨gc,t,none⟩ (.int .i64 (1 % (k:Int))) = x:=⟨_,rfl⟩
          rw [hw5] at HU4 HB4 HM4 hgs ⊢
          have HLC:=hide hlc
          clear hown4 hg4 ho4 hc4 hf4 hb4 hb5 hw5 hgc hlc HM HB
          go_wp2_with fail
          refine (clprop_any A n c xs (some ⟨gc,0,none⟩) N N (uCol (k:Int) N t) k N _ (HA.out.below (by rw [HGM.out];exact HB4.out)) HU4.out.sl (uCol_isC (by omega)) HX.out hk hN1 hN).mono ?_
          rintro e w6 ⟨R,rn,rc,rfl,ho,hb⟩
          have HIC:Hid (IsC (k:Int) N (cCol (k:Int) xs (uCol (k:Int) N t))):=hide ((uCol_isC (by omega)).word HX.out)
          have hrn:rn = N:=by rw [← ho.len];exact HIC.out.len
          subst hrn
          obtain ⟨q,rfl,hq1,hq2⟩:=ho.form (by omega)
          have hbw5:gm ≤ w5'.heap.size:=by omega
          have HB6:=hide (HB4.out.trans (hb.mono hbw5))
          have HM6:=hide (HM4.out.below hb)
          have HU6:=hide (HU4.out.keepC hb)
          have HR6:=hide ho
          have hq0:gc < w5'.heap.size:=hgs
          obtain ⟨gq,hgq⟩:∃ g,w5'.heap.size = g:=⟨_,rfl⟩
          rw [hgq] at HR6 hq0 hq1
          clear hb ho hgq HU4 HM4 HB4 hq2
          have hlq:∀ i,i < rn → gr i < gq:=fun i hi => by have:=HLC.out i hi;omega
          have HLQ:=hide hlq
          obtain ⟨V,hV⟩:∃ V,cCol (k:Int) xs (uCol (k:Int) rn t) = V:=⟨_,rfl⟩
          obtain ⟨U,hU⟩:∃ U,uCol (k:Int) rn t = U:=⟨_,rfl⟩
          have HUC:Hid (IsC (k:Int) rn U):=hide (by rw [← hU];exact uCol_isC (by omega))
          have HD:Hid (∀ i,dEl (k:Int) rn xs i t = V.getD i 0 - U.getD i 0):=hide (fun i => by unfold dEl;rw [hV,hU])
          rw [hV] at HR6 HIC
          rw [hU] at HU6
          have HM7:Hid (MaI w6 gm gm rn gr rn (fun i t' => if t' < t ∨ t' = t ∧ i < 0 then dEl (k:Int) rn xs i t' else 0)):=hide (HM6.out.congr fun i _ j _ => by simp)
          clear hlq hV hU HM6 hkz
          go_wp2_with fail
          go_loopw [42] (fun iv wr => ∃ j:Nat,iv = .int .i64 j ∧ j ≤ rn ∧ Hid (MaI wr gm gm rn gr rn (fun i t' => if t' < t ∨ t' = t ∧ i < j then dEl (k:Int) rn xs i t' else 0)) ∧ Hid (OwnI wr gc (some ⟨gc,0,none⟩) rn rn U) ∧ Hid (OwnI wr gq (some ⟨q,0,none⟩) rn rc V) ∧ Hid (Below gm w wr)) (fun iv _ => rn - (intOf iv).toNat)
          case atStart => exact ⟨0,by go_num,Nat.zero_le _,HM7,HU6,HR6,HB6⟩
          case round =>
            clear HM7 HU6 HR6 HB6
            obtain ⟨j,rfl,hj,HM,HU,HR,HB⟩:=hrel
            by_cases hlj:j < rn
            · have hcx:=HR.out.cell hlj
              have hcu:=HU.out.cell hlj
              have hcr:=HM.out.out j hlj
              have hct:=HM.out.cell hlj hlt
              rw [if_neg (by omega)] at hct
              have hft:=HM.out.frozen hlj t
              have bv:=HIC.out.col j hlj
              have bu:=HUC.out.col j hlj
              have HDj:=HD.out j
              obtain ⟨a,hae⟩:∃ a,V.getD j 0 = a:=⟨_,rfl⟩
              obtain ⟨b,hbe⟩:∃ b,U.getD j 0 = b:=⟨_,rfl⟩
              rw [hae] at hcx bv HDj
              rw [hbe] at hcu bu HDj
              have hsub:IntKind.i64.wrap (a - b) = a - b:=by rw [IntKind.wrap_i64];omega
              have hgj:gm ≤ gr j:=HM.out.base_le.2 j hlj
              have HJ:=hide HDj
              clear hae hbe bv bu HDj
              go_upto_region 15 with fail
              refine wp_region_T (S:=fun w' => w'.cell? ⟨gm,j,none⟩ = some (.slice (some ⟨gr j,0,none⟩) rn rn) ∧ w'.cell? ⟨gc,j,none⟩ = some (.int .i64 b) ∧ w'.cell? ⟨gr j,t,none⟩ = some (.int .i64 0)) 12 (by kernel_rfl) ⟨hcr,hcu,hct⟩ (fun hS => ?_)
              refine wpT_tk 0 (v:=.slice (some ⟨gm,0,none⟩) rn rn) rfl (by kernel_rfl) (by kernel_rfl) (by kernel_rfl) (by kernel_rfl) (yi rfl fun w' hw' => gives_move (.inl rfl) rfl) hS ?_
              go_frame
              refine wpT_tk 1 (v:=.int .i64 (j:Nat)) rfl (by kernel_rfl) (by kernel_rfl) (by kernel_rfl) (by kernel_rfl) (yi rfl fun w' hw' => gives_move (.inl rfl) rfl) hS ?_
              go_frame
              refine wpT_tk 2 (v:=.pointer (some ⟨gm,j,none⟩)) rfl (by kernel_rfl) (by kernel_rfl) (by kernel_rfl) (by kernel_rfl) (yi rfl fun w' hw' => gives_indexQ rfl Tryz.underlying33 (fun _ => by kernel_rfl) rfl rfl hlj) hS ?_
              go_frame
              refine wpT_tk 3 (v:=.slice (some ⟨gr j,0,none⟩) rn rn) rfl (by kernel_rfl) (by kernel_rfl) (by kernel_rfl) (by kernel_rfl) (yi rfl fun w' hw' => gives_load1 rfl (by kernel_rfl) rfl hw'.1) hS ?_
              go_frame
              refine wpT_tk 4 (v:=.int .i64 (t:Nat)) rfl (by kernel_rfl) (by kernel_rfl) (by kernel_rfl) (by kernel_rfl) (yi rfl fun w' hw' => gives_move (.inl rfl) rfl) hS ?_
              go_frame
              refine wpT_tk 5 (v:=.int .i64 a) rfl (by kernel_rfl) (by kernel_rfl) (by kernel_rfl) (by kernel_rfl) (yi rfl fun w' hw' => gives_move (.inl rfl) rfl) hS ?_
              go_frame
              refine wpT_tk 6 (v:=.slice (some ⟨gc,0,none⟩) rn rn) rfl (by kernel_rfl) (by kernel_rfl) (by kernel_rfl) (by kernel_rfl) (yi rfl fun w' hw' => gives_move (.inl rfl) rfl) hS ?_
              go_frame
              refine wpT_tk 7 (v:=.int .i64 (j:Nat)) rfl (by kernel_rfl) (by kernel_rfl) (by kernel_rfl) (by kernel_rfl) (yi rfl fun w' hw' => gives_move (.inl rfl) rfl) hS ?_
              go_frame
              refine wpT_tk 8 (v:=.pointer (some ⟨gc,j,none⟩)) rfl (by kernel_rfl) (by kernel_rfl) (by kernel_rfl) (by kernel_rfl) (yi rfl fun w' hw' => gives_indexQ rfl Tryz.underlying23 (fun _ => by kernel_rfl) rfl rfl hlj) hS ?_
              go_frame
              refine wpT_tk 9 (v:=.int .i64 b) rfl (by kernel_rfl) (by kernel_rfl) (by kernel_rfl) (by kernel_rfl) (yi rfl fun w' hw' => gives_load1 rfl (by kernel_rfl) rfl hw'.2.1) hS ?_
              go_frame
              refine wpT_tk 10 (v:=.int .i64 (a - b)) rfl (by kernel_rfl) (by kernel_rfl) (by kernel_rfl) (by kernel_rfl) (yi rfl fun w' hw' => gives_sub rfl rfl rfl hsub) hS ?_
              go_frame
              refine wpT_tk 11 (v:=.pointer (some ⟨gr j,t,none⟩)) rfl (by kernel_rfl) (by kernel_rfl) (by kernel_rfl) (by kernel_rfl) (yi rfl fun w' hw' => gives_indexQ rfl Tryz.underlying23 (fun _ => by kernel_rfl) rfl rfl hlt) hS ?_
              go_frame
              refine wpT_1 12 rfl (by kernel_rfl) ?_
              refine wp_storeI rfl (by kernel_rfl) (by kernel_rfl) rfl rfl hS.2.2 hft ?_
              refine ⟨fun h => absurd rfl h,?_⟩
              go_frame
              refine wpT_done (by kernel_rfl) (noPanic_mk ?_) _
              have hdr:Below wr.heap.size wr wr.drew:=(Below.refl _ _).drew
              have hgw:gm ≤ wr.heap.size:=by have:=HM.out.go_lt;omega
              have HM9:=hide (((HM.out.below hdr).set_ hlj hlt (a - b)).congr (Y:=fun i t' => if t' < t ∨ t' = t ∧ i < j + 1 then dEl (k:Int) rn xs i t' else 0) fun i _ t' _ => by
                show (if i = j ∧ t' = t then a - b else if t' < t ∨ t' = t ∧ i < j then dEl (k:Int) rn xs i t' else 0) = _
                by_cases e:i = j ∧ t' = t
                · obtain ⟨rfl,rfl⟩:=e
                  rw [if_pos ⟨rfl,rfl⟩,if_pos (by omega),HJ.out]
                · rw [if_neg e]
                  by_cases e2:t' < t ∨ t' = t ∧ i < j
                  · rw [if_pos e2,if_pos (by omega)]
                  · rw [if_neg e2,if_neg (by omega)])
              have HB9:=hide ((HB.out.trans (hdr.mono hgw)).setCell (p:=⟨gr j,t,none⟩) hgj (.int .i64 (a - b)))
              have HU9:=hide ((HU.out.keepC hdr).farC (p:=⟨gr j,t,none⟩) (HLC.out j hlj) (.int .i64 (a - b)))
              have HR9:=hide ((HR.out.keepC hdr).farC (p:=⟨gr j,t,none⟩) (HLQ.out j hlj) (.int .i64 (a - b)))
              clear HM HB HU HR hcx hcu hcr hct hft hdr hgw hsub hgj
              go_wp2_with fail
              go_roundw
              case rel => exact ⟨j + 1,by go_num,by omega,HM9,HU9,HR9,HB9⟩
              case measure => simp [intOf];omega
            · have HM9:Hid (MaI wr gm gm rn gr rn (fun i t' => if t' < t + 1 then dEl (k:Int) rn xs i t' else 0)):=hide (HM.out.congr fun i hi t' _ => by
                show (if t' < t ∨ t' = t ∧ i < j then _ else _) = if t' < t + 1 then _ else _
                by_cases e:t' < t + 1
                · rw [if_pos e,if_pos (by omega)]
                · rw [if_neg e,if_neg (by omega)])
              clear HM HU HR
              go_wp2_with fail
              go_roundw
              case rel => exact ⟨t + 1,by go_num,by omega,HM9,HB⟩
              case measure => simp [intOf];omega
        · have HM9:=hide (dMx_sll hN (HM.out.congr (Y:=fun i t' => dEl (k:Int) N xs i t') fun i hi t' ht' => by
            show (if t' < t then _ else _) = _
            rw [if_pos (by omega)]))
          have HB9:Hid (Below w.heap.size w wr):=hide (by rw [HGM.out];exact HB.out)
          clear HM HB
          go_wp2_with fail
          go_ret
          exact ⟨_,rfl,HM9.out,HB9.out⟩
end Go.Proofs.YtndgffiihbdppaaGreatDoor
namespace Go.Proofs.YtndgffiihbdppaaGreatDoor
set_option linter.unusedVariables false
set_option linter.unusedSimpArgs false
open Go.RowKit

theorem gcd_tmod (a b:Int):Int.gcd b (a.tmod b) = Int.gcd a b:=by
  unfold Int.gcd
  rw [Int.natAbs_tmod,Nat.gcd_comm,← Nat.gcd_rec,Nat.gcd_comm]
def chs (n:Nat):Nat → List Nat → Nat → List (List Nat)
  | 0,l,_ => [l]
  | r + 1,l,a => (List.range' a (n - a)).flatMap fun i => chs n r (l ++ [i]) (i + 1)
def Inc (n k:Nat) (p:List Nat):Prop:=Sorted p ∧ p.length = k ∧ ∀ x ∈ p,x < n

section
variable {fid:FuncId} {caps:List Value} {g:Nat} {σ:Type} {J:σ → World → Prop} {step:σ → List Nat → σ} {n K:Nat}
end
end Go.Proofs.YtndgffiihbdppaaGreatDoor
namespace Go.Proofs.YtndgffiihbdppaaGreatDoor
set_option linter.unusedVariables false
set_option linter.unusedSimpArgs false
open Go.RowKit

structure FJ (w0:World) (g bm kb:Nat) (A:Option Addr) (n c K:Nat) (s:Int) (w:World):Prop where
  below:Below w0.heap.size w0 w
  sum:Blk w g 3 #[.int .i64 s]
  box:Blk w bm 33 #[.slice A n c]
  kbox:Blk w kb 3 #[.int .i64 K]
  pos:0 ≤ s
  le:s.natAbs ≤ 720000000000000
theorem FJ.to {w0:World} {g bm kb:Nat} {A:Option Addr} {n c K:Nat} {s:Int} {w w':World} (h:FJ w0 g bm kb A n c K s w) (hb:Below w.heap.size w w'):FJ w0 g bm kb A n c K s w':=
  ⟨h.below.trans (hb.mono h.below.size),h.sum.below hb h.sum.lt,h.box.below hb h.box.lt,h.kbox.below hb h.kbox.lt,h.pos,h.le⟩
def subM (M:Mtx Int) (rows cols:List Nat):Mtx Int:=fun a b => M (rows.getD a 0) (cols.getD b 0)
theorem gcd_le {a b:Int} {B:Nat} (ha:a.natAbs ≤ B) (hb:b.natAbs ≤ B):Int.gcd a b ≤ B:=by
  unfold Int.gcd
  by_cases h:a.natAbs = 0
  · rw [h,Nat.gcd_zero_left];exact hb
  · exact Nat.le_trans (Nat.gcd_le_left _ (Nat.pos_of_ne_zero h)) ha
end Go.Proofs.YtndgffiihbdppaaGreatDoor
namespace Go.Proofs.YtndgffiihbdppaaGreatDoor
set_option linter.unusedVariables false
set_option linter.unusedSimpArgs false
open Go.RowKit

theorem dvd_gcd_int {g a b:Int}:g ∣ ((Int.gcd a b:Nat):Int) ↔ g ∣ a ∧ g ∣ b:=by
  unfold Int.gcd
  rw [← Int.natAbs_dvd_natAbs,Int.natAbs_natCast,Nat.dvd_gcd_iff,Int.natAbs_dvd_natAbs,Int.natAbs_dvd_natAbs]
theorem mem_chs {n:Nat}:∀ {r:Nat} {l p:List Nat} {a:Nat},p ∈ chs n r l a ↔ ∃ t,p = l ++ t ∧ t.length = r ∧ Sorted t ∧ ∀ x ∈ t,a ≤ x ∧ x < n
  | 0,l,p,a => by
    simp only [chs,List.mem_singleton]
    constructor
    · rintro rfl
      exact ⟨[],by simp,rfl,List.Pairwise.nil,by simp⟩
    · rintro ⟨t,rfl,ht,_⟩
      rw [List.eq_nil_of_length_eq_zero ht,List.append_nil]
  | r + 1,l,p,a => by
    simp only [chs,List.mem_flatMap,List.mem_range'_1]
    constructor
    · rintro ⟨i,⟨hi1,hi2⟩,hp⟩
      obtain ⟨t,rfl,ht,hs,hx⟩:=mem_chs.1 hp
      refine ⟨i :: t,by simp,by simp [ht],List.pairwise_cons.2 ⟨fun y hy => by have:=(hx y hy).1;omega,hs⟩,fun x hx' => ?_⟩
      rcases List.mem_cons.1 hx' with rfl | h
      · omega
      · have:=hx x h;omega
    · rintro ⟨t,rfl,ht,hs,hx⟩
      match t,ht with
      | i :: t,ht =>
        have hs':=List.pairwise_cons.1 hs
        have hi:=hx i (by simp)
        refine ⟨i,⟨hi.1,by omega⟩,mem_chs.2 ⟨t,by simp,by simpa using ht,hs'.2,fun x h => ?_⟩⟩
        have h1:=hs'.1 x h
        have h2:=hx x (by simp [h])
        omega
theorem mem_chs0 {n K:Nat} {p:List Nat}:p ∈ chs n K [] 0 ↔ Inc n K p:=by
  rw [mem_chs]
  constructor
  · rintro ⟨t,rfl,h1,h2,h3⟩
    exact ⟨by simpa using h2,by simpa using h1,fun x hx => (h3 x (by simpa using hx)).2⟩
  · rintro ⟨h1,h2,h3⟩
    exact ⟨p,by simp,h2,h1,fun x hx => ⟨Nat.zero_le _,h3 x hx⟩⟩

/-! ### any rows and columns -/
theorem det_perm {g:Int} {L L':List Nat} (h:L.Perm L'):∀ (P:List Nat) (K:Nat) (N:Nat → Nat → Int),(P ++ L).length = K → g ∣ detR K (fun a b => N ((P ++ L').getD a 0) b) → g ∣ detR K (fun a b => N ((P ++ L).getD a 0) b):=by
  induction h with
  | nil => exact fun _ _ _ _ h => h
  | cons x _ ih =>
    intro P K N hK hd
    have:=ih (P ++ [x]) K N (by simpa using hK)
    simp only [List.append_assoc,List.singleton_append] at this
    exact this hd
  | swap x y l =>
    intro P K N hK hd
    have A:=detR_alt (R:=Int) K
    have hlen:P.length + 1 < K:=by rw [← hK];simp
    have hs:=A.swap (fun a b => N ((P ++ x :: y :: l).getD a 0) b) (r:=P.length) (s:=P.length + 1) (by omega) hlen (by omega)
    have e:swapR (fun a b => N ((P ++ x :: y :: l).getD a 0) b) P.length (P.length + 1) = fun a b => N ((P ++ y :: x :: l).getD a 0) b:=by
      funext a b
      unfold swapR updR
      have g0:∀ (u v:Nat),(P ++ u :: v :: l).getD P.length 0 = u:=fun u v => by simp [List.getD]
      have g1:∀ (u v:Nat),(P ++ u :: v :: l).getD (P.length + 1) 0 = v:=fun u v => by simp [List.getD_eq_getElem?_getD,List.getElem?_append]
      by_cases h1:a = P.length + 1
      · subst h1;rw [if_pos rfl];dsimp only;rw [g0,g1]
      · rw [if_neg h1]
        by_cases h2:a = P.length
        · subst h2;rw [if_pos rfl];dsimp only;rw [g1,g0]
        · rw [if_neg h2]
          congr 1
          simp only [List.getD_eq_getElem?_getD,List.getElem?_append]
          by_cases h3:a < P.length
          · rw [if_pos h3,if_pos h3]
          · rw [if_neg h3,if_neg h3]
            obtain ⟨k,hk⟩:∃ k,a - P.length = k + 2:=⟨a - P.length - 2,by omega⟩
            rw [hk]
            simp
    rw [e] at hs
    rw [hs]
    exact (Int.dvd_neg).2 hd
  | trans _ _ h1 h2 =>
    intro P K N hK hd
    rename_i l1 l2 l3 p1 p2
    refine h1 P K N hK (h2 P K N ?_ hd)
    rw [← hK,List.length_append,List.length_append,p1.length_eq]
theorem det_rows {g:Int} {n K:Nat} {N:Nat → Nat → Int} (h:∀ rows,Inc n K rows → g ∣ detR K (fun a b => N (rows.getD a 0) b)) {L:List Nat} (hl:L.length = K) (hx:∀ x ∈ L,x < n):g ∣ detR K (fun a b => N (L.getD a 0) b):=by
  by_cases hn:L.Nodup
  · have hp:L.Perm ((List.range n).filter fun x => L.contains x):=(List.perm_ext_iff_of_nodup hn (List.Nodup.sublist List.filter_sublist List.nodup_range)).2 fun x => by
      simp only [List.mem_filter,List.mem_range,List.contains_iff_mem]
      exact ⟨fun h => ⟨hx x h,h⟩,fun h => h.2⟩
    have hi:Inc n K ((List.range n).filter fun x => L.contains x):=⟨List.Pairwise.sublist List.filter_sublist (range_sorted n),by rw [← hp.length_eq,hl],fun x h => List.mem_range.1 (List.mem_filter.1 h).1⟩
    have:=det_perm (g:=g) hp [] K N (by simpa using hl) (by simpa using h _ hi)
    simpa using this
  · have A:=detR_alt (R:=Int) K
    have hd:∃ i j,i < j ∧ j < L.length ∧ L.getD i 0 = L.getD j 0:=by
      refine Classical.byContradiction fun hc => hn ?_
      refine List.pairwise_iff_getElem.2 fun i j hi hj hij he => hc ⟨i,j,hij,hj,?_⟩
      rw [getD_eq hi,getD_eq hj,he]
    obtain ⟨i,j,hij,hj,he⟩:=hd
    rw [A.alt _ i j hij (by omega) (fun b _ => by rw [he])]
    exact Int.dvd_zero _
theorem div_inc {n m K:Nat} {M:Mtx Int} {g:Int}:DivAll n m K M g ↔ ∀ rows cols,Inc n K rows → Inc m K cols → g ∣ detR K (subM M rows cols):=by
  constructor
  · intro h rows cols hr hc
    exact h (fun a => rows.getD a 0) (fun b => cols.getD b 0) (fun a ha => hr.2.2 _ (getD_mem (by rw [hr.2.1];exact ha))) (fun b hb => hc.2.2 _ (getD_mem (by rw [hc.2.1];exact hb)))
  · intro h I J hI hJ
    have e:∀ (I:Nat → Nat) {a:Nat},a < K → ((List.range K).map I).getD a 0 = I a:=fun I a ha => by simp [List.getD,ha]
    have h1:∀ cols,Inc m K cols → g ∣ detR K (fun a b => (fun i b => M i (cols.getD b 0)) (((List.range K).map I).getD a 0) b):=fun cols hc =>
      det_rows (N:=fun i b => M i (cols.getD b 0)) (fun rows hr => h rows cols hr hc) (by simp) (fun x hx => by
        obtain ⟨a,ha,rfl⟩:=List.mem_map.1 hx
        exact hI a (List.mem_range.1 ha))
    have h2:g ∣ detR K (fun b a => (fun j a => M (((List.range K).map I).getD a 0) j) (((List.range K).map J).getD b 0) a):=
      det_rows (N:=fun j a => M (((List.range K).map I).getD a 0) j) (fun cols hc => by
        have:=h1 cols hc
        rw [← detR_turn] at this
        exact this) (by simp) (fun x hx => by
        obtain ⟨a,ha,rfl⟩:=List.mem_map.1 hx
        exact hJ a (List.mem_range.1 ha))
    rw [← detR_turn] at h2
    have e2:minorM K M I J = detR K (turnM fun b a => (fun j a => M (((List.range K).map I).getD a 0) j) (((List.range K).map J).getD b 0) a):=detR_congr fun a ha b hb => by
      show M (I a) (J b) = M (((List.range K).map I).getD a 0) (((List.range K).map J).getD b 0)
      rw [e I ha,e J hb]
    rw [e2]
    exact h2
end Go.Proofs.YtndgffiihbdppaaGreatDoor
namespace Go.Proofs.YtndgffiihbdppaaGreatDoor
set_option linter.unusedVariables false
set_option linter.unusedSimpArgs false
open Go.RowKit

def bitsL (S:Nat):List Nat:=(List.range 6).filter fun i => S.testBit i
theorem bitsL_length (S:Nat):(bitsL S).length = sizeN S:=rfl
def cntB (S c:Nat):Nat:=((List.range c).filter fun i => S.testBit i).length
theorem low_facts:∀ R:Nat,R < 64 → R ≠ 0 → bitsL R = lowN R :: bitsL (R - 2 ^ lowN R) ∧ R.testBit (lowN R) = true ∧ R - 2 ^ lowN R < R ∧ sizeN (R - 2 ^ lowN R) + 1 = sizeN R:=by decide +kernel
theorem bit_facts:∀ C:Nat,C < 64 → ∀ c:Nat,c < 6 → C.testBit c = true → bitsL (C - 2 ^ c) = (bitsL C).eraseIdx (cntB C c) ∧ (bitsL C).getD (cntB C c) 0 = c ∧ cntB C (c + 1) = cntB C c + 1 ∧ sizeN (C - 2 ^ c) + 1 = sizeN C ∧ cntB C c < 6:=by decide +kernel
theorem nobit_facts:∀ C:Nat,C < 64 → ∀ c:Nat,c < 6 → C.testBit c = false → cntB C (c + 1) = cntB C c:=by decide +kernel
theorem cnt_end:∀ m:Nat,m < 7 → ∀ C:Nat,C < 2 ^ m → cntB C m = sizeN C:=by decide +kernel
theorem cnt_le:∀ m:Nat,m < 7 → ∀ C:Nat,C < 64 → cntB C m ≤ 6:=by decide +kernel
theorem low_below:∀ n:Nat,n < 7 → ∀ R:Nat,R < 2 ^ n → R ≠ 0 → lowN R < n:=by decide +kernel
theorem set_and:∀ C:Nat,C < 64 → ∀ c:Nat,c < 6 → (bits BinOp.and IntKind.i64 (C:Int) ((2 ^ c:Nat):Int) != 0) = C.testBit c:=by decide +kernel
theorem set_andNot:∀ C:Nat,C < 64 → ∀ c:Nat,c < 6 → C.testBit c = true → bits BinOp.andNot IntKind.i64 (C:Int) ((2 ^ c:Nat):Int) = ((C - 2 ^ c:Nat):Int):=by decide +kernel
theorem size_le:∀ C:Nat,C < 64 → sizeN C ≤ 6:=by decide +kernel
theorem bits_below:∀ n:Nat,n < 7 → ∀ S:Nat,S < 2 ^ n → (∀ x ∈ bitsL S,x < n) ∧ sizeN S ≤ n:=by decide +kernel
theorem bits_sorted (S:Nat):Sorted (bitsL S):=by
  unfold bitsL Sorted
  exact List.Pairwise.filter _ List.pairwise_lt_range
theorem inc_bits {n S:Nat} (hn:n ≤ 6) (hS:S < 2 ^ n):Inc n (sizeN S) (bitsL S):=⟨bits_sorted S,rfl,(bits_below n (by omega) S hS).1⟩
theorem sets_all:∀ n:Nat,n < 7 → ∀ K:Nat,K < 7 → ∀ p ∈ chs n K [] 0,(List.range (2 ^ n)).any (fun S => decide (bitsL S = p)) = true:=by decide +kernel
theorem inc_set {n K:Nat} {p:List Nat} (hn:n ≤ 6) (hK:K ≤ 6) (h:Inc n K p):∃ S,S < 2 ^ n ∧ bitsL S = p ∧ sizeN S = K:=by
  have h1:=sets_all n (by omega) K (by omega) p (mem_chs0.2 h)
  obtain ⟨S,hS,h2⟩:=List.any_eq_true.1 h1
  have h3:bitsL S = p:=of_decide_eq_true h2
  exact ⟨S,List.mem_range.1 hS,h3,by rw [← bitsL_length,h3];exact h.2.1⟩

def mnr (M:Mtx Int) (R C:Nat):Int:=if sizeN R = sizeN C then detR (sizeN R) (subM M (bitsL R) (bitsL C)) else 0
theorem mnr_zero (M:Mtx Int) {C:Nat} (h:sizeN 0 = sizeN C):mnr M 0 C = 1:=by
  unfold mnr
  rw [if_pos h]
  rfl
theorem mnr_ne (M:Mtx Int) {R C:Nat} (h:sizeN R ≠ sizeN C):mnr M R C = 0:=by unfold mnr;rw [if_neg h]
theorem mnr_le {M:Mtx Int} {R C:Nat} (hR:R < 64) (h:∀ i j,(M i j).natAbs ≤ 100):(mnr M R C).natAbs ≤ fct (sizeN R) * 100 ^ sizeN R:=by
  unfold mnr
  split
  · exact detR_le _ _ fun i _ j _ => h _ _
  · simp
def expF (M:Mtx Int) (R C j:Nat):Int:=CR.sgR Int j * (subM M (bitsL R) (bitsL C) 0 j * detR (sizeN R - 1) fun a b => subM M (bitsL R) (bitsL C) (a + 1) (CR.skip j b))
def expP (M:Mtx Int) (R C c:Nat):Int:=CR.sumN (cntB C c) (expF M R C)
theorem getD_eraseIdx (l:List Nat) (j b:Nat):(l.eraseIdx j).getD b 0 = l.getD (CR.skip j b) 0:=by
  unfold CR.skip
  simp only [List.getD_eq_getElem?_getD,List.getElem?_eraseIdx]
  split <;> rfl
theorem expF_set {M:Mtx Int} {R C c:Nat} (hR:R < 64) (h0:R ≠ 0) (hC:C < 64) (hc:c < 6) (hb:C.testBit c = true) (hs:sizeN R = sizeN C) :
    expF M R C (cntB C c) = CR.sgR Int (cntB C c) * (M (lowN R) c * mnr M (R - 2 ^ lowN R) (C - 2 ^ c)):=by
  obtain ⟨l1,l2,l3,l4⟩:=low_facts R hR h0
  obtain ⟨b1,b2,b3,b4,b5⟩:=bit_facts C hC c hc hb
  unfold expF mnr
  rw [if_pos (by omega),show sizeN R - 1 = sizeN (R - 2 ^ lowN R) by omega]
  have e1:subM M (bitsL R) (bitsL C) 0 (cntB C c) = M (lowN R) c:=by unfold subM;rw [l1,b2];rfl
  rw [e1]
  have e2:(fun a b => subM M (bitsL R) (bitsL C) (a + 1) (CR.skip (cntB C c) b)) = subM M (bitsL (R - 2 ^ lowN R)) (bitsL (C - 2 ^ c)):=by
    funext a b
    unfold subM
    rw [b1,getD_eraseIdx]
    conv => lhs;rw [l1]
    rfl
  rw [e2]
theorem expP_set {M:Mtx Int} {R C c:Nat} (hR:R < 64) (h0:R ≠ 0) (hC:C < 64) (hc:c < 6) (hb:C.testBit c = true) (hs:sizeN R = sizeN C) :
    expP M R C (c + 1) = expP M R C c + CR.sgR Int (cntB C c) * M (lowN R) c * mnr M (R - 2 ^ lowN R) (C - 2 ^ c):=by
  unfold expP
  rw [(bit_facts C hC c hc hb).2.2.1,CR.sumN_succ,expF_set hR h0 hC hc hb hs,Int.mul_assoc]
theorem expP_not {M:Mtx Int} {R C c:Nat} (hC:C < 64) (hc:c < 6) (hb:C.testBit c = false):expP M R C (c + 1) = expP M R C c:=by
  unfold expP
  rw [nobit_facts C hC c hc hb]
theorem expP_end {M:Mtx Int} {R C m:Nat} (hR:R < 64) (h0:R ≠ 0) (hm:m ≤ 6) (hC:C < 2 ^ m) (hs:sizeN R = sizeN C):expP M R C m = mnr M R C:=by
  unfold expP mnr
  rw [cnt_end m (by omega) C hC,if_pos hs,← hs]
  have:=(low_facts R hR h0).2.2.2
  obtain ⟨k,hk⟩:∃ k,sizeN R = k + 1:=⟨sizeN R - 1,by omega⟩
  unfold expF
  rw [hk]
  rfl
theorem fct5:∀ k:Nat,k < 6 → fct k * 100 ^ k ≤ 1200000000000:=by decide
theorem expF_le {M:Mtx Int} {R C j:Nat} (hR:R < 64) (h0:R ≠ 0) (h:∀ i j,(M i j).natAbs ≤ 100):(expF M R C j).natAbs ≤ 120000000000000:=by
  have h1:(CR.sgR Int j).natAbs ≤ 1:=by unfold CR.sgR;split <;> decide
  have h2:=detR_le (B:=100) (sizeN R - 1) (fun a b => subM M (bitsL R) (bitsL C) (a + 1) (CR.skip j b)) fun a _ b _ => h _ _
  have h3:=fct5 (sizeN R - 1) (by have:=size_le R hR;omega)
  have h4:=abs_mul_le (h ((bitsL R).getD 0 0) ((bitsL C).getD j 0)) (Nat.le_trans h2 h3)
  have h5:=abs_mul_le h1 h4
  exact Nat.le_trans h5 (by omega)
theorem expP_le {M:Mtx Int} {R C m:Nat} (hR:R < 64) (h0:R ≠ 0) (hC:C < 64) (hm:m ≤ 6) (h:∀ i j,(M i j).natAbs ≤ 100):(expP M R C m).natAbs ≤ 720000000000000:=by
  unfold expP
  have h1:=natAbs_sum_le (B:=120000000000000) (n:=cntB C m) (f:=expF M R C) fun j _ => expF_le hR h0 h
  have h2:=cnt_le m (by omega) C hC
  exact Nat.le_trans h1 (by omega)
theorem fct6:∀ k:Nat,k < 7 → fct k * 100 ^ k ≤ 720000000000000:=by decide
theorem mnr_small {M:Mtx Int} {R C:Nat} (hR:R < 64) (h:∀ i j,(M i j).natAbs ≤ 100):(mnr M R C).natAbs ≤ 720000000000000:=Nat.le_trans (mnr_le hR h) (fct6 _ (by have:=size_le R hR;omega))
theorem mnr_small5 {M:Mtx Int} {R C:Nat} (hR:R < 64) (h6:sizeN R < 6) (h:∀ i j,(M i j).natAbs ≤ 100):(mnr M R C).natAbs ≤ 1200000000000:=Nat.le_trans (mnr_le hR h) (fct5 _ h6)
theorem sgR_cases (j:Nat):CR.sgR Int j = 1 ∨ CR.sgR Int j = -1:=by unfold CR.sgR;split <;> simp
theorem sgR_next (j:Nat):CR.sgR Int (j + 1) = -CR.sgR Int j:=by
  unfold CR.sgR
  rcases Nat.mod_two_eq_zero_or_one j with h | h
  · rw [if_neg (by omega),if_pos h]
  · rw [if_pos (by omega),if_neg (by omega)];rfl
def mnrL (M:Mtx Int) (m R:Nat):List Int:=(List.range (2 ^ m)).map fun C => mnr M R C
theorem mnrL_length (M:Mtx Int) (m R:Nat):(mnrL M m R).length = 2 ^ m:=by simp [mnrL]
theorem mnrL_getD (M:Mtx Int) {m R C:Nat} (h:C < 2 ^ m):(mnrL M m R).getD C 0 = mnr M R C:=by simp [mnrL,List.getD,h]
end Go.Proofs.YtndgffiihbdppaaGreatDoor
namespace Go.Proofs.YtndgffiihbdppaaGreatDoor
set_option linter.unusedVariables false
set_option linter.unusedSimpArgs false
open Go.RowKit

set_option maxRecDepth 100000 in
theorem columns_any (A:Option Addr) (n c:Nat) (xss:List (List Int)) (w:World) (ha:SLL w A n c xss) :
    Calls Tryz.prog 41 #[.slice A n c] w fun e w' => e = .returned (.int .i64 (colsM xss:Nat)) ∧ w = w':=by
  have hl:=ha.len
  have hs:=ha.small
  by_cases hn:n = 0
  · have hx:xss = []:=List.eq_nil_of_length_eq_zero (by omega)
    subst hx
    have hz:Hid (((colsM []:Nat):Int) = 0):=rfl
    rw [hz.out]
    clear ha hl
    subst hn
    go_enter Tryz.func41,Tryz.ntmps41
    go_wp2
    go_ret
    exact ⟨rfl,rfl⟩
  · obtain ⟨ad,B,m,d,rfl,hc,hsl⟩:=ha.at_ (k:=0) (by omega)
    rw [show ad.add 0 = ad by unfold Addr.add;simp] at hc
    have hm:Hid (((colsM xss:Nat):Int) = m):=hide (by unfold colsM;rw [hsl.il.len])
    rw [hm.out]
    have hms:=hsl.il.small
    have hb:((n:Int) == 0) = false:=by simp;omega
    clear ha hl hsl
    go_enter Tryz.func41,Tryz.ntmps41
    go_wp2
    go_ret
    exact ⟨rfl,rfl⟩

set_option maxRecDepth 100000 in
set_option maxHeartbeats 2000000 in
theorem imcheck_any (A:Option Addr) (n c:Nat) (xss:List (List Int)) (w:World) (ha:ILL w A n xss) :
    Calls Tryz.prog 38 #[.slice A n c] w fun e w' => e = .returned (.int .i64 (mfault xss)) ∧ w = w':=by
  have hl:=ha.len
  have hns:=ha.small
  have HA:=hide ha
  have HL:=hide hl
  by_cases h6:6 < n
  · have HF:Hid (mfault xss = 2):=hide (by unfold mfault;rw [if_pos (by omega)])
    clear ha hl
    go_enter Tryz.func38,Tryz.ntmps38
    go_wp2
    go_ret
    rw [HF.out]
    exact ⟨rfl,rfl⟩
  · have HF : Hid (mfault xss = mrows (xss.getD 0 []).length xss) := hide (by unfold mfault; rw [if_neg (by omega)])
    clear ha hl
    go_enter Tryz.func38,Tryz.ntmps38
    go_wp2
    go_loop [12] (fun iv => ∃ k:Nat,k ≤ n ∧ iv = .int .i64 k ∧ Hid (mfault xss = mrows (xss.getD 0 []).length (xss.drop k))) (fun iv => n - (intOf iv).toNat)
    case atStart => exact ⟨0,Nat.zero_le _,rfl,by rw [List.drop_zero];exact HF.out⟩
    case round =>
      obtain ⟨k,hk,rfl,HK⟩:=hrel
      by_cases hlt:k < n
      · obtain ⟨ad, B, m, d, rfl, hcl, hil⟩ := HA.out.at_ hlt
        obtain ⟨ad',B0,m0,d0,e,hcl0,hil0⟩:=HA.out.at_ (k:=0) (by omega)
        injection e with e
        subst e
        rw [show ad.add 0 = ad by unfold Addr.add;simp] at hcl0
        have hm:=hil.len
        have hm0:=hil0.len
        have hms:=hil.small
        have HST:=hide (mrows_step (k:=(xss.getD 0 []).length) (xss:=xss) (j:=k) (by rw [HL.out];exact hlt))
        have HIL:=hide hil
        have HROW:Hid (mrow (xss.getD 0 []).length (xss.getD k []) = if 6 < m then 2 else if m ≠ m0 then 3 else if (xss.getD k []).all okE then 0 else 1):=hide (by unfold mrow;rw [hm,hm0])
        have HM:=hide hm
        clear hil hil0 hm hm0
        by_cases h1:6 < m
        · have HE:Hid (mfault xss = 2):=hide (by rw [HK.out,HST.out,HROW.out,if_pos h1];rfl)
          clear HST HROW
          go_wp2
          go_ret
          rw [HE.out]
          exact ⟨rfl,rfl⟩
        · by_cases h2:m = m0
          · subst h2
            have HROW2:Hid (mrow (xss.getD 0 []).length (xss.getD k []) = if (xss.getD k []).all okE then 0 else 1):=hide (by rw [HROW.out,if_neg h1,if_neg (by omega)])
            have hbe:((m:Int) != (m:Int)) = false:=by simp
            clear HROW
            go_wp2
            go_loop [28] (fun jv => ∃ j:Nat,j ≤ m ∧ jv = .int .i64 j ∧ Hid (((xss.getD k []).take j).all okE = true)) (fun jv => m - (intOf jv).toNat)
            case atStart => exact ⟨0,Nat.zero_le _,rfl,by rw [List.take_zero];exact rfl⟩
            case round =>
              obtain ⟨j,hj,rfl,HJ⟩:=hrel
              by_cases hjl:j < m
              · obtain ⟨bd,rfl,hx⟩:=HIL.out.at_ hjl
                have HT:=hide (all_take_okE (w:=xss.getD k []) (k:=j) (by rw [HM.out];exact hjl))
                have HMEM:Hid ((xss.getD k []).getD j 0 ∈ xss.getD k []):=hide (getD_memI (by rw [HM.out];exact hjl))
                obtain ⟨x,hxe⟩:∃ x,(xss.getD k []).getD j 0 = x:=⟨_,rfl⟩
                rw [hxe] at hx HT HMEM
                clear hxe
                by_cases hok:x ≤ 100 ∧ -100 ≤ x
                · have HN:Hid (((xss.getD k []).take (j + 1)).all okE = true):=hide (by rw [HT.out,HJ.out];simp [okE,hok])
                  obtain ⟨ho1,ho2⟩:=hok
                  clear HT HJ
                  go_wp2
                  go_round
                  case rel => exact ⟨j + 1,by omega,by go_num,HN.out⟩
                  case measure => simp [intOf];omega
                · have HN:Hid ((xss.getD k []).all okE = false):=hide (by
                    rw [Bool.eq_false_iff]
                    intro h
                    have:=List.all_eq_true.1 h x HMEM.out
                    exact hok (by simpa [okE] using this))
                  have HE:Hid (mfault xss = 1):=hide (by rw [HK.out,HST.out,HROW2.out,HN.out];rfl)
                  clear HT HJ HST HROW2
                  by_cases h3:100 < x
                  · clear hok
                    go_wp2
                    go_ret
                    rw [HE.out]
                    exact ⟨rfl,rfl⟩
                  · have h4:x < -100:=by omega
                    clear hok
                    go_wp2
                    go_ret
                    rw [HE.out]
                    exact ⟨rfl,rfl⟩
              · have HALL:Hid ((xss.getD k []).all okE = true):=hide (by
                  have:=HJ.out
                  rwa [List.take_of_length_le (by rw [HM.out];omega)] at this)
                have HN:Hid (mfault xss = mrows (xss.getD 0 []).length (xss.drop (k + 1))):=hide (by rw [HK.out,HST.out,HROW2.out,HALL.out];rfl)
                clear HJ HST HROW2 HALL
                go_wp2
                go_round
                case rel => exact ⟨k + 1,by omega,by go_num,HN.out⟩
                case measure => simp [intOf];omega
          · have hbe:((m:Int) != (m0:Int)) = true:=by simp;omega
            have HE:Hid (mfault xss = 3):=hide (by rw [HK.out,HST.out,HROW.out,if_neg h1,if_pos h2];rfl)
            clear HST HROW h2
            go_wp2
            go_ret
            rw [HE.out]
            exact ⟨rfl,rfl⟩
      · have HE:Hid (mfault xss = 0):=hide (by rw [HK.out,List.drop_of_length_le (by rw [HL.out];omega)];rfl)
        go_wp2
        go_ret
        rw [HE.out]
        exact ⟨rfl,rfl⟩

set_option maxRecDepth 100000 in
set_option maxHeartbeats 2000000 in
theorem imgcd_any (a b:Int) (w:World) (ha:a.natAbs ≤ 4000000000000000000) (hb:b.natAbs ≤ 4000000000000000000) :
    Calls Tryz.prog 40 #[.int .i64 a,.int .i64 b] w fun e w' => e = .returned (.int .i64 (Int.gcd a b:Nat)) ∧ Below w.heap.size w w':=by
  obtain ⟨G,hG⟩:∃ G,Int.gcd a b = G:=⟨_,rfl⟩
  rw [hG]
  have HG:=hide hG
  clear hG
  go_enter Tryz.func40,Tryz.ntmps40
  go_wp2_with fail
  go_loopw [0,1] (fun av bv wr => ∃ x y:Int,av = .int .i64 x ∧ bv = .int .i64 y ∧ x.natAbs ≤ 4000000000000000000 ∧ y.natAbs ≤ 4000000000000000000 ∧ Hid (Int.gcd x y = G) ∧ Below w.heap.size w wr) (fun _ bv _ => (intOf bv).natAbs)
  case atStart => exact ⟨a,b,rfl,rfl,ha,hb,HG,Below.refl _ _⟩
  case round =>
    clear HG ha hb
    obtain ⟨x,y,rfl,rfl,hx,hy,HG,hbw⟩:=hrel
    have HB:=hide hbw
    clear hbw
    by_cases h0:y = 0
    · subst h0
      have hbe:((0:Int) != 0) = false:=rfl
      have hw:IntKind.i64.wrap (-x) = -x:=by rw [IntKind.wrap_i64];omega
      have hg:(x.natAbs:Int) = G:=by have:=HG.out;simp at this;omega
      by_cases h:x ≤ 0
      · have HN:Hid ((G:Int) = -x):=hide (by omega)
        clear hg HG
        go_wp2_with fail
        all_goals
          go_ret
          rw [HN.out]
          refine ⟨?_,HB.out⟩
          first | rfl | (congr 2;omega) | (simp;omega)
      · have HN:Hid ((G:Int) = x):=hide (by omega)
        clear hg HG
        go_wp2_with fail
        all_goals
          go_ret
          rw [HN.out]
          refine ⟨?_,HB.out⟩
          first | rfl | (congr 2;omega) | (simp;omega)
    · have hbe:(y != 0) = true:=by simpa using h0
      have hlt:(x.tmod y).natAbs < y.natAbs:=by
        rw [Int.natAbs_tmod]
        exact Nat.mod_lt _ (by omega)
      have HN:Hid (Int.gcd y (x.tmod y) = G):=hide (by rw [gcd_tmod];exact HG.out)
      clear HG
      go_upto_region 2 with fail
      go_quiet (fail)
      go_wp2_with fail
      go_roundw
      case rel => exact ⟨y,x.tmod y,rfl,rfl,hy,by omega,HN,below_drewN HB.out _⟩
      case measure => exact hlt
end Go.Proofs.YtndgffiihbdppaaGreatDoor
