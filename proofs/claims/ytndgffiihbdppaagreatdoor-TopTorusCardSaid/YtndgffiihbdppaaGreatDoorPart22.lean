/- Several texts in one. -/
import Derived.Test.YtndgffiihbdppaaGreatDoorPart21
import Derived.Test.YtndgffiihbdppaaGreatDoorPart20
import Derived.Test.YtndgffiihbdppaaGreatDoorBase1
import Derived.Test.YtndgffiihbdppaaGreatDoorPart13
namespace Go.Proofs.YtndgffiihbdppaaGreatDoor
set_option linter.unusedVariables false
set_option linter.unusedSimpArgs false
open Go.RowKit

theorem eRtc:∀ args w,(callFunc 36 args).run Tryz.prog w = .ok (.enter 36 args) w:=enters (fn:=Tryz.f36) (by kernel_rfl) (by kernel_rfl) (by kernel_rfl)
theorem burL_okA {N:Nat} {u:List Int} (h1:1 ≤ N) (h6:N ≤ 6) (hu:okB N u) (hl:u.length ≤ 16):burE (N:Int) u = 0 ∧ burL (N:Int) u = tabA N (bu N u):=by
  have hb:bfault (N:Int) u = 0:=bfault_ok (by omega) (by omega) (by omega) fun x hx => by have:=hu x hx;omega
  have he:burE (N:Int) u = 0:=by unfold burE;rw [if_pos hb,if_neg (by omega)]
  refine ⟨he,?_⟩
  unfold burL
  rw [if_pos he,Int.toNat_natCast]
  rfl

set_option maxRecDepth 100000 in
set_option maxHeartbeats 8000000 in
theorem alb_any (FB:BraidC) (F:PolyC) (N:Nat) (A:Option Addr) (n c:Nat) (xs:List Int) (w:World) (ha:SL w A n c xs) (h1:1 ≤ N) (h6:N ≤ 6) (hok:okB N xs) (hn:n ≤ 20) (hF:AlF N (xs.take (n / 2)) (xs.drop (n / 2))) :
    Calls Tryz.prog 17 #[.int .i64 N,.slice A n c] w (GivesMt w N (bu N xs)):=by
  obtain ⟨u,hu⟩:∃ u,xs.take (n / 2) = u:=⟨_,rfl⟩
  obtain ⟨v,hv⟩:∃ v,xs.drop (n / 2) = v:=⟨_,rfl⟩
  rw [hu,hv] at hF
  have huv:u ++ v = xs:=by rw [← hu,← hv,List.take_append_drop]
  have hlen:=ha.il.len
  obtain ⟨h,hh⟩:∃ h,n / 2 = h:=⟨_,rfl⟩
  have hhn:h ≤ n:=by omega
  have SU:=hide (ha.half_h hhn)
  have SV:=hide (ha.half_l hhn)
  rw [← hh,hu] at SU
  rw [← hh,hv] at SV
  rw [hh] at SU SV hu hv
  rw [← hh] at SU SV
  rw [hh] at SU SV
  obtain ⟨eu1,eu2⟩:=burL_okA (N:=N) (u:=u) h1 h6 (fun x hx => hok x (by rw [← hu] at hx;exact List.mem_of_mem_take hx)) (by rw [← hu,List.length_take];omega)
  obtain ⟨ev1,ev2⟩:=burL_okA (N:=N) (u:=v) h1 h6 (fun x hx => hok x (by rw [← hv] at hx;exact List.mem_of_mem_drop hx)) (by rw [← hv,List.length_drop];omega)
  have hwN:(Lit.int .i64 (N:Int)).wf = true:=wfI (by omega)
  have HBU:=hide (fun (w:World) (s:SL w (cutA A 0 c) h c u) => (by
    have:=FB.burau (N:Int) (cutA A 0 c) h c u w s hwN
    rw [eu1,eu2] at this
    exact this:Calls Tryz.prog 35 #[.int .i64 (N:Int),.slice (cutA A 0 c) h c] w (GivesMP w 0 (tabA N (bu N u)))))
  have HBV:=hide (fun (w:World) (s:SL w (cutA A h c) (n - h) (c - h) v) => (by
    have:=FB.burau (N:Int) (cutA A h c) (n - h) (c - h) v w s hwN
    rw [ev1,ev2] at this
    exact this:Calls Tryz.prog 35 #[.int .i64 (N:Int),.slice (cutA A h c) (n - h) (c - h)] w (GivesMP w 0 (tabA N (bu N v)))))
  obtain ⟨D,hD⟩:∃ D:Mtx LP,bu N xs = D:=⟨_,rfl⟩
  have hDe:∀ i,i < N → ∀ j,j < N → (CR.sumN N fun k => bu N u i k * bu N v k j) = D i j:=fun i hi j hj => by
    rw [← hD,← huv,bu_append N u v i hi j hj]
    rfl
  have HRT:Hid (∀ i,i < N → ∀ j,j < N → LP.Rt (D i j)):=hide (fun i hi j hj => by rw [← hDe i hi j hj];exact hF.rs i hi j hj N (Nat.le_refl _))
  have HRC:=hide (fun i (hi:i < N) j (hj:j < N) (B1:Option Addr) (d1:Nat) (A2:Option Addr) (c2:Nat) (w:World) (s1:SPo w B1 N d1 (rowA N (bu N u) i)) (s2:SPP w A2 N c2 (tabA N (bu N v))) => (by
    have:=rtc_any F B1 N d1 (rowA N (bu N u) i) A2 N c2 (tabA N (bu N v)) j (fun k => bu N u i k) (fun k => bu N v k j) w s1 s2 (Nat.le_refl _) (fun k hk => rowA_getD hk) (fun k hk => by rw [tabA_getD hk,rowA_getD hj]) (fun k hk => by rw [tabA_getD hk,rowA_length];exact hj) (fun k hk => hF.ru i hi k hk) (fun k hk => hF.rv k hk j hj) (fun k hk => hF.rp i hi k hk j hj) (fun k hk => hF.rs i hi j hj k hk)
    rw [hDe i hi j hj] at this
    exact this:Calls Tryz.prog 36 #[.slice B1 N d1,.slice A2 N c2,.int .i64 j] w (GivesP w (LP.canon (D i j)).1 (LP.canon (D i j)).2)))
  rw [hD]
  have hq2:IntKind.i64.wrap ((n:Int).tdiv 2) = (h:Int):=by
    rw [Int.tdiv_eq_ediv_of_nonneg (by omega),IntKind.wrap_i64]
    omega
  have HQ2:=hide hq2
  have hhc:h ≤ c:=by have:=ha.cap;omega
  obtain ⟨i0,hi0,hz0,hz1,hz2⟩:=info_parts prows_info
  obtain ⟨i1,hi1,hy0,hy1,hy2⟩:=info_parts polys_info
  obtain ⟨ii,hii,hp0,hp1,hp2⟩:=info_parts int_info
  have HI0:=hide hi0
  have HZ0:=hide hz0
  have HZ1:=hide hz1
  have HZ2:=hide hz2
  have HI1:=hide hi1
  have HY0:=hide hy0
  have HY1:=hide hy1
  have HY2:=hide hy2
  have HII:=hide hii
  have HP1:=hide hp1
  clear FB F ha hok hn hF hu hv huv hlen hh eu1 eu2 ev1 ev2 hwN hD hDe hq2 hi0 hz0 hz1 hz2 hi1 hy0 hy1 hy2 hii hp0 hp1 hp2
  generalize bu N u = U at *
  generalize bu N v = V at *
  go_enter Tryz.func17,Tryz.ntmps17
  go_upto_region 1 with fail
  go_upto_region 2 with ((with_reducible show wpList _ _ _ (Oper.mk _ (.binOp .quo _ _ _ _) _ _ _ _ :: _) _ _);refine wpList_gives rfl (gives_quo rfl rfl rfl (by decide) HQ2.out) ?_)
  go_wp2_with ((with_reducible show wpList _ _ _ (Oper.mk _ (.slice 23 _ _ _ _) _ _ _ _ :: _) _ _);refine wpList_gives rfl (v:=.slice (cutA A 0 c) h c) (gives_cut_h rfl Tryz.underlying23 (by rw [HII.out];exact congrArg some HP1.out) rfl rfl hhc) ?_)
  refine (HBU.out _ SU.out).mono ?_
  rintro e w1 ⟨A1,n1,c1,rfl,hs1,hb⟩
  have hn1:n1 = N:=by rw [← hs1.len,tabA_length]
  subst hn1
  have S1:=hide hs1
  have HW:=hide hb
  replace SV:=hide (SV.out.below hb)
  clear hs1 hb HBU
  go_wp2_with ((with_reducible show wpList _ _ _ (Oper.mk _ (.slice 23 _ _ _ _) _ _ _ _ :: _) _ _);refine wpList_gives rfl (v:=.slice (cutA A h c) (n - h) (c - h)) (gives_cut_l rfl Tryz.underlying23 (by rw [HII.out];exact congrArg some HP1.out) rfl rfl hhn) ?_)
  refine (HBV.out _ SV.out).mono ?_
  rintro e w4 ⟨A2,n2,c2,rfl,hs2,hb⟩
  have hn2:n2 = n1:=by rw [← hs2.len,tabA_length]
  subst hn2
  have S2:=hide hs2
  replace S1:=hide (S1.out.below hb)
  replace HW:=hide (HW.out.trans (hb.mono HW.out.size))
  clear hs2 hb HBV SV SU
  go_wp2_with (at_make;refine wpList_make_full _ rfl _ _ 45 rfl w4.heap.size 67 i0 (.slice none 0 0) 1 Tryz.underlying45 HI0.out HZ0.out HZ1.out .i64 .i64 _ _ n2 rfl rfl rfl rfl (by rw [HZ2.out];omega) (by unfold maxLen;omega) (Nat.le_refl _) ?_;intro w2 hown2 hg2)
  obtain ⟨G,hG⟩:∃ G,w4.heap.size = G:=⟨_,rfl⟩
  have hB2:Below w4.heap.size w4 w2:=(Below.refl _ _).grown hg2 (Nat.le_refl _) (by intro k hk;cases hk)
  have HM2:Hid (GroM w2 G G n2 0 none 0 0 [] D):=hide (by rw [← hG];exact GroM.start hown2 (by omega) D)
  have HB2:=hide hB2
  have HG:=hide hG
  rw [hG]
  clear hown2 hg2 hB2 hG
  go_loopw [36] (fun iv wr => ∃ i:Nat,iv = .int .i64 i ∧ i ≤ n2 ∧ Hid (GroM wr G G n2 i none 0 0 [] D) ∧ Hid (Below w4.heap.size w4 wr)) (fun iv _ => n2 - (intOf iv).toNat)
  case atStart => exact ⟨0,rfl,Nat.zero_le _,HM2,HB2⟩
  case round =>
    clear HM2 HB2
    obtain ⟨i,rfl,hi,HM,HB⟩:=hrel
    by_cases hin:i < n2
    · have HML:Hid (∃ (R:Option Addr) (c:Nat) (vs:List Value),GroM wr G G n2 i R 0 c vs D):=hide ⟨none,0,[],HM.out⟩
      have HWL:=HB
      have HIN:=hide hin
      rename World => wo
      clear HM HB hi
      go_wp2_with fail
      clear hin
      go_loopw [40] (fun jv wx => ∃ k:Nat,jv = .int .i64 k ∧ k ≤ n2 ∧ Hid (∃ (R:Option Addr) (c:Nat) (vs:List Value),GroM wx G G n2 i R k c vs D) ∧ Hid (Below w4.heap.size w4 wx)) (fun jv _ => n2 - (intOf jv).toNat)
      case atStart => exact ⟨0,rfl,Nat.zero_le _,HML,HWL⟩
      case round =>
        clear HML HWL
        obtain ⟨k,rfl,hk,HM,HB⟩:=hrel
        by_cases hkn:k < n2
        · obtain ⟨R,rc,vs,hM⟩:=HM.out
          rename World => wp
          have hin:=HIN.out
          obtain ⟨bd,B1,m1,d1,hA1,q1,s1⟩:=S1.out.at_ hin
          have hm1:m1 = n2:=by rw [← s1.len,tabA_getD hin,rowA_length]
          subst hm1
          rw [tabA_getD hin] at s1
          subst hA1
          rw [show bd.add i = bd.add (i * 1) by rw [Nat.mul_one]] at q1
          have hl1:=cell_lt q1
          have hbG:(bd.add (i * 1)).block < G:=by rw [← HG.out];exact hl1
          have HNO:=hide (hM.old hbG)
          have HQ1:=hide ((HB.out.cell (p:=bd.add (i * 1)) hl1).trans q1)
          have HL1:Hid ((bd.add (i * 1)).block < wp.heap.size):=hide (Nat.lt_of_lt_of_le hl1 HB.out.size)
          have SR1:=hide (s1.below HB.out)
          have SM2:=hide (S2.out.below HB.out)
          have hneG:=hM.ne
          have hlG:=hM.lt
          have hcG:=hM.cell hin
          have HM3:=hide hM
          have HNG:=hide hneG
          have HLG:=hide hlG
          have HCG:=hide hcG
          have HCA:=hide (HRC.out i hin k hkn)
          have HWF:=hide (HRT.out i hin k hkn).wf
          have HGW:Hid (w4.heap.size ≤ G):=hide (by rw [HG.out];exact Nat.le_refl _)
          obtain ⟨xy,hxy⟩:∃ y,D i k = y:=⟨_,rfl⟩
          rw [hxy] at HCA HWF
          have HXY:=hide hxy
          clear hM hneG hlG hcG q1 s1 hl1 hbG hxy hk HM
          go_upto_region 11 with fail
          refine wp_region_T (S:=fun z => SameK (fun b => b < wp.heap.size ∧ ob R ≠ some b) wp z) 16 (by kernel_rfl) (fun b _ => rfl) (fun hS => ?_)
          refine wpT_tk 0 (v:=.slice (some ⟨G,0,none⟩) m1 m1) rfl (by kernel_rfl) (by kernel_rfl) (by kernel_rfl) (by kernel_rfl) (yi rfl fun w' hw' => gives_move (.inl rfl) rfl) hS ?_
          go_frame
          refine wpT_tk 1 (v:=.int .i64 i) rfl (by kernel_rfl) (by kernel_rfl) (by kernel_rfl) (by kernel_rfl) (yi rfl fun w' hw' => gives_move (.inl rfl) rfl) hS ?_
          go_frame
          refine wpT_tk 2 (v:=.slice (some ⟨G,0,none⟩) m1 m1) rfl (by kernel_rfl) (by kernel_rfl) (by kernel_rfl) (by kernel_rfl) (yi rfl fun w' hw' => gives_move (.inl rfl) rfl) hS ?_
          go_frame
          refine wpT_tk 3 (v:=.int .i64 i) rfl (by kernel_rfl) (by kernel_rfl) (by kernel_rfl) (by kernel_rfl) (yi rfl fun w' hw' => gives_move (.inl rfl) rfl) hS ?_
          go_frame
          refine wpT_tk 4 (v:=.pointer (some ⟨G,i,none⟩)) rfl (by kernel_rfl) (by kernel_rfl) (by kernel_rfl) (by kernel_rfl) (yi rfl fun w' hw' => gives_idxG rfl Tryz.underlying45 (fun _ => by kernel_rfl) rfl rfl hin) hS ?_
          go_frame
          refine wpT_tk 5 (v:=.slice R k rc) rfl (by kernel_rfl) (by kernel_rfl) (by kernel_rfl) (by kernel_rfl) (yi rfl fun w' hw' => gives_load1 rfl (by kernel_rfl) rfl ((hw'.cell (a:=⟨G,i,none⟩) ⟨HLG.out,HNG.out⟩).trans HCG.out)) hS ?_
          go_frame
          refine wpT_tk 6 (v:=.slice (some bd) m1 c1) rfl (by kernel_rfl) (by kernel_rfl) (by kernel_rfl) (by kernel_rfl) (yi rfl fun w' hw' => gives_move (.inl rfl) rfl) hS ?_
          go_frame
          refine wpT_tk 7 (v:=.int .i64 i) rfl (by kernel_rfl) (by kernel_rfl) (by kernel_rfl) (by kernel_rfl) (yi rfl fun w' hw' => gives_move (.inl rfl) rfl) hS ?_
          go_frame
          refine wpT_tk 8 (v:=.pointer (some (bd.add (i * 1)))) rfl (by kernel_rfl) (by kernel_rfl) (by kernel_rfl) (by kernel_rfl) (yi rfl fun w' hw' => gives_indexSlice rfl Tryz.underlying45 (fun w => by kernel_rfl) rfl rfl hin) hS ?_
          go_frame
          refine wpT_tk 9 (v:=.slice B1 m1 d1) rfl (by kernel_rfl) (by kernel_rfl) (by kernel_rfl) (by kernel_rfl) (yi rfl fun w' hw' => gives_load1 rfl (by kernel_rfl) rfl ((hw'.cell (a:=bd.add (i * 1)) ⟨HL1.out,HNO.out⟩).trans HQ1.out)) hS ?_
          go_frame
          refine wpT_tk 10 (v:=.slice A2 m1 c2) rfl (by kernel_rfl) (by kernel_rfl) (by kernel_rfl) (by kernel_rfl) (yi rfl fun w' hw' => gives_move (.inl rfl) rfl) hS ?_
          go_frame
          refine wpT_tk 11 (v:=.int .i64 k) rfl (by kernel_rfl) (by kernel_rfl) (by kernel_rfl) (by kernel_rfl) (yi rfl fun w' hw' => gives_move (.inl rfl) rfl) hS ?_
          go_frame
          have hdr:Below wp.heap.size wp wp.drew:=(Below.refl _ _).drew
          refine wpT_1 12 rfl (by kernel_rfl) ?_
          refine wp_call [.slice B1 m1 d1,.slice A2 m1 c2,.int .i64 k] rfl rfl eRtc rfl ((HCA.out B1 d1 A2 c2 wp.drew (SR1.out.below hdr) (SM2.out.below hdr)).mono ?_)
          rintro e w6 ⟨P,pn,pc,rfl,hsP,hnw,hb6⟩
          have hb6w:Below wp.heap.size wp w6:=hdr.trans hb6
          have HSK:∀ w',(∀ b,b < w6.heap.size → w'.heap[b]? = w6.heap[b]?) → SameK (fun b => b < wp.heap.size ∧ ob R ≠ some b) wp w':=fun w' h b hb => (h b (Nat.lt_of_lt_of_le hb.1 hb6w.size)).trans (hb6w.block b hb.1)
          have hS6:SameK (fun b => b < wp.heap.size ∧ ob R ≠ some b) wp w6:=HSK w6 fun _ _ => rfl
          refine ⟨_,rfl,fun _ => hS6,?_⟩
          go_frame
          have HSZ9:wp.heap.size ≤ (w6.alloc (.cells #[.int .i64 (LP.canon xy).1,.slice P pn pc] 26)).heap.size:=by rw [World.size_alloc];exact Nat.le_trans hb6w.size (Nat.le_succ _)
          have hMd:=HM3.out.below hb6w
          have hzd:SLK (fun b => Fr [some G,ob R] b ∧ b < w6.heap.size) w6 P pn pc (LP.canon xy).2:=HM3.out.far hsP (show NewA wp P pn from hnw)
          have hWd:=HB.out.trans (hb6w.mono HB.out.size)
          have hlit:Below w6.heap.size w6 (w6.alloc (.cells #[.int .i64 (LP.canon xy).1,.slice P pn pc] 26)):=(Below.refl _ _).alloc (Nat.le_refl _) _
          have hM4:=hMd.below hlit
          have hz4:SLK (fun b => Fr [some G,ob R] b ∧ b < (w6.alloc (.cells #[.int .i64 (LP.canon xy).1,.slice P pn pc] 26)).heap.size) (w6.alloc (.cells #[.int .i64 (LP.canon xy).1,.slice P pn pc] 26)) P pn pc (LP.canon xy).2:=(hzd.keep ((SameK.below hlit).mono fun b hb2 => hb2.2) hlit.size).mono fun b _ h3 => ⟨h3.1,Nat.lt_of_lt_of_le h3.2 hlit.size⟩
          have hb4:=hWd.trans (hlit.mono hWd.size)
          have blit:=Blk.new w6 26 #[.int .i64 (LP.canon xy).1,.slice P pn pc]
          refine wpT_1 13 rfl (by kernel_rfl) ?_
          refine wp_buildSlice_at (cells:=#[.int .i64 (LP.canon xy).1,.slice P pn pc]) (l:=[(0,.tmp 55)]) i1 (.agg #[.int .i64 0,.slice none 0 0]) 2 [(0,PV (LP.canon xy).1 P pn pc)] rfl Tryz.underlying67 HI1.out HY0.out HY1.out (by decide) (by decide) rfl (by simp [Instr.fill,Value.cells,show Array.range (1 * 2) = #[0,1] from rfl]) ?_
          refine ⟨fun _ => HSK _ hlit.block,?_⟩
          go_frame
          refine wpT_1 14 rfl (by kernel_rfl) ?_
          refine wp_append_G (.tmp 48) (.tmp 56) 67 rfl G 26 i1 (.agg #[.int .i64 0,.slice none 0 0]) 2 32 Tryz.underlying67 HI1.out HY0.out HY1.out HY2.out rfl (by omega) (by omega) R k rc vs rfl hM4.own ⟨w6.heap.size,0,none⟩ 1 1 [.int .i64 (LP.canon xy).1,.slice P pn pc] rfl rfl (cells_pair blit) (by simp [Value.oneCell']) (by omega) (Nat.le_of_lt hM4.lt) ?_
          intro R9 c9 w9 happ
          have hM9:=hM4.put HXY.out hin hz4 HWF.out happ
          have hcell9:w9.cell? ⟨G,i,none⟩ = some (.slice R k rc):=by
            have h1:=hM4.cell hin
            rw [← h1]
            refine World.cell?_of_block (a:=⟨G,i,none⟩) (happ.grown.block G hM4.lt (fun e => hM4.ne ?_))
            rw [ownBlock_len R (k + 1) k rc rc,ob_own] at e
            exact e.symm
          have hgrow:Below w4.heap.size w4 w9:=hb4.grown happ.grown hb4.size (fun b hb => by
            rw [ownBlock_len R (k + 1) k rc rc] at hb
            exact Nat.le_trans HGW.out (hM4.own.lt b hb).1)
          have hfr:w9.frozen? ⟨G,i,none⟩ = false:=by
            obtain ⟨cs,hcs⟩:=hM4.blk
            have h2:Blk w9 G 67 cs:=(happ.grown.block G hM4.lt (fun e => hM4.ne (by rw [ownBlock_len R (k + 1) k rc rc,ob_own] at e;exact e.symm))).trans hcs
            exact h2.frozen i
          have hS9:SameK (fun b => b < wp.heap.size ∧ ob R ≠ some b) wp w9:=fun b hb => by
            have h1:=HSK _ hlit.block b hb
            rw [← h1]
            refine happ.grown.block b (Nat.lt_of_lt_of_le hb.1 HSZ9) (fun e => hb.2 ?_)
            rw [ownBlock_len R (k + 1) k rc rc,ob_own] at e
            exact e.symm
          refine ⟨fun _ => hS9,?_⟩
          go_frame
          refine wpT_tk 15 (v:=.pointer (some ⟨G,i,none⟩)) rfl (by kernel_rfl) (by kernel_rfl) (by kernel_rfl) (by kernel_rfl) (yi rfl fun w' hw' => gives_idxG rfl Tryz.underlying45 (fun _ => by kernel_rfl) rfl rfl hin) hS9 ?_
          go_frame
          refine wpT_1 16 rfl (by kernel_rfl) ?_
          refine wp_storeS rfl (by kernel_rfl) (by kernel_rfl) rfl rfl hcell9 hfr ?_
          refine ⟨fun h => absurd rfl h,?_⟩
          go_frame
          refine wpT_done (by kernel_rfl) (noPanic_mk ?_) _
          have HM5:Hid (∃ (R:Option Addr) (c:Nat) (vs:List Value),GroM (w9.setCell ⟨G,i,none⟩ (.slice R9 (k + 1) c9)) G G m1 i R (k + 1) c vs D):=hide ⟨_,_,_,hM9⟩
          have HW5:Hid (Below w4.heap.size w4 (w9.setCell ⟨G,i,none⟩ (.slice R9 (k + 1) c9))):=hide (hgrow.setCell (p:=⟨G,i,none⟩) HGW.out _)
          clear hMd hzd hWd hS hS6 hdr hb6 hb6w hsP hnw HSK HSZ9 hlit hM4 hz4 hb4 blit hM9 hcell9 hgrow hfr hS9 happ HM3 HCG HNG HLG HWF HGW HB SR1 SM2 HCA HQ1 HL1 HNO
          go_wp2_with fail
          go_roundw
          case rel => exact ⟨k + 1,by go_num,by omega,HM5,HW5⟩
          case measure => simp [intOf];omega
        · have hke:k = n2:=by omega
          subst hke
          obtain ⟨R,rc,vs,hM⟩:=HM.out
          have HN:=hide (hM.next HIN.out)
          have hin:=HIN.out
          clear HM hM
          go_wp2_with fail
          go_roundw
          case rel => exact ⟨i + 1,by go_num,by omega,HN,HB⟩
          case measure => simp [intOf];omega
    · have hie:i = n2:=by omega
      subst hie
      have HS:=hide (HM.out.spp (by omega))
      have HWE:=hide (HW.out.trans (HB.out.mono HW.out.size))
      clear HM
      go_wp2_with fail
      go_ret
      exact ⟨_,_,rfl,HS.out,HWE.out⟩
end Go.Proofs.YtndgffiihbdppaaGreatDoor
namespace Go.Proofs.YtndgffiihbdppaaGreatDoor
set_option linter.unusedVariables false
set_option linter.unusedSimpArgs false
open Go.RowKit

def elA (p:Po):Prop:=(∀ x ∈ p.2,x.natAbs ≤ 100000000) ∧ -20 ≤ p.1 ∧ p.1 + p.2.length ≤ 21
theorem elA_n1 {x:LP} (h:LP.N1 x 20 100000000):elA (cP x):=by
  obtain ⟨h1,h2,h3⟩:=canon_room h
  refine ⟨h3,by show -20 ≤ (LP.canon x).1;omega,?_⟩
  show (LP.canon x).1 + ((LP.canon x).2.length:Int) ≤ 21
  by_cases hn:(LP.canon x).2 = []
  · rw [hn];simp;omega
  · have hc:=(LP.canon_cano x).high hn
    rw [LP.of_canon] at hc
    have:=h.supp hc
    have hl:0 < (LP.canon x).2.length:=List.length_pos_iff.2 hn
    omega
set_option maxRecDepth 100000 in
set_option maxHeartbeats 4000000 in
theorem alAddP_any (base g n cp:Nat) (ss:List Int) (sg lo:Int) (A:Option Addr) (m c:Nat) (xs:List Int) (B:Option Addr) (l d:Nat) (ys:List Int) (w:World) (b:Int)
    (ho:OwnI w base (some ⟨g,0,none⟩) n cp (ss.map wr64)) (ha:SL w A m c xs) (hb:SL w B l d (ys.map wr64)) (hs:sg = 1 ∨ sg = -1) (hx:∀ x ∈ xs,x.natAbs ≤ 100000000) (hlo1:-20 ≤ lo) (hlo2:lo + m ≤ 21) (hn:n = l + 40) (hl:l ≤ 100000)
    (hga:0 < m → ∀ ad,A = some ad → ad.block ≠ g) (hgb:0 < l → ∀ ad,B = some ad → ad.block ≠ g) :
    Calls Tryz.prog 57 #[.slice (some ⟨g,0,none⟩) n cp,.int .i64 sg,PV lo A m c,.slice B l d] w fun e w' => e = .returned (.tuple #[]) ∧ ∃ ts:List Int,ts.length = n ∧ LP.of (b - 20) ts = LP.of (b - 20) ss + LP.term 0 sg * (LP.of lo xs * LP.of b ys) ∧ OwnI w' base (some ⟨g,0,none⟩) n cp (ts.map wr64) ∧ Below g w w':=by
  have hgs:g < w.heap.size:=(ho.lt g rfl).2
  have HLX:=hide ha.il.len
  have HLY:Hid (ys.length = l):=hide (by have:=hb.il.len;simpa using this)
  have HLS:Hid (ss.length = n):=hide (by have:=ho.len;simpa using this)
  have hb0:Below w.heap.size w (w.alloc (.cells #[.int .i64 lo,.slice A m c] 26)):=(Below.refl _ _).alloc (Nat.le_refl _) _
  have HW:Hid (Below g w (w.alloc (.cells #[.int .i64 lo,.slice A m c] 26))):=hide (hb0.mono (Nat.le_of_lt hgs))
  have HA:=hide (ha.below hb0)
  have HB:=hide (hb.below hb0)
  have HO:=hide (ho.alloc (.cells #[.int .i64 lo,.slice A m c] 26))
  have B0:=hide (Blk.new w 26 #[.int .i64 lo,.slice A m c])
  have HX:=hide hx
  have HSG:=hide hs
  have HGA:=hide hga
  have HGB:=hide hgb
  have HE:=hide (apS_end (LP.of (b - 20) ss) sg lo xs b ys)
  have HZ:=hide (apS_zero (LP.of (b - 20) ss) sg lo xs b ys)
  have HST:Hid (∀ i k,k < ys.length → apS (LP.of (b - 20) ss) sg lo xs b ys i (k + 1) = apS (LP.of (b - 20) ss) sg lo xs b ys i k + LP.term (lo + i + (b + k)) (sg * xs.getD i 0 * ys.getD k 0)):=hide (fun i k hk => apS_step _ sg lo xs b i hk)
  have HRW:Hid (∀ i,i < xs.length → apS (LP.of (b - 20) ss) sg lo xs b ys i ys.length = apS (LP.of (b - 20) ss) sg lo xs b ys (i + 1) 0):=hide (fun i hi => apS_row _ sg lo b ys hi)
  have HSS:Hid (LP.of (b - 20) ss = LP.of (b - 20) ss):=hide rfl
  clear hs hx hga hgb ha hb ho hb0
  rw [HLX.out] at HE HRW
  rw [HLY.out] at HST HRW
  generalize hS:LP.of (b - 20) ss = S at *
  obtain ⟨bx,hbx⟩:∃ q,w.heap.size = q:=⟨_,rfl⟩
  have hbg:bx ≠ g:=by omega
  obtain ⟨w0,hw0⟩:∃ x,w.alloc (.cells #[.int .i64 lo,.slice A m c] 26) = x:=⟨_,rfl⟩
  rw [hw0] at HW HA HB HO B0
  rw [hbx] at B0
  have hq0:=B0.out.cell 0
  have hq1:=B0.out.cell 1
  simp at hq0 hq1
  go_enter Tryz.func57,Tryz.ntmps57
  go_upto_region 1 with fail
  clear hw0 hbx hgs
  go_wp2_with fail
  clear hq0 hq1
  go_loopw [15] (fun iv wx => ∃ (i:Nat) (ts:List Int),i ≤ m ∧ iv = .int .i64 i ∧ Hid (ts.length = n ∧ LP.of (b - 20) ts = apS S sg lo xs b ys i 0) ∧ Hid (OwnI wx base (some ⟨g,0,none⟩) n cp (ts.map wr64)) ∧ Hid (SL wx A m c xs) ∧ Hid (SL wx B l d (ys.map wr64)) ∧ Hid (Blk wx bx 26 #[.int .i64 lo,.slice A m c]) ∧ Hid (Below g w wx)) (fun iv _ => m - (intOf iv).toNat)
  case atStart => exact ⟨0,ss,Nat.zero_le _,rfl,hide ⟨HLS.out,hS.trans HZ.out.symm⟩,HO,HA,HB,B0,HW⟩
  case round =>
    clear HO HA HB B0 HW
    obtain ⟨i,ts,hi,rfl,HT,HO,HA,HB,B0,HW⟩:=hrel
    by_cases him:i < m
    · obtain ⟨ad,hA,hcl⟩:=HA.out.il.at_ him
      subst hA
      have HXB:Hid ((xs.getD i 0).natAbs ≤ 100000000):=hide (HX.out _ (LP.getD_mem' (by rw [HLX.out];exact him)))
      have HST2:=hide (HST.out i)
      have HRW2:=hide (HRW.out i him)
      obtain ⟨x,hx⟩:∃ x,xs.getD i 0 = x:=⟨_,rfl⟩
      rw [hx] at hcl HXB HST2
      clear hx
      have HIM:=hide him
      rename World => wo
      have hi20:lo + i ≤ 20:=by omega
      clear hi
      go_wp2_with fail
      clear hcl him
      go_loopw [22] (fun kv wx => ∃ (k:Nat) (ts:List Int),k ≤ l ∧ kv = .int .i64 k ∧ Hid (ts.length = n ∧ LP.of (b - 20) ts = apS S sg lo xs b ys i k) ∧ Hid (OwnI wx base (some ⟨g,0,none⟩) n cp (ts.map wr64)) ∧ Hid (SL wx (some ad) m c xs) ∧ Hid (SL wx B l d (ys.map wr64)) ∧ Hid (Blk wx bx 26 #[.int .i64 lo,.slice (some ad) m c]) ∧ Hid (Below g w wx)) (fun kv _ => l - (intOf kv).toNat)
      case atStart => exact ⟨0,ts,Nat.zero_le _,rfl,HT,HO,HA,HB,B0,HW⟩
      case round =>
        clear HT HO HA HB B0 HW
        obtain ⟨k,ts,hk,rfl,HT,HO,HA,HB,B0,HW⟩:=hrel
        by_cases hkl:k < l
        · obtain ⟨bd,hB,hcl⟩:=HB.out.il.at_ hkl
          subst hB
          rw [getD_wr64] at hcl
          have HN:=hide (HST2.out k hkl)
          have hz0:=B0.out.cell 0
          simp at hz0
          obtain ⟨j,hj⟩:∃ j:Nat,20 + lo + i + k = (j:Int):=⟨(20 + lo + i + k).toNat,by omega⟩
          have hjn:j < n:=by omega
          have hje:lo + i + (b + k) = b - 20 + j:=by omega
          rw [hje] at HN
          have hcell:=HO.out.cell hjn
          have hfr:=HO.out.frozen j
          rw [getD_wr64] at hcell
          have HTS:=hide (LP.of_set (b:=b - 20) (ys:=ts) (j:=j) (by rw [HT.out.1];exact hjn))
          have h3:=wr64_step (ts.getD j 0) sg x (ys.getD k 0)
          obtain ⟨v,hv⟩:∃ v,wr64 (ts.getD j 0 + sg * x * ys.getD k 0) = v:=⟨_,rfl⟩
          rw [hv] at h3
          have HO2:=HO.out.set_ j v
          rw [← hv,set_wr64,hv] at HO2
          have HT2:Hid ((ts.set j (ts.getD j 0 + sg * x * ys.getD k 0)).length = n ∧ LP.of (b - 20) (ts.set j (ts.getD j 0 + sg * x * ys.getD k 0)) = apS S sg lo xs b ys i (k + 1)):=hide ⟨by rw [List.length_set];exact HT.out.1,by rw [HTS.out,HT.out.2,HN.out]⟩
          generalize ts.set j (ts.getD j 0 + sg * x * ys.getD k 0) = ts2 at *
          have h1:IntKind.i64.wrap (sg * x) = sg * x:=by
            have:=HXB.out
            rw [IntKind.wrap_i64]
            rcases HSG.out with h | h <;> rw [h] <;> omega
          obtain ⟨z,hz⟩:∃ z,IntKind.i64.wrap (sg * x * wr64 (ys.getD k 0)) = z:=⟨_,rfl⟩
          rw [hz] at h3
          have HO3:=hide HO2
          have hne1:ad.block ≠ g:=HGA.out (by have:=HIM.out;omega) ad rfl
          have hne2:bd.block ≠ g:=HGB.out (by omega) bd rfl
          have HA2:=hide (HA.out.setCell (b:=g) (fun _ a e => by injection e with e;subst e;exact hne1) j (.int .i64 v))
          have HB2:=hide (HB.out.setCell (b:=g) (fun _ a e => by injection e with e;subst e;exact hne2) j (.int .i64 v))
          have B2:=hide (B0.out.far (p:=⟨g,j,none⟩) hbg (.int .i64 v))
          have HW2:=hide (HW.out.setCell (p:=⟨g,j,none⟩) (Nat.le_refl _) (.int .i64 v))
          generalize wr64 (ys.getD k 0) = yv at *
          generalize wr64 (ts.getD j 0) = tv at *
          have HKL:=hide hkl
          have hi1:IntKind.i64.wrap (20 + lo + i + k) = (j:Int):=by rw [IntKind.wrap_i64];omega
          clear HTS HN HT HO HA HB B0 HW hne1 hne2 hv hje HO2 hkl
          go_wp2_with fail
          have hkl:=HKL.out
          go_roundw
          case rel => exact ⟨k + 1,ts2,by omega,by go_num,HT2,HO3,HA2,HB2,B2,HW2⟩
          case measure => simp [intOf];omega
        · have hkn:k = l:=by omega
          subst hkn
          have HT2:Hid (ts.length = n ∧ LP.of (b - 20) ts = apS S sg lo xs b ys (i + 1) 0):=hide ⟨HT.out.1,HT.out.2.trans HRW2.out⟩
          have him:=HIM.out
          clear HT
          go_wp2_with fail
          go_roundw
          case rel => exact ⟨i + 1,ts,by omega,by go_num,HT2,HO,HA,HB,B0,HW⟩
          case measure => simp [intOf];omega
    · have hin:i = m:=by omega
      subst hin
      go_wp2_with fail
      go_returns
      exact ⟨rfl,ts,HT.out.1,HT.out.2.trans HE.out,HO.out,HW.out⟩
theorem eAlExpand:∀ args w,(callFunc 32 args).run Tryz.prog w = .ok (.enter 32 args) w:=enters (fn:=Tryz.f32) (by kernel_rfl) (by kernel_rfl) (by kernel_rfl)
theorem eAlAddP:∀ args w,(callFunc 57 args).run Tryz.prog w = .ok (.enter 57 args) w:=enters (fn:=Tryz.f57) (by kernel_rfl) (by kernel_rfl) (by kernel_rfl)

def AlExpR (w:World) (k:Nat) (D:LP) (e:Ending) (w':World):Prop:=
  ∃ R d ys,e = .returned (.slice R (40 * k + 1) d) ∧ OwnI w' w.heap.size R (40 * k + 1) d (ys.map wr64) ∧ LP.of (-20 * (k:Int)) ys = D ∧ Below w.heap.size w w'

set_option maxRecDepth 100000 in
set_option maxHeartbeats 8000000 in
theorem alExp_any (N:Nat):∀ (k:Nat) (A:Option Addr) (c:Nat) (pss:List (List Po)) (B:Option Addr) (d:Nat) (cs:List Int) (w:World),SPP w A k c pss → SL w B k d cs → k ≤ 5 → (∀ r ∈ pss,r.length = N ∧ ∀ p ∈ r,elA p) → (∀ x ∈ cs,0 ≤ x ∧ x < N) →
    Calls Tryz.prog 32 #[.slice A k c,.slice B k d] w (AlExpR w k (detR k (pmM pss cs)))
  | 0,A,c,pss,B,d,cs,w,ha,hb,hk,hr,hcs => by
    have HD:Hid (detR 0 (pmM pss cs) = 1):=hide rfl
    have hl0:OwnI (w.alloc (.cells #[.int .i64 1] 3)) w.heap.size (some ⟨w.heap.size,0,none⟩) 1 1 [1]:=OwnI.lit w [1] (Nat.le_refl _) (by simp) rfl rfl rfl
    have HL:=hide hl0
    have HB1:Hid (Below w.heap.size w (w.alloc (.cells #[.int .i64 1] 3))):=hide ((Below.refl _ _).alloc (Nat.le_refl _) _)
    clear ha hb hk hr hcs hl0
    go_enter Tryz.func32,Tryz.ntmps32
    go_wp2_with fail
    go_ret
    rw [HD.out]
    exact ⟨_,_,[1],rfl,HL.out,rfl,HB1.out⟩
  | n + 1, A, c, pss, B, d, cs, w, ha, hb, hk, hr, hcs => by
    have IH:=hide (alExp_any N n)
    obtain ⟨k,hkn⟩:∃ k,n + 1 = k:=⟨_,rfl⟩
    have HTL:=hide (ha.tail_ (by omega))
    have HP0:=hide (ha.at_ (k:=0) (by omega))
    have HAB:=hide (ha.blk (by omega))
    have HLA:=hide ha.len
    have HLB:=hide hb.il.len
    have hsm:=hb.il.small
    obtain ⟨p0,prest,hpe⟩:∃ p0 prest,pss = p0 :: prest:=by
      cases pss with
      | nil => have:=ha.len;simp at this
      | cons p q => exact ⟨p,q,rfl⟩
    subst hpe
    obtain ⟨hp0l,hp0e⟩:=hr p0 (by simp)
    have HRR:Hid (∀ r ∈ prest,r.length = N ∧ ∀ p ∈ r,elA p):=hide (fun r h => hr r (by simp [h]))
    have HPE:=hide hp0e
    have HCS:=hide hcs
    have HB:=hide hb
    have HFULL:Hid (pmE (p0 :: prest) cs k n = detR k (pmM (p0 :: prest) cs)):=hide (by rw [← hkn];exact pmE_full _ _ _)
    have HSTEP:Hid (∀ j,j < k → ∀ (lo:Int) (xs:List Int),p0.getD (cs.getD j 0).toNat (0,[]) = (lo,xs) → ∀ D,D = detR n (pmM prest (without cs j)) → pmE (p0 :: prest) cs (j + 1) n = pmE (p0 :: prest) cs j n + LP.term 0 (CR.sgR Int j) * (LP.of lo xs * D)):=hide (fun j hj lo xs h D hD => pmE_step p0 prest (by rw [HLB.out];omega) h n D hD)
    rw [hkn] at HTL HLA HLB HB hsm hk ⊢
    rw [show k - 1 = n by omega,show (p0 :: prest).drop 1 = prest from rfl] at HTL
    rw [show (p0 :: prest).getD 0 [] = p0 from rfl] at HP0
    clear ha hb hr hcs hp0e
    obtain ⟨ad,RB,rm,rd,hA,hc0,hp0⟩:=HP0.out
    subst hA
    rw [show ad.add 0 = ad by unfold Addr.add;simp] at hc0
    have hrm:rm = N:=by rw [← hp0.len];exact hp0l
    subst hrm
    have HC0:=hide hc0
    have HP:=hide hp0
    have hadl:ad.block < w.heap.size:=HAB.out ad rfl
    clear hc0 hp0 HP0 HAB hp0l
    obtain ⟨T,hT⟩:∃ T,detR k (pmM (p0 :: prest) cs) = T:=⟨_,rfl⟩
    rw [hT] at HFULL ⊢
    clear hT
    obtain ⟨L,hL⟩:∃ L:Nat,40 * k + 1 = L:=⟨_,rfl⟩
    have hLe:40 * (k:Int) + 1 = (L:Int):=by omega
    have hk0:((k:Int) == 0) = false:=by simp;omega
    have hLs:L ≤ 1000:=by omega
    obtain ⟨i0,hi0,hz0,hz1,hz2⟩:=info_parts int_info
    have HI0:=hide hi0
    have HZ0:=hide hz0
    have HZ1:=hide hz1
    have HZ2:=hide hz2
    have HE0:Hid (pmE (p0 :: prest) cs 0 n = 0):=hide rfl
    have HRE:Hid (LP.of (-20 * (k:Int)) (List.replicate L 0) = 0):=hide (LP.of_repl _ _)
    have HRW:Hid ((List.replicate L (0:Int)).map wr64 = List.replicate L 0):=hide (by rw [List.map_replicate];rfl)
    have HN:=hide hkn
    have HK4:=hide hk
    clear hi0 hz0 hz1 hz2 hkn
    unfold AlExpR
    rw [hL]
    go_enter Tryz.func32,Tryz.ntmps32
    go_wp2_with (at_make;refine wpList_make_full _ rfl _ _ 23 rfl w.heap.size 3 i0 (.int .i64 0) 1 Tryz.underlying23 HI0.out HZ0.out HZ1.out .i64 .i64 _ _ L rfl rfl (by omega) (by omega) (by rw [HZ2.out];omega) (by unfold maxLen;omega) (Nat.le_refl _) ?_;intro w1 hown1 hg1)
    have hB1:Below w.heap.size w w1:=(Below.refl _ _).grown hg1 (Nat.le_refl _) (by intro k hk;cases hk)
    have hw1:=OwnI.zero (z:=#[]) hown1 (by omega)
    rw [← HRW.out] at hw1
    have HO:=hide hw1
    have HW:=hide hB1
    clear hown1 hg1 hw1 hB1
    go_loopw [6,21] (fun sv jv wx => ∃ (j:Nat) (ts:List Int),j ≤ k ∧ jv = .int .i64 j ∧ sv = .int .i64 (CR.sgR Int j) ∧ Hid (LP.of (-20 * (k:Int)) ts = pmE (p0 :: prest) cs j n) ∧ Hid (OwnI wx w.heap.size (some ⟨w.heap.size,0,none⟩) L L (ts.map wr64)) ∧ Hid (Below w.heap.size w wx)) (fun _ jv _ => k - (intOf jv).toNat)
    case atStart => exact ⟨0,_,Nat.zero_le _,rfl,rfl,hide (HRE.out.trans HE0.out.symm),HO,HW⟩
    case round =>
      clear HO HW HRE HE0 HRW
      obtain ⟨j,ts,hj,rfl,rfl,HT,HO,HW⟩:=hrel
      by_cases hjk:j < k
      · obtain ⟨bd,hBe,hcl⟩:=(HB.out.below HW.out).il.at_ hjk
        subst hBe
        have HX:=hide (HCS.out _ (LP.getD_mem' (cs:=cs) (i:=j) (by rw [HLB.out];exact hjk)))
        have HST:=hide (HSTEP.out j hjk)
        obtain ⟨X,hX⟩:∃ X:Nat,cs.getD j 0 = (X:Int):=⟨(cs.getD j 0).toNat,by have:=HX.out;omega⟩
        rw [hX] at hcl HX HST
        have hXN:X < rm:=by have:=HX.out;omega
        rw [Int.toNat_natCast] at HST
        obtain ⟨rb,PB,pn,pc,hrb,hq0,hq1,hps,hwf⟩:=HP.out.at_ hXN
        subst hrb
        have HPX:Hid (elA (p0.getD X (0,[]))):=hide (HPE.out _ (by
          have:X < p0.length:=by rw [HP.out.len];exact hXN
          rw [List.getD_eq_getElem?_getD,List.getElem?_eq_getElem this]
          exact List.getElem_mem _))
        obtain ⟨lo,xs,hpo⟩:∃ lo xs,p0.getD X (0,[]) = (lo,xs):=⟨_,_,rfl⟩
        rw [hpo] at hq0 hps hwf HPX
        have HST2:=hide (HST.out lo xs hpo)
        dsimp only at hq0 hps hwf
        obtain ⟨hco,hlo1,hlo2⟩:=HPX.out
        dsimp only at hlo1 hlo2 hco
        have HCO:=hide hco
        have HPS:=hide hps
        have HQ0:=hide hq0
        have HQ1:=hide hq1
        have HJK:=hide hjk
        have hpn:xs.length = pn:=hps.il.len
        rw [hpn] at hlo2
        have HJ:=hide hj
        have hw1:IntKind.i64.wrap ((j:Int) + 1) = (j:Int) + 1:=by rw [IntKind.wrap_i64];omega
        clear hX HX HST HPX hpo hq0 hq1 hps hwf hco hpn hj
        go_wp2_with fail
        refine (clone_any (some bd) k d cs _ (HB.out.below HW.out).il (fun h => by cases h)).mono ?_
        rintro e w2 ⟨E,en,ec,rfl,hown,hb2⟩
        have hen:k = en:=by rw [← hown.len];exact HLB.out.symm
        subst hen
        obtain ⟨ge,hge,hEe⟩:∃ ge,wr.heap.size ≤ ge ∧ E = some ⟨ge,0,none⟩:=by
          rcases hown.own.2 with ⟨_,h0⟩ | ⟨g',cap,cur,hv,hg',_⟩
          · omega
          · injection hv with hv
            exact ⟨g',hg',hv⟩
        subst hEe
        have hwr:=HW.out.size
        have hg0:w.heap.size < wr.heap.size:=(HO.out.lt _ rfl).2
        have HO2:=hide ((KeepT.below hb2).ownI HO.out)
        have HW2:=hide (HW.out.trans (hb2.mono hwr))
        have hs2:=hb2.size
        have HOWN:=hide hown
        have HHG:=hide hge
        have HHS:=hide hwr
        clear HO HW hown hb2 hcl
        go_wp2_with fail
        refine (delete_any wr.heap.size ge k ec j cs _ HOWN.out hjk).mono ?_
        rintro e w3 ⟨rfl,hown3,hg3⟩
        have HO3:=hide (HO2.out.kept hg3 (.inr (by simp [Value.ownBlock];omega)))
        have HW3:=hide (HW2.out.grown hg3 (by have:=HW2.out.size;omega) (fun q hq => by injection hq with hq;omega))
        have hs3:=hg3.size
        have hg3:w.heap.size < w3.heap.size:=by omega
        have hk1:k - 1 = n:=by have:=HN.out;omega
        rw [hk1] at hown3 ⊢
        have HOW3:=hide hown3.sl
        clear HOWN HO2 HW2 hown3 hs2 hs3 hge hwr hk1 hg0 HHG HHS
        obtain ⟨sg,hsg⟩:∃ sg,CR.sgR Int j = sg:=⟨_,rfl⟩
        obtain ⟨sg2,hsg2⟩:∃ sg,CR.sgR Int (j + 1) = sg:=⟨_,rfl⟩
        have HSG:Hid (sg = 1 ∨ sg = -1):=hide (by rw [← hsg];exact sgI_cases j)
        have HSG2:Hid (IntKind.i64.wrap (-sg) = sg2):=hide (by
          rw [← hsg2,CR.sgR_succ,hsg,IntKind.wrap_i64]
          have:=HSG.out
          omega)
        rw [hsg] at HST2 ⊢
        have HSN:=hide hsg2
        clear hsg hsg2
        go_upto_region 9 with fail
        have hpl:0 < pn → ∀ a,PB = some a → a.block ≠ w.heap.size:=fun h a e => by have:=HPS.out.inside h a e;omega
        obtain ⟨g3,o3,h3⟩:=cell_at_var HQ0.out
        have hq0:=HQ0.out
        have hq1:=HQ1.out
        rw [h3] at hq0 hq1
        have hlt3:g3 < w.heap.size:=cell_lt hq0
        have hxX:X < rm:=hXN
        have hW3s:=HW3.out.size
        refine wp_region_T (S:=fun x => Below w3.heap.size w3 x) 12 (by kernel_rfl) (Below.refl _ _).drew (fun hS => ?_)
        have hto:∀ x,Below w3.heap.size w3 x → Below w.heap.size w x:=fun x hx => HW3.out.trans (hx.mono hW3s)
        refine wpT_tk 0 (v:=.slice (some ⟨w.heap.size,0,none⟩) L L) rfl (by kernel_rfl) (by kernel_rfl) (by kernel_rfl) (by kernel_rfl) (yi rfl fun x hx => gives_move (.inl rfl) rfl) hS ?_
        go_frame
        refine wpT_tk 1 (v:=.int .i64 sg) rfl (by kernel_rfl) (by kernel_rfl) (by kernel_rfl) (by kernel_rfl) (yi rfl fun x hx => gives_move (.inl rfl) rfl) hS ?_
        go_frame
        refine wpT_tk 2 (v:=.slice (some ad) k c) rfl (by kernel_rfl) (by kernel_rfl) (by kernel_rfl) (by kernel_rfl) (yi rfl fun x hx => gives_move (.inl rfl) rfl) hS ?_
        go_frame
        refine wpT_tk 3 (v:=.pointer (some ad)) rfl (by kernel_rfl) (by kernel_rfl) (by kernel_rfl) (by kernel_rfl) (yi rfl fun x hx => gives_index0 rfl Tryz.underlying45 (fun w => by kernel_rfl) rfl rfl (by omega)) hS ?_
        go_frame
        refine wpT_tk 4 (v:=.slice (some rb) rm rd) rfl (by kernel_rfl) (by kernel_rfl) (by kernel_rfl) (by kernel_rfl) (yi rfl fun x hx => gives_load1 rfl (by kernel_rfl) rfl (((hto x hx).cell (p:=ad) hadl).trans HC0.out)) hS ?_
        go_frame
        refine wpT_tk 5 (v:=.int .i64 X) rfl (by kernel_rfl) (by kernel_rfl) (by kernel_rfl) (by kernel_rfl) (yi rfl fun x hx => gives_move (.inl rfl) rfl) hS ?_
        go_frame
        refine wpT_tk 6 (v:=.pointer (some (rb.add (X * 2)))) rfl (by kernel_rfl) (by kernel_rfl) (by kernel_rfl) (by kernel_rfl) (yi rfl fun x hx => gives_indexSlice rfl Tryz.underlying67 (fun w => by kernel_rfl) rfl rfl hxX) hS ?_
        go_frame
        rw [h3]
        refine wpT_tk 7 (v:=PV lo PB pn pc) rfl (by kernel_rfl) (by kernel_rfl) (by kernel_rfl) (by kernel_rfl) (yi rfl fun x hx => gives_loadMid (cs:=[.int .i64 lo,.slice PB pn pc]) rfl rfl (rangeAt_two (((hto x hx).cell (p:=⟨g3,o3,none⟩) hlt3).trans hq0) (((hto x hx).cell (p:=⟨g3,o3 + 1,none⟩) hlt3).trans hq1)) Tryz.underlying26 (by kernel_rfl) (by kernel_rfl)) hS ?_
        go_frame
        refine wpT_tk 8 (v:=.slice (some ad) k c) rfl (by kernel_rfl) (by kernel_rfl) (by kernel_rfl) (by kernel_rfl) (yi rfl fun x hx => gives_move (.inl rfl) rfl) hS ?_
        go_frame
        refine wpT_tk 9 (v:=.slice (cutA (some ad) 1 c) (k - 1) (c - 1)) rfl (by kernel_rfl) (by kernel_rfl) (by kernel_rfl) (by kernel_rfl) (yi rfl fun x hx => gives_cut_l rfl Tryz.underlying45 (by kernel_rfl) rfl rfl (by omega)) hS ?_
        go_frame
        refine wpT_tk 10 (v:=.slice (some ⟨ge,0,none⟩) n ec) rfl (by kernel_rfl) (by kernel_rfl) (by kernel_rfl) (by kernel_rfl) (yi rfl fun x hx => gives_move (.inl rfl) rfl) hS ?_
        go_frame
        have hk1:k - 1 = n:=by have:=HN.out;omega
        refine wpT_1 11 rfl (by kernel_rfl) ?_
        rw [hk1]
        have hWd:=hto _ hS
        refine wp_call [.slice (cutA (some ad) 1 c) n (c - 1),.slice (some ⟨ge,0,none⟩) n ec] rfl rfl eAlExpand rfl ((IH.out (cutA (some ad) 1 c) (c - 1) prest (some ⟨ge,0,none⟩) ec (without cs j) w3.drew (HTL.out.below hWd) (HOW3.out.below hS) (by have:=HK4.out;omega) HRR.out (fun x hx => HCS.out x (without_mem hx))).mono ?_)
        rintro e w4 ⟨R,rd4,ys,rfl,hown4,hlp4,hb4⟩
        have hS4:Below w3.heap.size w3 w4:=hS.trans (hb4.mono hS.size)
        refine ⟨_,rfl,fun _ => hS4,?_⟩
        go_frame
        refine wpT_1 12 rfl (by kernel_rfl) ?_
        have hRb:0 < 40 * n + 1 → ∀ a,R = some a → a.block ≠ w.heap.size:=fun _ a e => by
          rcases hown4.own.2 with ⟨_,h0⟩ | ⟨g',cap,cur,hv,hg',_⟩
          · omega
          · injection hv with hv
            rw [e] at hv
            injection hv with hv
            rw [hv]
            show g' ≠ w.heap.size
            have h1:w3.drew.heap.size ≤ g':=hg'
            have h2:w3.drew.heap.size = w3.heap.size:=rfl
            omega
        have CP:=alAddP_any w.heap.size w.heap.size L L ts sg lo PB pn pc xs R (40 * n + 1) rd4 ys w4 (-20 * (n:Int)) ((KeepT.below hS4).ownI HO3.out) (HPS.out.below (hto _ hS4)) hown4.sl HSG.out HCO.out hlo1 hlo2 (by have:=HN.out;omega) (by omega) hpl hRb
        rw [show -20 * (n:Int) - 20 = -20 * (k:Int) by have:=HN.out;omega] at CP
        refine wp_call [.slice (some ⟨w.heap.size,0,none⟩) L L,.int .i64 sg,PV lo PB pn pc,.slice R (40 * n + 1) rd4] rfl rfl eAlAddP rfl (CP.mono ?_)
        rintro e w5 ⟨rfl,ts2,hl2,hlp2,hown5,hb5⟩
        refine ⟨_,rfl,fun h => absurd rfl h,?_⟩
        go_frame
        refine wpT_done (by kernel_rfl) (noPanic_mk ?_) _
        have HT2:Hid (LP.of (-20 * (k:Int)) ts2 = pmE (p0 :: prest) cs (j + 1) n):=hide (by rw [hlp2,HT.out,HST2.out _ hlp4])
        have HO5:=hide hown5
        have HW5:=hide ((hto _ hS4).trans hb5)
        have hjk:=HJK.out
        have hsg2:=HSG2.out
        have HEND:=HSN.out
        clear HT HO3 HW3 hlp2 hown5 hb5 hS hS4 hto hWd hown4 hlp4 hb4 hRb hpl CP hq0 hq1 h3 HOW3 HST2
        go_wp2_with fail
        go_roundw
        case rel => exact ⟨j + 1,ts2,by omega,by go_num,by rw [← HEND],HT2,HO5,HW5⟩
        case measure => simp [intOf];omega
      · have hje:j = k:=by omega
        subst hje
        go_wp2_with fail
        go_ret
        exact ⟨_,_,ts,rfl,HO.out,HT.out.trans HFULL.out,HW.out⟩
end Go.Proofs.YtndgffiihbdppaaGreatDoor
