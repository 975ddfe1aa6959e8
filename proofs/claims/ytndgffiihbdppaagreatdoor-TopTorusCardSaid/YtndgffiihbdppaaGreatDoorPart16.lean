/- Several texts in one. -/
import Derived.Test.YtndgffiihbdppaaGreatDoorPart15
import Derived.Test.YtndgffiihbdppaaGreatDoorPart12
namespace Go.Proofs.YtndgffiihbdppaaGreatDoor
set_option linter.unusedVariables false
set_option linter.unusedSimpArgs false
open Go.RowKit

theorem coefficients_b (la:Int) (A:Option Addr) (n c:Nat) (w:World) :
    Calls Tryz.prog 29 #[PV la A n c] w fun e w' => ∃ b,e = .returned (.func (.func 51) #[] #[.pointer (some ⟨b,0,none⟩)]) ∧ w.heap.size ≤ b ∧ Blk w' b 26 #[.int .i64 la,.slice A n c] ∧ Below w.heap.size w w':=
  (coefficients_any la A n c w).mono fun e w' ⟨he,hw⟩ => ⟨w.heap.size,he,Nat.le_refl _,by rw [hw];exact Blk.new _ _ _,by rw [hw];exact (Below.refl _ _).alloc (Nat.le_refl _) _⟩
theorem endOf_b (la:Int) (A:Option Addr) (n c:Nat) (w:World) (h1:la.natAbs ≤ 1000000) (h2:n ≤ 1000000) :
    Calls Tryz.prog 52 #[PV la A n c] w fun e w' => e = .returned (.int .i64 (la + n)) ∧ Below w.heap.size w w':=
  (endOf_any la A n c w h1 h2).mono fun e w' ⟨he,hw⟩ => ⟨he,by rw [hw];exact (Below.refl _ _).alloc (Nat.le_refl _) _⟩
theorem eCombX:∀ args w,(callFunc 74 args).run Tryz.prog w = .ok (.enter 74 args) w:=enters (fn:=Tryz.f74) (by kernel_rfl) (by kernel_rfl) (by kernel_rfl)

section
variable {la lb:Int} {A B:Option Addr} {n c m d:Nat} {xs ys:List Int}
set_option maxRecDepth 100000 in
set_option maxHeartbeats 4000000 in
theorem combX_any {fo:FuncId} (op:Int → Int → Int) (hent:∀ args w,(callFunc fo args).run Tryz.prog w = .ok (.enter fo args) w)
    (hop:∀ (x y:Int) (w:World),x.natAbs ≤ 100000000 → y.natAbs ≤ 100000000 → Calls Tryz.prog fo #[.int .i64 x,.int .i64 y] w fun e w' => e = .returned (.int .i64 (op x y)) ∧ w = w')
    (bo b9 b10 ca cb:Nat) (w:World) (ha:SL w A n c xs) (hb:SL w B m d ys) (h1:la.natAbs ≤ 1000000) (h2:n ≤ 1000000) (h3:lb.natAbs ≤ 1000000) (h4:m ≤ 1000000) (hx:∀ k,(LP.co (LP.of la xs) k).natAbs ≤ 100000000) (hy:∀ k,(LP.co (LP.of lb ys) k).natAbs ≤ 100000000)
    (ko:Blk w bo 22 #[.func (.func fo) #[] #[]]) (k9:Blk w b9 62 #[.func (.func 51) #[] #[.pointer (some ⟨ca,0,none⟩)]]) (k10:Blk w b10 62 #[.func (.func 51) #[] #[.pointer (some ⟨cb,0,none⟩)]])
    (ka:Blk w ca 26 #[.int .i64 la,.slice A n c]) (kb:Blk w cb 26 #[.int .i64 lb,.slice B m d]) (e:Int) (he:e.natAbs ≤ 10000000) :
    Calls Tryz.prog 74 #[.int .i64 e,.pointer (some ⟨bo,0,none⟩),.pointer (some ⟨b9,0,none⟩),.pointer (some ⟨b10,0,none⟩)] w fun r w' => r = .returned (.int .i64 (op (LP.co (LP.of la xs) e) (LP.co (LP.of lb ys) e))) ∧ Below w.heap.size w w':=by
  have HA:=hide ha
  have HB:=hide hb
  have KO:=hide ko
  have K9:=hide k9
  have K10:=hide k10
  have KA:=hide ka
  have KB:=hide kb
  have HX:=hide (hx e)
  have HY:=hide (hy e)
  have HOP:=hide hop
  have HW:=hide (Below.refl w.heap.size w)
  clear ha hb ko k9 k10 ka kb hx hy hop
  go_enter Tryz.func74,Tryz.ntmps74
  go_upto_region 1 with fail
  refine wp_region_noPanic ?_
  refine wp_region_held_drew (S:=fun x => Below w.heap.size w x) (by kernel_rfl) (Below.refl _ _).drew (fun hS0 => ?_)
  refine wpAnyH_tk 0 (v:=.func (.func fo) #[] #[]) rfl (by kernel_rfl) (by kernel_rfl) (by kernel_rfl) (yi rfl fun w' hw' => gives_load1 rfl (by kernel_rfl) rfl (by have h:=(KO.out.below hw' KO.out.lt).cell 0;simpa using h)) hS0 ?_
  go_frame
  refine wpAnyH_tk 1 (v:=.func (.func 51) #[] #[.pointer (some ⟨ca,0,none⟩)]) rfl (by kernel_rfl) (by kernel_rfl) (by kernel_rfl) (yi rfl fun w' hw' => gives_load1 rfl (by kernel_rfl) rfl (by have h:=(K9.out.below hw' K9.out.lt).cell 0;simpa using h)) hS0 ?_
  go_frame
  refine wpAnyH_tk 2 (v:=.int .i64 e) rfl (by kernel_rfl) (by kernel_rfl) (by kernel_rfl) (yi rfl fun w' hw' => gives_move (.inl rfl) rfl) hS0 ?_
  go_frame
  refine wpAnyH_tk 4 (v:=.func (.func 51) #[] #[.pointer (some ⟨cb,0,none⟩)]) rfl (by kernel_rfl) (by kernel_rfl) (by kernel_rfl) (yi rfl fun w' hw' => gives_load1 rfl (by kernel_rfl) rfl (by have h:=(K10.out.below hw' K10.out.lt).cell 0;simpa using h)) hS0 ?_
  go_frame
  refine wpAnyH_tk 5 (v:=.int .i64 e) rfl (by kernel_rfl) (by kernel_rfl) (by kernel_rfl) (yi rfl fun w' hw' => gives_move (.inl rfl) rfl) hS0 ?_
  go_frame
  refine wpAnyH_1 3 rfl (by kernel_rfl) ?_
  refine wp_callV [.int .i64 e] rfl rfl eCoeff (cap:=[.pointer (some ⟨ca,0,none⟩)]) rfl ((coeff_any la A n c xs ca e _ (HA.out.below hS0) (KA.out.below hS0 KA.out.lt) h1 h2 (by omega)).mono ?_)
  rintro r v1 ⟨rfl,hb⟩
  have hS1:Below w.heap.size w v1:=hS0.trans (hb.mono hS0.size)
  refine ⟨_,rfl,hS1,?_⟩
  clear hb
  go_frame
  refine wpAnyH_1 6 rfl (by kernel_rfl) ?_
  refine wp_callV [.int .i64 e] rfl rfl eCoeff (cap:=[.pointer (some ⟨cb,0,none⟩)]) rfl ((coeff_any lb B m d ys cb e _ (HB.out.below hS1) (KB.out.below hS1 KB.out.lt) h3 h4 (by omega)).mono ?_)
  rintro r v2 ⟨rfl,hb⟩
  have hS2:Below w.heap.size w v2:=hS1.trans (hb.mono hS1.size)
  refine ⟨_,rfl,hS2,?_⟩
  clear hb
  go_frame
  refine wpAnyH_1 7 rfl (by kernel_rfl) ?_
  refine wp_callV [.int .i64 (LP.co (LP.of la xs) e),.int .i64 (LP.co (LP.of lb ys) e)] rfl rfl hent (cap:=[]) rfl ((HOP.out _ _ _ HX.out HY.out).mono ?_)
  rintro r v3 ⟨rfl,rfl⟩
  refine ⟨_,rfl,hS2,?_⟩
  go_frame
  refine wpAnyH_tk 8 (v:=.int .i64 (op (LP.co (LP.of la xs) e) (LP.co (LP.of lb ys) e))) rfl (by kernel_rfl) (by kernel_rfl) (by kernel_rfl) (yi rfl fun w' hw' => gives_move (.inr rfl) rfl) hS2 ?_
  go_frame
  refine wpAnyH_done (by kernel_rfl) (noPanic_mk ?_) _
  have HS2:=hide hS2
  clear hS0 hS1 hS2
  obtain ⟨z,hz⟩:∃ z,op (LP.co (LP.of la xs) e) (LP.co (LP.of lb ys) e) = z:=⟨_,rfl⟩
  have HZ:=hide hz
  rw [hz]
  clear hz
  go_wp2_with fail
  go_ret
  rw [HZ.out]
  exact ⟨rfl,HS2.out⟩
end

theorem LP.co_pfl {lo:Int} {cs:List Int} (h:LP.pfl lo cs = 0) (k:Int):(LP.co (LP.of lo cs) k).natAbs ≤ 100000000:=LP.co_of_le (LP.pfl_zero h).2.2.2.2 k
set_option maxRecDepth 100000 in
set_option maxHeartbeats 16000000 in
theorem combine_any {fo:FuncId} (op:Int → Int → Int) (hent:∀ args w,(callFunc fo args).run Tryz.prog w = .ok (.enter fo args) w)
    (hop:∀ (x y:Int) (w:World),x.natAbs ≤ 100000000 → y.natAbs ≤ 100000000 → Calls Tryz.prog fo #[.int .i64 x,.int .i64 y] w fun e w' => e = .returned (.int .i64 (op x y)) ∧ w = w')
    (la:Int) (A:Option Addr) (n c:Nat) (xs:List Int) (lb:Int) (B:Option Addr) (m d:Nat) (ys:List Int) (z:LP) (hz:∀ k,LP.co z k = op (LP.co (LP.of la xs) k) (LP.co (LP.of lb ys) k)) (h00:op 0 0 = 0) (w:World) (ha:SL w A n c xs) (hb:SL w B m d ys) :
    Calls Tryz.prog 58 #[PV la A n c,PV lb B m d,.func (.func fo) #[] #[]] w (GivesPE w (LP.two2 la xs lb ys (LP.fit z))):=by
  have hla:=ha.il.len
  have hlb:=hb.il.len
  have hbw:Below w.heap.size w ((((w.alloc (.cells #[.int .i64 la,.slice A n c] 26)).alloc (.cells #[.int .i64 lb,.slice B m d] 26)).alloc (.cells #[.func (.func fo) #[] #[]] 22)).alloc (.cells #[.int .i64 0,.slice none 0 0] 26)):=((((Below.refl _ _).alloc (Nat.le_refl _) _).alloc (by simp) _).alloc (by simp;omega) _).alloc (by simp;omega) _
  have hA:=(((Blk.new w 26 #[.int .i64 la,.slice A n c]).alloc (.cells #[.int .i64 lb,.slice B m d] 26)).alloc (.cells #[.func (.func fo) #[] #[]] 22)).alloc (.cells #[.int .i64 0,.slice none 0 0] 26)
  have hB:=((Blk.new (w.alloc (.cells #[.int .i64 la,.slice A n c] 26)) 26 #[.int .i64 lb,.slice B m d]).alloc (.cells #[.func (.func fo) #[] #[]] 22)).alloc (.cells #[.int .i64 0,.slice none 0 0] 26)
  have hO:=(Blk.new ((w.alloc (.cells #[.int .i64 la,.slice A n c] 26)).alloc (.cells #[.int .i64 lb,.slice B m d] 26)) 22 #[.func (.func fo) #[] #[]]).alloc (.cells #[.int .i64 0,.slice none 0 0] 26)
  have hR:=Blk.new (((w.alloc (.cells #[.int .i64 la,.slice A n c] 26)).alloc (.cells #[.int .i64 lb,.slice B m d] 26)).alloc (.cells #[.func (.func fo) #[] #[]] 22)) 26 #[.int .i64 0,.slice none 0 0]
  simp only [World.size_alloc] at hB hO hR
  have HA:=hide (ha.below hbw)
  have HB:=hide (hb.below hbw)
  have HW:=hide hbw
  have HOP:=hide hop
  have HZ:=hide hz
  clear ha hb hbw hop hz
  have BA:=hide hA
  have BB:=hide hB
  have BO:=hide hO
  have BR:=hide hR
  clear hA hB hO hR
  obtain ⟨T,hT⟩:∃ T,LP.two2 la xs lb ys (LP.fit z) = T:=⟨_,rfl⟩
  have HT:=hide hT
  rw [hT]
  clear hT
  go_enter Tryz.func58,Tryz.ntmps58
  go_upto_region 1 with fail
  obtain ⟨w0,hw0⟩:∃ x,((((w.alloc (.cells #[.int .i64 la,.slice A n c] 26)).alloc (.cells #[.int .i64 lb,.slice B m d] 26)).alloc (.cells #[.func (.func fo) #[] #[]] 22)).alloc (.cells #[.int .i64 0,.slice none 0 0] 26)) = x:=⟨_,rfl⟩
  rw [hw0] at HA HB HW BA BB BO BR ⊢
  clear hw0
  have hq0:=BA.out.cell 0
  have hq1:=BA.out.cell 1
  have hr0:=BB.out.cell 0
  have hr1:=BB.out.cell 1
  simp at hq0 hq1 hr0 hr1
  go_wp2_with fail
  refine (checkBoth_any la A n c xs lb B m d ys _ HA.out HB.out).mono ?_
  rintro e w1 ⟨rfl,hb⟩
  replace HA:=hide (HA.out.below hb)
  replace HB:=hide (HB.out.below hb)
  replace HW:=hide (HW.out.trans (hb.mono HW.out.size))
  replace BA:=hide (BA.out.below hb BA.out.lt)
  replace BB:=hide (BB.out.below hb BB.out.lt)
  replace BO:=hide (BO.out.below hb BO.out.lt)
  replace BR:=hide (BR.out.below hb BR.out.lt)
  clear hb hq0 hq1 hr0 hr1
  obtain ⟨p,hp⟩:∃ p,LP.pfl2 la xs lb ys = p:=⟨_,rfl⟩
  rw [hp]
  have HP:=hide hp
  clear hp
  by_cases hp0:p = 0
  case neg =>
    have HTE:Hid (T = (p,0,[])):=hide (by
      rw [← HT.out,← HP.out]
      have hp2:LP.pfl2 la xs lb ys ≠ 0:=by rw [HP.out];exact hp0
      unfold LP.two2
      unfold LP.pfl2 at hp2 ⊢
      by_cases h:LP.pfl la xs = 0
      · rw [if_pos h,if_pos h] at *;rw [if_neg hp2]
      · rw [if_neg h,if_neg h])
    have hne:(p != 0) = true:=by simpa using hp0
    have hf0:=BR.out.frozen 0
    have hf1:=BR.out.frozen 1
    have hr0:=BR.out.cell 0
    have hr1:=BR.out.cell 1
    simp at hr0 hr1
    have hlt:=BR.out.lt
    clear hp0
    go_wp2_with fail
    refine bodyPost_ret (results_pe rfl _ rfl rfl ((BR.out.set_ 0 (.int .i64 0)).set_ 1 (.slice none 0 0))) rfl ?_
    rw [HTE.out]
    refine ⟨none,0,0,rfl,SL.nil_ _,fun h => absurd h (by omega),?_⟩
    exact (HW.out.setCell (p:=⟨w.heap.size + 1 + 1 + 1,0,none⟩) (by show w.heap.size ≤ w.heap.size + 1 + 1 + 1;omega) _).setCell (p:=⟨w.heap.size + 1 + 1 + 1,1,none⟩) (by show w.heap.size ≤ w.heap.size + 1 + 1 + 1;omega) _
  subst hp0
  have hpf:LP.pfl la xs = 0 ∧ LP.pfl lb ys = 0:=by
    have h:=HP.out
    unfold LP.pfl2 at h
    by_cases h1:LP.pfl la xs = 0
    · rw [if_pos h1] at h;exact ⟨h1,h⟩
    · rw [if_neg h1] at h;exact absurd h h1
  have HTE:Hid (T = LP.fit z):=hide (by
    rw [← HT.out]
    unfold LP.two2
    rw [if_pos hpf.1,if_pos hpf.2])
  obtain ⟨pa1,pa2,pa3,_,_⟩:=LP.pfl_zero hpf.1
  obtain ⟨pb1,pb2,pb3,_,_⟩:=LP.pfl_zero hpf.2
  have HXA:=hide (LP.co_pfl hpf.1)
  have HXB:=hide (LP.co_pfl hpf.2)
  clear hpf HP HT
  rw [hla] at pa1
  rw [hlb] at pb1
  go_upto_region 4 with fail
  obtain ⟨wr,hwr⟩:∃ wr,w1 = wr:=⟨_,rfl⟩
  rw [hwr] at HA HB HW BA BB BO BR ⊢
  clear hwr
  have LA:=hide BA.out.lt
  have LB:=hide BB.out.lt
  go_cut [9,10,18,19,20,21] (fun v9 v10 _ _ _ _ wx => ∃ b9 b10 ca cb,v9 = .pointer (some ⟨b9,0,none⟩) ∧ v10 = .pointer (some ⟨b10,0,none⟩) ∧ Blk wx b9 62 #[.func (.func 51) #[] #[.pointer (some ⟨ca,0,none⟩)]] ∧ Blk wx b10 62 #[.func (.func 51) #[] #[.pointer (some ⟨cb,0,none⟩)]] ∧ Blk wx ca 26 #[.int .i64 la,.slice A n c] ∧ Blk wx cb 26 #[.int .i64 lb,.slice B m d] ∧ Below wr.heap.size wr wx)
  case first =>
    refine wp_region_noPanic ?_
    refine wp_region_held_drew (S:=fun x => Below wr.heap.size wr x) (by kernel_rfl) (Below.refl _ _).drew (fun hS0 => ?_)
    refine wpAnyH_tk 0 (v:=PV la A n c) rfl (by kernel_rfl) (by kernel_rfl) (by kernel_rfl) (yi rfl fun x hx => gives_loadRow rfl rfl (BA.out.below hx LA.out) Tryz.underlying26 (by kernel_rfl) (by kernel_rfl)) hS0 ?_
    go_frame
    refine wpAnyH_tk 2 (v:=PV lb B m d) rfl (by kernel_rfl) (by kernel_rfl) (by kernel_rfl) (yi rfl fun x hx => gives_loadRow rfl rfl (BB.out.below hx LB.out) Tryz.underlying26 (by kernel_rfl) (by kernel_rfl)) hS0 ?_
    go_frame
    refine wpAnyH_3 1 4 5 rfl rfl rfl (by kernel_rfl) ?_ ?_ ?_
    · refine wp_call [PV la A n c] rfl rfl eCoeffs rfl ((coefficients_b la A n c _).mono ?_)
      rintro e v1 ⟨ca,rfl,hge,hka,hb⟩
      have hS1:Below wr.heap.size wr v1:=hS0.trans (hb.mono hS0.size)
      have g_ca:wr.heap.size ≤ ca:=by have:=hS0.size;omega
      have KA:=hide hka
      clear hb hka
      refine ⟨_,rfl,hS1,?_⟩
      go_frame
      refine wpAnyH_3 3 4 5 rfl rfl rfl (by kernel_rfl) ?_ ?_ ?_
      · refine wp_call [PV lb B m d] rfl rfl eCoeffs rfl ((coefficients_b lb B m d _).mono ?_)
        rintro e v2 ⟨cb,rfl,hge,hkb,hb⟩
        have hS2:Below wr.heap.size wr v2:=hS1.trans (hb.mono hS1.size)
        have g_cb:wr.heap.size ≤ cb:=by have:=hS1.size;omega
        have n_ca_cb:ca < cb:=by have:=KA.out.lt;omega
        replace KA:=hide (KA.out.below hb KA.out.lt)
        have KB:=hide hkb
        clear hb hkb
        refine ⟨_,rfl,hS2,?_⟩
        go_frame
        refine wpAnyH_2 4 5 rfl rfl (by kernel_rfl) ?_ ?_
        · have hS3:Below wr.heap.size wr (v2.alloc (.cells #[.nilFunc] 62)):=hS2.alloc hS2.size _
          have hb:Below v2.heap.size v2 (v2.alloc (.cells #[.nilFunc] 62)):=(Below.refl _ _).alloc (Nat.le_refl _) _
          have g_b9:wr.heap.size ≤ v2.heap.size:=hS2.size
          have n_ca_b9:ca < v2.heap.size:=KA.out.lt
          have n_cb_b9:cb < v2.heap.size:=KB.out.lt
          replace KA:=hide (KA.out.below hb KA.out.lt)
          replace KB:=hide (KB.out.below hb KB.out.lt)
          have K9:=hide (Blk.new v2 62 #[.nilFunc])
          refine wp_alloc (z:=.nilFunc) (cs:=#[.nilFunc]) rfl (by kernel_rfl) rfl ⟨hS3,?_⟩
          obtain ⟨b9,hq⟩:∃ q,v2.heap.size = q:=⟨_,rfl⟩
          rw [hq] at K9 g_b9 n_ca_b9 n_cb_b9 ⊢
          obtain ⟨u3,hw⟩:∃ x,v2.alloc (.cells #[.nilFunc] 62) = x:=⟨_,rfl⟩
          rw [hw] at hS3 K9 KA KB ⊢
          clear hb hw hq
          go_frame
          refine wpAnyH_1 5 rfl (by kernel_rfl) ?_
          have hS4:Below wr.heap.size wr (u3.alloc (.cells #[.nilFunc] 62)):=hS3.alloc hS3.size _
          have hb:Below u3.heap.size u3 (u3.alloc (.cells #[.nilFunc] 62)):=(Below.refl _ _).alloc (Nat.le_refl _) _
          have g_b10:wr.heap.size ≤ u3.heap.size:=hS3.size
          have n_ca_b10:ca < u3.heap.size:=KA.out.lt
          have n_cb_b10:cb < u3.heap.size:=KB.out.lt
          have n_b9_b10:b9 < u3.heap.size:=K9.out.lt
          replace KA:=hide (KA.out.below hb KA.out.lt)
          replace KB:=hide (KB.out.below hb KB.out.lt)
          replace K9:=hide (K9.out.below hb K9.out.lt)
          have K10:=hide (Blk.new u3 62 #[.nilFunc])
          refine wp_alloc (z:=.nilFunc) (cs:=#[.nilFunc]) rfl (by kernel_rfl) rfl ⟨hS4,?_⟩
          obtain ⟨b10,hq⟩:∃ q,u3.heap.size = q:=⟨_,rfl⟩
          rw [hq] at K10 g_b10 n_ca_b10 n_cb_b10 n_b9_b10 ⊢
          obtain ⟨u4,hw⟩:∃ x,u3.alloc (.cells #[.nilFunc] 62) = x:=⟨_,rfl⟩
          rw [hw] at hS4 K10 KA KB K9 ⊢
          clear hb hw hq
          go_frame
          refine wpAnyH_1 6 rfl (by kernel_rfl) ?_
          have hS5:Below wr.heap.size wr (u4.setCell ⟨b9,0,none⟩ (.func (.func 51) #[] #[.pointer (some ⟨ca,0,none⟩)])):=hS4.setCell (p:=⟨b9,0,none⟩) g_b9 _
          have hcell:=K9.out.cell 0
          have hfro:=K9.out.frozen 0
          simp at hcell
          refine wp_storeF rfl (by kernel_rfl) (by kernel_rfl) rfl rfl hcell hfro ⟨hS5,?_⟩
          replace KA:=hide (KA.out.far (p:=⟨b9,0,none⟩) (show ca ≠ b9 by omega) (.func (.func 51) #[] #[.pointer (some ⟨ca,0,none⟩)]))
          replace KB:=hide (KB.out.far (p:=⟨b9,0,none⟩) (show cb ≠ b9 by omega) (.func (.func 51) #[] #[.pointer (some ⟨ca,0,none⟩)]))
          replace K9:=hide (K9.out.set_ 0 (.func (.func 51) #[] #[.pointer (some ⟨ca,0,none⟩)]))
          replace K10:=hide (K10.out.far (p:=⟨b9,0,none⟩) (show b10 ≠ b9 by omega) (.func (.func 51) #[] #[.pointer (some ⟨ca,0,none⟩)]))
          obtain ⟨x6,hw⟩:∃ x,u4.setCell ⟨b9,0,none⟩ (.func (.func 51) #[] #[.pointer (some ⟨ca,0,none⟩)]) = x:=⟨_,rfl⟩
          rw [hw] at hS5 KA KB K9 K10 ⊢
          clear hw hcell hfro
          go_frame
          refine wpAnyH_1 7 rfl (by kernel_rfl) ?_
          have hS6:Below wr.heap.size wr (x6.setCell ⟨b10,0,none⟩ (.func (.func 51) #[] #[.pointer (some ⟨cb,0,none⟩)])):=hS5.setCell (p:=⟨b10,0,none⟩) g_b10 _
          have hcell:=K10.out.cell 0
          have hfro:=K10.out.frozen 0
          simp at hcell
          refine wp_storeF rfl (by kernel_rfl) (by kernel_rfl) rfl rfl hcell hfro ⟨hS6,?_⟩
          replace KA:=hide (KA.out.far (p:=⟨b10,0,none⟩) (show ca ≠ b10 by omega) (.func (.func 51) #[] #[.pointer (some ⟨cb,0,none⟩)]))
          replace KB:=hide (KB.out.far (p:=⟨b10,0,none⟩) (show cb ≠ b10 by omega) (.func (.func 51) #[] #[.pointer (some ⟨cb,0,none⟩)]))
          replace K9:=hide (K9.out.far (p:=⟨b10,0,none⟩) (show b9 ≠ b10 by omega) (.func (.func 51) #[] #[.pointer (some ⟨cb,0,none⟩)]))
          replace K10:=hide (K10.out.set_ 0 (.func (.func 51) #[] #[.pointer (some ⟨cb,0,none⟩)]))
          obtain ⟨x7,hw⟩:∃ x,x6.setCell ⟨b10,0,none⟩ (.func (.func 51) #[] #[.pointer (some ⟨cb,0,none⟩)]) = x:=⟨_,rfl⟩
          rw [hw] at hS6 KA KB K9 K10 ⊢
          clear hw hcell hfro
          go_frame
          refine wpAnyH_done (by kernel_rfl) (noPanic_mk ?_) _
          go_wp2_with fail
          go_meet
          exact ⟨b9,b10,ca,cb,rfl,rfl,K9.out,K10.out,KA.out,KB.out,hS6⟩
        · have hS3:Below wr.heap.size wr (v2.alloc (.cells #[.nilFunc] 62)):=hS2.alloc hS2.size _
          have hb:Below v2.heap.size v2 (v2.alloc (.cells #[.nilFunc] 62)):=(Below.refl _ _).alloc (Nat.le_refl _) _
          have g_b10:wr.heap.size ≤ v2.heap.size:=hS2.size
          have n_ca_b10:ca < v2.heap.size:=KA.out.lt
          have n_cb_b10:cb < v2.heap.size:=KB.out.lt
          replace KA:=hide (KA.out.below hb KA.out.lt)
          replace KB:=hide (KB.out.below hb KB.out.lt)
          have K10:=hide (Blk.new v2 62 #[.nilFunc])
          refine wp_alloc (z:=.nilFunc) (cs:=#[.nilFunc]) rfl (by kernel_rfl) rfl ⟨hS3,?_⟩
          obtain ⟨b10,hq⟩:∃ q,v2.heap.size = q:=⟨_,rfl⟩
          rw [hq] at K10 g_b10 n_ca_b10 n_cb_b10 ⊢
          obtain ⟨u3,hw⟩:∃ x,v2.alloc (.cells #[.nilFunc] 62) = x:=⟨_,rfl⟩
          rw [hw] at hS3 K10 KA KB ⊢
          clear hb hw hq
          go_frame
          refine wpAnyH_1 4 rfl (by kernel_rfl) ?_
          have hS4:Below wr.heap.size wr (u3.alloc (.cells #[.nilFunc] 62)):=hS3.alloc hS3.size _
          have hb:Below u3.heap.size u3 (u3.alloc (.cells #[.nilFunc] 62)):=(Below.refl _ _).alloc (Nat.le_refl _) _
          have g_b9:wr.heap.size ≤ u3.heap.size:=hS3.size
          have n_ca_b9:ca < u3.heap.size:=KA.out.lt
          have n_cb_b9:cb < u3.heap.size:=KB.out.lt
          have n_b10_b9:b10 < u3.heap.size:=K10.out.lt
          replace KA:=hide (KA.out.below hb KA.out.lt)
          replace KB:=hide (KB.out.below hb KB.out.lt)
          replace K10:=hide (K10.out.below hb K10.out.lt)
          have K9:=hide (Blk.new u3 62 #[.nilFunc])
          refine wp_alloc (z:=.nilFunc) (cs:=#[.nilFunc]) rfl (by kernel_rfl) rfl ⟨hS4,?_⟩
          obtain ⟨b9,hq⟩:∃ q,u3.heap.size = q:=⟨_,rfl⟩
          rw [hq] at K9 g_b9 n_ca_b9 n_cb_b9 n_b10_b9 ⊢
          obtain ⟨u4,hw⟩:∃ x,u3.alloc (.cells #[.nilFunc] 62) = x:=⟨_,rfl⟩
          rw [hw] at hS4 K9 KA KB K10 ⊢
          clear hb hw hq
          go_frame
          refine wpAnyH_1 6 rfl (by kernel_rfl) ?_
          have hS5:Below wr.heap.size wr (u4.setCell ⟨b9,0,none⟩ (.func (.func 51) #[] #[.pointer (some ⟨ca,0,none⟩)])):=hS4.setCell (p:=⟨b9,0,none⟩) g_b9 _
          have hcell:=K9.out.cell 0
          have hfro:=K9.out.frozen 0
          simp at hcell
          refine wp_storeF rfl (by kernel_rfl) (by kernel_rfl) rfl rfl hcell hfro ⟨hS5,?_⟩
          replace KA:=hide (KA.out.far (p:=⟨b9,0,none⟩) (show ca ≠ b9 by omega) (.func (.func 51) #[] #[.pointer (some ⟨ca,0,none⟩)]))
          replace KB:=hide (KB.out.far (p:=⟨b9,0,none⟩) (show cb ≠ b9 by omega) (.func (.func 51) #[] #[.pointer (some ⟨ca,0,none⟩)]))
          replace K10:=hide (K10.out.far (p:=⟨b9,0,none⟩) (show b10 ≠ b9 by omega) (.func (.func 51) #[] #[.pointer (some ⟨ca,0,none⟩)]))
          replace K9:=hide (K9.out.set_ 0 (.func (.func 51) #[] #[.pointer (some ⟨ca,0,none⟩)]))
          obtain ⟨x6,hw⟩:∃ x,u4.setCell ⟨b9,0,none⟩ (.func (.func 51) #[] #[.pointer (some ⟨ca,0,none⟩)]) = x:=⟨_,rfl⟩
          rw [hw] at hS5 KA KB K10 K9 ⊢
          clear hw hcell hfro
          go_frame
          refine wpAnyH_1 7 rfl (by kernel_rfl) ?_
          have hS6:Below wr.heap.size wr (x6.setCell ⟨b10,0,none⟩ (.func (.func 51) #[] #[.pointer (some ⟨cb,0,none⟩)])):=hS5.setCell (p:=⟨b10,0,none⟩) g_b10 _
          have hcell:=K10.out.cell 0
          have hfro:=K10.out.frozen 0
          simp at hcell
          refine wp_storeF rfl (by kernel_rfl) (by kernel_rfl) rfl rfl hcell hfro ⟨hS6,?_⟩
          replace KA:=hide (KA.out.far (p:=⟨b10,0,none⟩) (show ca ≠ b10 by omega) (.func (.func 51) #[] #[.pointer (some ⟨cb,0,none⟩)]))
          replace KB:=hide (KB.out.far (p:=⟨b10,0,none⟩) (show cb ≠ b10 by omega) (.func (.func 51) #[] #[.pointer (some ⟨cb,0,none⟩)]))
          replace K10:=hide (K10.out.set_ 0 (.func (.func 51) #[] #[.pointer (some ⟨cb,0,none⟩)]))
          replace K9:=hide (K9.out.far (p:=⟨b10,0,none⟩) (show b9 ≠ b10 by omega) (.func (.func 51) #[] #[.pointer (some ⟨cb,0,none⟩)]))
          obtain ⟨x7,hw⟩:∃ x,x6.setCell ⟨b10,0,none⟩ (.func (.func 51) #[] #[.pointer (some ⟨cb,0,none⟩)]) = x:=⟨_,rfl⟩
          rw [hw] at hS6 KA KB K10 K9 ⊢
          clear hw hcell hfro
          go_frame
          refine wpAnyH_done (by kernel_rfl) (noPanic_mk ?_) _
          go_wp2_with fail
          go_meet
          exact ⟨b9,b10,ca,cb,rfl,rfl,K9.out,K10.out,KA.out,KB.out,hS6⟩
      · have hS2:Below wr.heap.size wr (v1.alloc (.cells #[.nilFunc] 62)):=hS1.alloc hS1.size _
        have hb:Below v1.heap.size v1 (v1.alloc (.cells #[.nilFunc] 62)):=(Below.refl _ _).alloc (Nat.le_refl _) _
        have g_b9:wr.heap.size ≤ v1.heap.size:=hS1.size
        have n_ca_b9:ca < v1.heap.size:=KA.out.lt
        replace KA:=hide (KA.out.below hb KA.out.lt)
        have K9:=hide (Blk.new v1 62 #[.nilFunc])
        refine wp_alloc (z:=.nilFunc) (cs:=#[.nilFunc]) rfl (by kernel_rfl) rfl ⟨hS2,?_⟩
        obtain ⟨b9,hq⟩:∃ q,v1.heap.size = q:=⟨_,rfl⟩
        rw [hq] at K9 g_b9 n_ca_b9 ⊢
        obtain ⟨u2,hw⟩:∃ x,v1.alloc (.cells #[.nilFunc] 62) = x:=⟨_,rfl⟩
        rw [hw] at hS2 K9 KA ⊢
        clear hb hw hq
        go_frame
        refine wpAnyH_2 3 5 rfl rfl (by kernel_rfl) ?_ ?_
        · refine wp_call [PV lb B m d] rfl rfl eCoeffs rfl ((coefficients_b lb B m d _).mono ?_)
          rintro e v3 ⟨cb,rfl,hge,hkb,hb⟩
          have hS3:Below wr.heap.size wr v3:=hS2.trans (hb.mono hS2.size)
          have g_cb:wr.heap.size ≤ cb:=by have:=hS2.size;omega
          have n_ca_cb:ca < cb:=by have:=KA.out.lt;omega
          have n_b9_cb:b9 < cb:=by have:=K9.out.lt;omega
          replace KA:=hide (KA.out.below hb KA.out.lt)
          replace K9:=hide (K9.out.below hb K9.out.lt)
          have KB:=hide hkb
          clear hb hkb
          refine ⟨_,rfl,hS3,?_⟩
          go_frame
          refine wpAnyH_1 5 rfl (by kernel_rfl) ?_
          have hS4:Below wr.heap.size wr (v3.alloc (.cells #[.nilFunc] 62)):=hS3.alloc hS3.size _
          have hb:Below v3.heap.size v3 (v3.alloc (.cells #[.nilFunc] 62)):=(Below.refl _ _).alloc (Nat.le_refl _) _
          have g_b10:wr.heap.size ≤ v3.heap.size:=hS3.size
          have n_ca_b10:ca < v3.heap.size:=KA.out.lt
          have n_b9_b10:b9 < v3.heap.size:=K9.out.lt
          have n_cb_b10:cb < v3.heap.size:=KB.out.lt
          replace KA:=hide (KA.out.below hb KA.out.lt)
          replace K9:=hide (K9.out.below hb K9.out.lt)
          replace KB:=hide (KB.out.below hb KB.out.lt)
          have K10:=hide (Blk.new v3 62 #[.nilFunc])
          refine wp_alloc (z:=.nilFunc) (cs:=#[.nilFunc]) rfl (by kernel_rfl) rfl ⟨hS4,?_⟩
          obtain ⟨b10,hq⟩:∃ q,v3.heap.size = q:=⟨_,rfl⟩
          rw [hq] at K10 g_b10 n_ca_b10 n_b9_b10 n_cb_b10 ⊢
          obtain ⟨u4,hw⟩:∃ x,v3.alloc (.cells #[.nilFunc] 62) = x:=⟨_,rfl⟩
          rw [hw] at hS4 K10 KA K9 KB ⊢
          clear hb hw hq
          go_frame
          refine wpAnyH_1 6 rfl (by kernel_rfl) ?_
          have hS5:Below wr.heap.size wr (u4.setCell ⟨b9,0,none⟩ (.func (.func 51) #[] #[.pointer (some ⟨ca,0,none⟩)])):=hS4.setCell (p:=⟨b9,0,none⟩) g_b9 _
          have hcell:=K9.out.cell 0
          have hfro:=K9.out.frozen 0
          simp at hcell
          refine wp_storeF rfl (by kernel_rfl) (by kernel_rfl) rfl rfl hcell hfro ⟨hS5,?_⟩
          replace KA:=hide (KA.out.far (p:=⟨b9,0,none⟩) (show ca ≠ b9 by omega) (.func (.func 51) #[] #[.pointer (some ⟨ca,0,none⟩)]))
          replace K9:=hide (K9.out.set_ 0 (.func (.func 51) #[] #[.pointer (some ⟨ca,0,none⟩)]))
          replace KB:=hide (KB.out.far (p:=⟨b9,0,none⟩) (show cb ≠ b9 by omega) (.func (.func 51) #[] #[.pointer (some ⟨ca,0,none⟩)]))
          replace K10:=hide (K10.out.far (p:=⟨b9,0,none⟩) (show b10 ≠ b9 by omega) (.func (.func 51) #[] #[.pointer (some ⟨ca,0,none⟩)]))
          obtain ⟨x6,hw⟩:∃ x,u4.setCell ⟨b9,0,none⟩ (.func (.func 51) #[] #[.pointer (some ⟨ca,0,none⟩)]) = x:=⟨_,rfl⟩
          rw [hw] at hS5 KA K9 KB K10 ⊢
          clear hw hcell hfro
          go_frame
          refine wpAnyH_1 7 rfl (by kernel_rfl) ?_
          have hS6:Below wr.heap.size wr (x6.setCell ⟨b10,0,none⟩ (.func (.func 51) #[] #[.pointer (some ⟨cb,0,none⟩)])):=hS5.setCell (p:=⟨b10,0,none⟩) g_b10 _
          have hcell:=K10.out.cell 0
          have hfro:=K10.out.frozen 0
          simp at hcell
          refine wp_storeF rfl (by kernel_rfl) (by kernel_rfl) rfl rfl hcell hfro ⟨hS6,?_⟩
          replace KA:=hide (KA.out.far (p:=⟨b10,0,none⟩) (show ca ≠ b10 by omega) (.func (.func 51) #[] #[.pointer (some ⟨cb,0,none⟩)]))
          replace K9:=hide (K9.out.far (p:=⟨b10,0,none⟩) (show b9 ≠ b10 by omega) (.func (.func 51) #[] #[.pointer (some ⟨cb,0,none⟩)]))
          replace KB:=hide (KB.out.far (p:=⟨b10,0,none⟩) (show cb ≠ b10 by omega) (.func (.func 51) #[] #[.pointer (some ⟨cb,0,none⟩)]))
          replace K10:=hide (K10.out.set_ 0 (.func (.func 51) #[] #[.pointer (some ⟨cb,0,none⟩)]))
          obtain ⟨x7,hw⟩:∃ x,x6.setCell ⟨b10,0,none⟩ (.func (.func 51) #[] #[.pointer (some ⟨cb,0,none⟩)]) = x:=⟨_,rfl⟩
          rw [hw] at hS6 KA K9 KB K10 ⊢
          clear hw hcell hfro
          go_frame
          refine wpAnyH_done (by kernel_rfl) (noPanic_mk ?_) _
          go_wp2_with fail
          go_meet
          exact ⟨b9,b10,ca,cb,rfl,rfl,K9.out,K10.out,KA.out,KB.out,hS6⟩
        · have hS3:Below wr.heap.size wr (u2.alloc (.cells #[.nilFunc] 62)):=hS2.alloc hS2.size _
          have hb:Below u2.heap.size u2 (u2.alloc (.cells #[.nilFunc] 62)):=(Below.refl _ _).alloc (Nat.le_refl _) _
          have g_b10:wr.heap.size ≤ u2.heap.size:=hS2.size
          have n_ca_b10:ca < u2.heap.size:=KA.out.lt
          have n_b9_b10:b9 < u2.heap.size:=K9.out.lt
          replace KA:=hide (KA.out.below hb KA.out.lt)
          replace K9:=hide (K9.out.below hb K9.out.lt)
          have K10:=hide (Blk.new u2 62 #[.nilFunc])
          refine wp_alloc (z:=.nilFunc) (cs:=#[.nilFunc]) rfl (by kernel_rfl) rfl ⟨hS3,?_⟩
          obtain ⟨b10,hq⟩:∃ q,u2.heap.size = q:=⟨_,rfl⟩
          rw [hq] at K10 g_b10 n_ca_b10 n_b9_b10 ⊢
          obtain ⟨u3,hw⟩:∃ x,u2.alloc (.cells #[.nilFunc] 62) = x:=⟨_,rfl⟩
          rw [hw] at hS3 K10 KA K9 ⊢
          clear hb hw hq
          go_frame
          refine wpAnyH_1 3 rfl (by kernel_rfl) ?_
          refine wp_call [PV lb B m d] rfl rfl eCoeffs rfl ((coefficients_b lb B m d _).mono ?_)
          rintro e v4 ⟨cb,rfl,hge,hkb,hb⟩
          have hS4:Below wr.heap.size wr v4:=hS3.trans (hb.mono hS3.size)
          have g_cb:wr.heap.size ≤ cb:=by have:=hS3.size;omega
          have n_ca_cb:ca < cb:=by have:=KA.out.lt;omega
          have n_b9_cb:b9 < cb:=by have:=K9.out.lt;omega
          have n_b10_cb:b10 < cb:=by have:=K10.out.lt;omega
          replace KA:=hide (KA.out.below hb KA.out.lt)
          replace K9:=hide (K9.out.below hb K9.out.lt)
          replace K10:=hide (K10.out.below hb K10.out.lt)
          have KB:=hide hkb
          clear hb hkb
          refine ⟨_,rfl,hS4,?_⟩
          go_frame
          refine wpAnyH_1 6 rfl (by kernel_rfl) ?_
          have hS5:Below wr.heap.size wr (v4.setCell ⟨b9,0,none⟩ (.func (.func 51) #[] #[.pointer (some ⟨ca,0,none⟩)])):=hS4.setCell (p:=⟨b9,0,none⟩) g_b9 _
          have hcell:=K9.out.cell 0
          have hfro:=K9.out.frozen 0
          simp at hcell
          refine wp_storeF rfl (by kernel_rfl) (by kernel_rfl) rfl rfl hcell hfro ⟨hS5,?_⟩
          replace KA:=hide (KA.out.far (p:=⟨b9,0,none⟩) (show ca ≠ b9 by omega) (.func (.func 51) #[] #[.pointer (some ⟨ca,0,none⟩)]))
          replace K9:=hide (K9.out.set_ 0 (.func (.func 51) #[] #[.pointer (some ⟨ca,0,none⟩)]))
          replace K10:=hide (K10.out.far (p:=⟨b9,0,none⟩) (show b10 ≠ b9 by omega) (.func (.func 51) #[] #[.pointer (some ⟨ca,0,none⟩)]))
          replace KB:=hide (KB.out.far (p:=⟨b9,0,none⟩) (show cb ≠ b9 by omega) (.func (.func 51) #[] #[.pointer (some ⟨ca,0,none⟩)]))
          obtain ⟨x6,hw⟩:∃ x,v4.setCell ⟨b9,0,none⟩ (.func (.func 51) #[] #[.pointer (some ⟨ca,0,none⟩)]) = x:=⟨_,rfl⟩
          rw [hw] at hS5 KA K9 K10 KB ⊢
          clear hw hcell hfro
          go_frame
          refine wpAnyH_1 7 rfl (by kernel_rfl) ?_
          have hS6:Below wr.heap.size wr (x6.setCell ⟨b10,0,none⟩ (.func (.func 51) #[] #[.pointer (some ⟨cb,0,none⟩)])):=hS5.setCell (p:=⟨b10,0,none⟩) g_b10 _
          have hcell:=K10.out.cell 0
          have hfro:=K10.out.frozen 0
          simp at hcell
          refine wp_storeF rfl (by kernel_rfl) (by kernel_rfl) rfl rfl hcell hfro ⟨hS6,?_⟩
          replace KA:=hide (KA.out.far (p:=⟨b10,0,none⟩) (show ca ≠ b10 by omega) (.func (.func 51) #[] #[.pointer (some ⟨cb,0,none⟩)]))
          replace K9:=hide (K9.out.far (p:=⟨b10,0,none⟩) (show b9 ≠ b10 by omega) (.func (.func 51) #[] #[.pointer (some ⟨cb,0,none⟩)]))
          replace K10:=hide (K10.out.set_ 0 (.func (.func 51) #[] #[.pointer (some ⟨cb,0,none⟩)]))
          replace KB:=hide (KB.out.far (p:=⟨b10,0,none⟩) (show cb ≠ b10 by omega) (.func (.func 51) #[] #[.pointer (some ⟨cb,0,none⟩)]))
          obtain ⟨x7,hw⟩:∃ x,x6.setCell ⟨b10,0,none⟩ (.func (.func 51) #[] #[.pointer (some ⟨cb,0,none⟩)]) = x:=⟨_,rfl⟩
          rw [hw] at hS6 KA K9 K10 KB ⊢
          clear hw hcell hfro
          go_frame
          refine wpAnyH_done (by kernel_rfl) (noPanic_mk ?_) _
          go_wp2_with fail
          go_meet
          exact ⟨b9,b10,ca,cb,rfl,rfl,K9.out,K10.out,KA.out,KB.out,hS6⟩
      · have hS2:Below wr.heap.size wr (v1.alloc (.cells #[.nilFunc] 62)):=hS1.alloc hS1.size _
        have hb:Below v1.heap.size v1 (v1.alloc (.cells #[.nilFunc] 62)):=(Below.refl _ _).alloc (Nat.le_refl _) _
        have g_b10:wr.heap.size ≤ v1.heap.size:=hS1.size
        have n_ca_b10:ca < v1.heap.size:=KA.out.lt
        replace KA:=hide (KA.out.below hb KA.out.lt)
        have K10:=hide (Blk.new v1 62 #[.nilFunc])
        refine wp_alloc (z:=.nilFunc) (cs:=#[.nilFunc]) rfl (by kernel_rfl) rfl ⟨hS2,?_⟩
        obtain ⟨b10,hq⟩:∃ q,v1.heap.size = q:=⟨_,rfl⟩
        rw [hq] at K10 g_b10 n_ca_b10 ⊢
        obtain ⟨u2,hw⟩:∃ x,v1.alloc (.cells #[.nilFunc] 62) = x:=⟨_,rfl⟩
        rw [hw] at hS2 K10 KA ⊢
        clear hb hw hq
        go_frame
        refine wpAnyH_2 3 4 rfl rfl (by kernel_rfl) ?_ ?_
        · refine wp_call [PV lb B m d] rfl rfl eCoeffs rfl ((coefficients_b lb B m d _).mono ?_)
          rintro e v3 ⟨cb,rfl,hge,hkb,hb⟩
          have hS3:Below wr.heap.size wr v3:=hS2.trans (hb.mono hS2.size)
          have g_cb:wr.heap.size ≤ cb:=by have:=hS2.size;omega
          have n_ca_cb:ca < cb:=by have:=KA.out.lt;omega
          have n_b10_cb:b10 < cb:=by have:=K10.out.lt;omega
          replace KA:=hide (KA.out.below hb KA.out.lt)
          replace K10:=hide (K10.out.below hb K10.out.lt)
          have KB:=hide hkb
          clear hb hkb
          refine ⟨_,rfl,hS3,?_⟩
          go_frame
          refine wpAnyH_1 4 rfl (by kernel_rfl) ?_
          have hS4:Below wr.heap.size wr (v3.alloc (.cells #[.nilFunc] 62)):=hS3.alloc hS3.size _
          have hb:Below v3.heap.size v3 (v3.alloc (.cells #[.nilFunc] 62)):=(Below.refl _ _).alloc (Nat.le_refl _) _
          have g_b9:wr.heap.size ≤ v3.heap.size:=hS3.size
          have n_ca_b9:ca < v3.heap.size:=KA.out.lt
          have n_b10_b9:b10 < v3.heap.size:=K10.out.lt
          have n_cb_b9:cb < v3.heap.size:=KB.out.lt
          replace KA:=hide (KA.out.below hb KA.out.lt)
          replace K10:=hide (K10.out.below hb K10.out.lt)
          replace KB:=hide (KB.out.below hb KB.out.lt)
          have K9:=hide (Blk.new v3 62 #[.nilFunc])
          refine wp_alloc (z:=.nilFunc) (cs:=#[.nilFunc]) rfl (by kernel_rfl) rfl ⟨hS4,?_⟩
          obtain ⟨b9,hq⟩:∃ q,v3.heap.size = q:=⟨_,rfl⟩
          rw [hq] at K9 g_b9 n_ca_b9 n_b10_b9 n_cb_b9 ⊢
          obtain ⟨u4,hw⟩:∃ x,v3.alloc (.cells #[.nilFunc] 62) = x:=⟨_,rfl⟩
          rw [hw] at hS4 K9 KA K10 KB ⊢
          clear hb hw hq
          go_frame
          refine wpAnyH_1 6 rfl (by kernel_rfl) ?_
          have hS5:Below wr.heap.size wr (u4.setCell ⟨b9,0,none⟩ (.func (.func 51) #[] #[.pointer (some ⟨ca,0,none⟩)])):=hS4.setCell (p:=⟨b9,0,none⟩) g_b9 _
          have hcell:=K9.out.cell 0
          have hfro:=K9.out.frozen 0
          simp at hcell
          refine wp_storeF rfl (by kernel_rfl) (by kernel_rfl) rfl rfl hcell hfro ⟨hS5,?_⟩
          replace KA:=hide (KA.out.far (p:=⟨b9,0,none⟩) (show ca ≠ b9 by omega) (.func (.func 51) #[] #[.pointer (some ⟨ca,0,none⟩)]))
          replace K10:=hide (K10.out.far (p:=⟨b9,0,none⟩) (show b10 ≠ b9 by omega) (.func (.func 51) #[] #[.pointer (some ⟨ca,0,none⟩)]))
          replace KB:=hide (KB.out.far (p:=⟨b9,0,none⟩) (show cb ≠ b9 by omega) (.func (.func 51) #[] #[.pointer (some ⟨ca,0,none⟩)]))
          replace K9:=hide (K9.out.set_ 0 (.func (.func 51) #[] #[.pointer (some ⟨ca,0,none⟩)]))
          obtain ⟨x6,hw⟩:∃ x,u4.setCell ⟨b9,0,none⟩ (.func (.func 51) #[] #[.pointer (some ⟨ca,0,none⟩)]) = x:=⟨_,rfl⟩
          rw [hw] at hS5 KA K10 KB K9 ⊢
          clear hw hcell hfro
          go_frame
          refine wpAnyH_1 7 rfl (by kernel_rfl) ?_
          have hS6:Below wr.heap.size wr (x6.setCell ⟨b10,0,none⟩ (.func (.func 51) #[] #[.pointer (some ⟨cb,0,none⟩)])):=hS5.setCell (p:=⟨b10,0,none⟩) g_b10 _
          have hcell:=K10.out.cell 0
          have hfro:=K10.out.frozen 0
          simp at hcell
          refine wp_storeF rfl (by kernel_rfl) (by kernel_rfl) rfl rfl hcell hfro ⟨hS6,?_⟩
          replace KA:=hide (KA.out.far (p:=⟨b10,0,none⟩) (show ca ≠ b10 by omega) (.func (.func 51) #[] #[.pointer (some ⟨cb,0,none⟩)]))
          replace K10:=hide (K10.out.set_ 0 (.func (.func 51) #[] #[.pointer (some ⟨cb,0,none⟩)]))
          replace KB:=hide (KB.out.far (p:=⟨b10,0,none⟩) (show cb ≠ b10 by omega) (.func (.func 51) #[] #[.pointer (some ⟨cb,0,none⟩)]))
          replace K9:=hide (K9.out.far (p:=⟨b10,0,none⟩) (show b9 ≠ b10 by omega) (.func (.func 51) #[] #[.pointer (some ⟨cb,0,none⟩)]))
          obtain ⟨x7,hw⟩:∃ x,x6.setCell ⟨b10,0,none⟩ (.func (.func 51) #[] #[.pointer (some ⟨cb,0,none⟩)]) = x:=⟨_,rfl⟩
          rw [hw] at hS6 KA K10 KB K9 ⊢
          clear hw hcell hfro
          go_frame
          refine wpAnyH_done (by kernel_rfl) (noPanic_mk ?_) _
          go_wp2_with fail
          go_meet
          exact ⟨b9,b10,ca,cb,rfl,rfl,K9.out,K10.out,KA.out,KB.out,hS6⟩
        · have hS3:Below wr.heap.size wr (u2.alloc (.cells #[.nilFunc] 62)):=hS2.alloc hS2.size _
          have hb:Below u2.heap.size u2 (u2.alloc (.cells #[.nilFunc] 62)):=(Below.refl _ _).alloc (Nat.le_refl _) _
          have g_b9:wr.heap.size ≤ u2.heap.size:=hS2.size
          have n_ca_b9:ca < u2.heap.size:=KA.out.lt
          have n_b10_b9:b10 < u2.heap.size:=K10.out.lt
          replace KA:=hide (KA.out.below hb KA.out.lt)
          replace K10:=hide (K10.out.below hb K10.out.lt)
          have K9:=hide (Blk.new u2 62 #[.nilFunc])
          refine wp_alloc (z:=.nilFunc) (cs:=#[.nilFunc]) rfl (by kernel_rfl) rfl ⟨hS3,?_⟩
          obtain ⟨b9,hq⟩:∃ q,u2.heap.size = q:=⟨_,rfl⟩
          rw [hq] at K9 g_b9 n_ca_b9 n_b10_b9 ⊢
          obtain ⟨u3,hw⟩:∃ x,u2.alloc (.cells #[.nilFunc] 62) = x:=⟨_,rfl⟩
          rw [hw] at hS3 K9 KA K10 ⊢
          clear hb hw hq
          go_frame
          refine wpAnyH_1 3 rfl (by kernel_rfl) ?_
          refine wp_call [PV lb B m d] rfl rfl eCoeffs rfl ((coefficients_b lb B m d _).mono ?_)
          rintro e v4 ⟨cb,rfl,hge,hkb,hb⟩
          have hS4:Below wr.heap.size wr v4:=hS3.trans (hb.mono hS3.size)
          have g_cb:wr.heap.size ≤ cb:=by have:=hS3.size;omega
          have n_ca_cb:ca < cb:=by have:=KA.out.lt;omega
          have n_b10_cb:b10 < cb:=by have:=K10.out.lt;omega
          have n_b9_cb:b9 < cb:=by have:=K9.out.lt;omega
          replace KA:=hide (KA.out.below hb KA.out.lt)
          replace K10:=hide (K10.out.below hb K10.out.lt)
          replace K9:=hide (K9.out.below hb K9.out.lt)
          have KB:=hide hkb
          clear hb hkb
          refine ⟨_,rfl,hS4,?_⟩
          go_frame
          refine wpAnyH_1 6 rfl (by kernel_rfl) ?_
          have hS5:Below wr.heap.size wr (v4.setCell ⟨b9,0,none⟩ (.func (.func 51) #[] #[.pointer (some ⟨ca,0,none⟩)])):=hS4.setCell (p:=⟨b9,0,none⟩) g_b9 _
          have hcell:=K9.out.cell 0
          have hfro:=K9.out.frozen 0
          simp at hcell
          refine wp_storeF rfl (by kernel_rfl) (by kernel_rfl) rfl rfl hcell hfro ⟨hS5,?_⟩
          replace KA:=hide (KA.out.far (p:=⟨b9,0,none⟩) (show ca ≠ b9 by omega) (.func (.func 51) #[] #[.pointer (some ⟨ca,0,none⟩)]))
          replace K10:=hide (K10.out.far (p:=⟨b9,0,none⟩) (show b10 ≠ b9 by omega) (.func (.func 51) #[] #[.pointer (some ⟨ca,0,none⟩)]))
          replace K9:=hide (K9.out.set_ 0 (.func (.func 51) #[] #[.pointer (some ⟨ca,0,none⟩)]))
          replace KB:=hide (KB.out.far (p:=⟨b9,0,none⟩) (show cb ≠ b9 by omega) (.func (.func 51) #[] #[.pointer (some ⟨ca,0,none⟩)]))
          obtain ⟨x6,hw⟩:∃ x,v4.setCell ⟨b9,0,none⟩ (.func (.func 51) #[] #[.pointer (some ⟨ca,0,none⟩)]) = x:=⟨_,rfl⟩
          rw [hw] at hS5 KA K10 K9 KB ⊢
          clear hw hcell hfro
          go_frame
          refine wpAnyH_1 7 rfl (by kernel_rfl) ?_
          have hS6:Below wr.heap.size wr (x6.setCell ⟨b10,0,none⟩ (.func (.func 51) #[] #[.pointer (some ⟨cb,0,none⟩)])):=hS5.setCell (p:=⟨b10,0,none⟩) g_b10 _
          have hcell:=K10.out.cell 0
          have hfro:=K10.out.frozen 0
          simp at hcell
          refine wp_storeF rfl (by kernel_rfl) (by kernel_rfl) rfl rfl hcell hfro ⟨hS6,?_⟩
          replace KA:=hide (KA.out.far (p:=⟨b10,0,none⟩) (show ca ≠ b10 by omega) (.func (.func 51) #[] #[.pointer (some ⟨cb,0,none⟩)]))
          replace K10:=hide (K10.out.set_ 0 (.func (.func 51) #[] #[.pointer (some ⟨cb,0,none⟩)]))
          replace K9:=hide (K9.out.far (p:=⟨b10,0,none⟩) (show b9 ≠ b10 by omega) (.func (.func 51) #[] #[.pointer (some ⟨cb,0,none⟩)]))
          replace KB:=hide (KB.out.far (p:=⟨b10,0,none⟩) (show cb ≠ b10 by omega) (.func (.func 51) #[] #[.pointer (some ⟨cb,0,none⟩)]))
          obtain ⟨x7,hw⟩:∃ x,x6.setCell ⟨b10,0,none⟩ (.func (.func 51) #[] #[.pointer (some ⟨cb,0,none⟩)]) = x:=⟨_,rfl⟩
          rw [hw] at hS6 KA K10 K9 KB ⊢
          clear hw hcell hfro
          go_frame
          refine wpAnyH_done (by kernel_rfl) (noPanic_mk ?_) _
          go_wp2_with fail
          go_meet
          exact ⟨b9,b10,ca,cb,rfl,rfl,K9.out,K10.out,KA.out,KB.out,hS6⟩
    · have hS1:Below wr.heap.size wr (wr.drew.alloc (.cells #[.nilFunc] 62)):=hS0.alloc hS0.size _
      have hb:Below wr.drew.heap.size wr.drew (wr.drew.alloc (.cells #[.nilFunc] 62)):=(Below.refl _ _).alloc (Nat.le_refl _) _
      have g_b9:wr.heap.size ≤ wr.drew.heap.size:=hS0.size
      have K9:=hide (Blk.new wr.drew 62 #[.nilFunc])
      refine wp_alloc (z:=.nilFunc) (cs:=#[.nilFunc]) rfl (by kernel_rfl) rfl ⟨hS1,?_⟩
      obtain ⟨b9,hq⟩:∃ q,wr.drew.heap.size = q:=⟨_,rfl⟩
      rw [hq] at K9 g_b9 ⊢
      obtain ⟨u1,hw⟩:∃ x,wr.drew.alloc (.cells #[.nilFunc] 62) = x:=⟨_,rfl⟩
      rw [hw] at hS1 K9 ⊢
      clear hb hw hq
      go_frame
      refine wpAnyH_2 1 5 rfl rfl (by kernel_rfl) ?_ ?_
      · refine wp_call [PV la A n c] rfl rfl eCoeffs rfl ((coefficients_b la A n c _).mono ?_)
        rintro e v2 ⟨ca,rfl,hge,hka,hb⟩
        have hS2:Below wr.heap.size wr v2:=hS1.trans (hb.mono hS1.size)
        have g_ca:wr.heap.size ≤ ca:=by have:=hS1.size;omega
        have n_b9_ca:b9 < ca:=by have:=K9.out.lt;omega
        replace K9:=hide (K9.out.below hb K9.out.lt)
        have KA:=hide hka
        clear hb hka
        refine ⟨_,rfl,hS2,?_⟩
        go_frame
        refine wpAnyH_2 3 5 rfl rfl (by kernel_rfl) ?_ ?_
        · refine wp_call [PV lb B m d] rfl rfl eCoeffs rfl ((coefficients_b lb B m d _).mono ?_)
          rintro e v3 ⟨cb,rfl,hge,hkb,hb⟩
          have hS3:Below wr.heap.size wr v3:=hS2.trans (hb.mono hS2.size)
          have g_cb:wr.heap.size ≤ cb:=by have:=hS2.size;omega
          have n_b9_cb:b9 < cb:=by have:=K9.out.lt;omega
          have n_ca_cb:ca < cb:=by have:=KA.out.lt;omega
          replace K9:=hide (K9.out.below hb K9.out.lt)
          replace KA:=hide (KA.out.below hb KA.out.lt)
          have KB:=hide hkb
          clear hb hkb
          refine ⟨_,rfl,hS3,?_⟩
          go_frame
          refine wpAnyH_1 5 rfl (by kernel_rfl) ?_
          have hS4:Below wr.heap.size wr (v3.alloc (.cells #[.nilFunc] 62)):=hS3.alloc hS3.size _
          have hb:Below v3.heap.size v3 (v3.alloc (.cells #[.nilFunc] 62)):=(Below.refl _ _).alloc (Nat.le_refl _) _
          have g_b10:wr.heap.size ≤ v3.heap.size:=hS3.size
          have n_b9_b10:b9 < v3.heap.size:=K9.out.lt
          have n_ca_b10:ca < v3.heap.size:=KA.out.lt
          have n_cb_b10:cb < v3.heap.size:=KB.out.lt
          replace K9:=hide (K9.out.below hb K9.out.lt)
          replace KA:=hide (KA.out.below hb KA.out.lt)
          replace KB:=hide (KB.out.below hb KB.out.lt)
          have K10:=hide (Blk.new v3 62 #[.nilFunc])
          refine wp_alloc (z:=.nilFunc) (cs:=#[.nilFunc]) rfl (by kernel_rfl) rfl ⟨hS4,?_⟩
          obtain ⟨b10,hq⟩:∃ q,v3.heap.size = q:=⟨_,rfl⟩
          rw [hq] at K10 g_b10 n_b9_b10 n_ca_b10 n_cb_b10 ⊢
          obtain ⟨u4,hw⟩:∃ x,v3.alloc (.cells #[.nilFunc] 62) = x:=⟨_,rfl⟩
          rw [hw] at hS4 K10 K9 KA KB ⊢
          clear hb hw hq
          go_frame
          refine wpAnyH_1 6 rfl (by kernel_rfl) ?_
          have hS5:Below wr.heap.size wr (u4.setCell ⟨b9,0,none⟩ (.func (.func 51) #[] #[.pointer (some ⟨ca,0,none⟩)])):=hS4.setCell (p:=⟨b9,0,none⟩) g_b9 _
          have hcell:=K9.out.cell 0
          have hfro:=K9.out.frozen 0
          simp at hcell
          refine wp_storeF rfl (by kernel_rfl) (by kernel_rfl) rfl rfl hcell hfro ⟨hS5,?_⟩
          replace K9:=hide (K9.out.set_ 0 (.func (.func 51) #[] #[.pointer (some ⟨ca,0,none⟩)]))
          replace KA:=hide (KA.out.far (p:=⟨b9,0,none⟩) (show ca ≠ b9 by omega) (.func (.func 51) #[] #[.pointer (some ⟨ca,0,none⟩)]))
          replace KB:=hide (KB.out.far (p:=⟨b9,0,none⟩) (show cb ≠ b9 by omega) (.func (.func 51) #[] #[.pointer (some ⟨ca,0,none⟩)]))
          replace K10:=hide (K10.out.far (p:=⟨b9,0,none⟩) (show b10 ≠ b9 by omega) (.func (.func 51) #[] #[.pointer (some ⟨ca,0,none⟩)]))
          obtain ⟨x6,hw⟩:∃ x,u4.setCell ⟨b9,0,none⟩ (.func (.func 51) #[] #[.pointer (some ⟨ca,0,none⟩)]) = x:=⟨_,rfl⟩
          rw [hw] at hS5 K9 KA KB K10 ⊢
          clear hw hcell hfro
          go_frame
          refine wpAnyH_1 7 rfl (by kernel_rfl) ?_
          have hS6:Below wr.heap.size wr (x6.setCell ⟨b10,0,none⟩ (.func (.func 51) #[] #[.pointer (some ⟨cb,0,none⟩)])):=hS5.setCell (p:=⟨b10,0,none⟩) g_b10 _
          have hcell:=K10.out.cell 0
          have hfro:=K10.out.frozen 0
          simp at hcell
          refine wp_storeF rfl (by kernel_rfl) (by kernel_rfl) rfl rfl hcell hfro ⟨hS6,?_⟩
          replace K9:=hide (K9.out.far (p:=⟨b10,0,none⟩) (show b9 ≠ b10 by omega) (.func (.func 51) #[] #[.pointer (some ⟨cb,0,none⟩)]))
          replace KA:=hide (KA.out.far (p:=⟨b10,0,none⟩) (show ca ≠ b10 by omega) (.func (.func 51) #[] #[.pointer (some ⟨cb,0,none⟩)]))
          replace KB:=hide (KB.out.far (p:=⟨b10,0,none⟩) (show cb ≠ b10 by omega) (.func (.func 51) #[] #[.pointer (some ⟨cb,0,none⟩)]))
          replace K10:=hide (K10.out.set_ 0 (.func (.func 51) #[] #[.pointer (some ⟨cb,0,none⟩)]))
          obtain ⟨x7,hw⟩:∃ x,x6.setCell ⟨b10,0,none⟩ (.func (.func 51) #[] #[.pointer (some ⟨cb,0,none⟩)]) = x:=⟨_,rfl⟩
          rw [hw] at hS6 K9 KA KB K10 ⊢
          clear hw hcell hfro
          go_frame
          refine wpAnyH_done (by kernel_rfl) (noPanic_mk ?_) _
          go_wp2_with fail
          go_meet
          exact ⟨b9,b10,ca,cb,rfl,rfl,K9.out,K10.out,KA.out,KB.out,hS6⟩
        · have hS3:Below wr.heap.size wr (v2.alloc (.cells #[.nilFunc] 62)):=hS2.alloc hS2.size _
          have hb:Below v2.heap.size v2 (v2.alloc (.cells #[.nilFunc] 62)):=(Below.refl _ _).alloc (Nat.le_refl _) _
          have g_b10:wr.heap.size ≤ v2.heap.size:=hS2.size
          have n_b9_b10:b9 < v2.heap.size:=K9.out.lt
          have n_ca_b10:ca < v2.heap.size:=KA.out.lt
          replace K9:=hide (K9.out.below hb K9.out.lt)
          replace KA:=hide (KA.out.below hb KA.out.lt)
          have K10:=hide (Blk.new v2 62 #[.nilFunc])
          refine wp_alloc (z:=.nilFunc) (cs:=#[.nilFunc]) rfl (by kernel_rfl) rfl ⟨hS3,?_⟩
          obtain ⟨b10,hq⟩:∃ q,v2.heap.size = q:=⟨_,rfl⟩
          rw [hq] at K10 g_b10 n_b9_b10 n_ca_b10 ⊢
          obtain ⟨u3,hw⟩:∃ x,v2.alloc (.cells #[.nilFunc] 62) = x:=⟨_,rfl⟩
          rw [hw] at hS3 K10 K9 KA ⊢
          clear hb hw hq
          go_frame
          refine wpAnyH_1 3 rfl (by kernel_rfl) ?_
          refine wp_call [PV lb B m d] rfl rfl eCoeffs rfl ((coefficients_b lb B m d _).mono ?_)
          rintro e v4 ⟨cb,rfl,hge,hkb,hb⟩
          have hS4:Below wr.heap.size wr v4:=hS3.trans (hb.mono hS3.size)
          have g_cb:wr.heap.size ≤ cb:=by have:=hS3.size;omega
          have n_b9_cb:b9 < cb:=by have:=K9.out.lt;omega
          have n_ca_cb:ca < cb:=by have:=KA.out.lt;omega
          have n_b10_cb:b10 < cb:=by have:=K10.out.lt;omega
          replace K9:=hide (K9.out.below hb K9.out.lt)
          replace KA:=hide (KA.out.below hb KA.out.lt)
          replace K10:=hide (K10.out.below hb K10.out.lt)
          have KB:=hide hkb
          clear hb hkb
          refine ⟨_,rfl,hS4,?_⟩
          go_frame
          refine wpAnyH_1 6 rfl (by kernel_rfl) ?_
          have hS5:Below wr.heap.size wr (v4.setCell ⟨b9,0,none⟩ (.func (.func 51) #[] #[.pointer (some ⟨ca,0,none⟩)])):=hS4.setCell (p:=⟨b9,0,none⟩) g_b9 _
          have hcell:=K9.out.cell 0
          have hfro:=K9.out.frozen 0
          simp at hcell
          refine wp_storeF rfl (by kernel_rfl) (by kernel_rfl) rfl rfl hcell hfro ⟨hS5,?_⟩
          replace K9:=hide (K9.out.set_ 0 (.func (.func 51) #[] #[.pointer (some ⟨ca,0,none⟩)]))
          replace KA:=hide (KA.out.far (p:=⟨b9,0,none⟩) (show ca ≠ b9 by omega) (.func (.func 51) #[] #[.pointer (some ⟨ca,0,none⟩)]))
          replace K10:=hide (K10.out.far (p:=⟨b9,0,none⟩) (show b10 ≠ b9 by omega) (.func (.func 51) #[] #[.pointer (some ⟨ca,0,none⟩)]))
          replace KB:=hide (KB.out.far (p:=⟨b9,0,none⟩) (show cb ≠ b9 by omega) (.func (.func 51) #[] #[.pointer (some ⟨ca,0,none⟩)]))
          obtain ⟨x6,hw⟩:∃ x,v4.setCell ⟨b9,0,none⟩ (.func (.func 51) #[] #[.pointer (some ⟨ca,0,none⟩)]) = x:=⟨_,rfl⟩
          rw [hw] at hS5 K9 KA K10 KB ⊢
          clear hw hcell hfro
          go_frame
          refine wpAnyH_1 7 rfl (by kernel_rfl) ?_
          have hS6:Below wr.heap.size wr (x6.setCell ⟨b10,0,none⟩ (.func (.func 51) #[] #[.pointer (some ⟨cb,0,none⟩)])):=hS5.setCell (p:=⟨b10,0,none⟩) g_b10 _
          have hcell:=K10.out.cell 0
          have hfro:=K10.out.frozen 0
          simp at hcell
          refine wp_storeF rfl (by kernel_rfl) (by kernel_rfl) rfl rfl hcell hfro ⟨hS6,?_⟩
          replace K9:=hide (K9.out.far (p:=⟨b10,0,none⟩) (show b9 ≠ b10 by omega) (.func (.func 51) #[] #[.pointer (some ⟨cb,0,none⟩)]))
          replace KA:=hide (KA.out.far (p:=⟨b10,0,none⟩) (show ca ≠ b10 by omega) (.func (.func 51) #[] #[.pointer (some ⟨cb,0,none⟩)]))
          replace K10:=hide (K10.out.set_ 0 (.func (.func 51) #[] #[.pointer (some ⟨cb,0,none⟩)]))
          replace KB:=hide (KB.out.far (p:=⟨b10,0,none⟩) (show cb ≠ b10 by omega) (.func (.func 51) #[] #[.pointer (some ⟨cb,0,none⟩)]))
          obtain ⟨x7,hw⟩:∃ x,x6.setCell ⟨b10,0,none⟩ (.func (.func 51) #[] #[.pointer (some ⟨cb,0,none⟩)]) = x:=⟨_,rfl⟩
          rw [hw] at hS6 K9 KA K10 KB ⊢
          clear hw hcell hfro
          go_frame
          refine wpAnyH_done (by kernel_rfl) (noPanic_mk ?_) _
          go_wp2_with fail
          go_meet
          exact ⟨b9,b10,ca,cb,rfl,rfl,K9.out,K10.out,KA.out,KB.out,hS6⟩
      · have hS2:Below wr.heap.size wr (u1.alloc (.cells #[.nilFunc] 62)):=hS1.alloc hS1.size _
        have hb:Below u1.heap.size u1 (u1.alloc (.cells #[.nilFunc] 62)):=(Below.refl _ _).alloc (Nat.le_refl _) _
        have g_b10:wr.heap.size ≤ u1.heap.size:=hS1.size
        have n_b9_b10:b9 < u1.heap.size:=K9.out.lt
        replace K9:=hide (K9.out.below hb K9.out.lt)
        have K10:=hide (Blk.new u1 62 #[.nilFunc])
        refine wp_alloc (z:=.nilFunc) (cs:=#[.nilFunc]) rfl (by kernel_rfl) rfl ⟨hS2,?_⟩
        obtain ⟨b10,hq⟩:∃ q,u1.heap.size = q:=⟨_,rfl⟩
        rw [hq] at K10 g_b10 n_b9_b10 ⊢
        obtain ⟨u2,hw⟩:∃ x,u1.alloc (.cells #[.nilFunc] 62) = x:=⟨_,rfl⟩
        rw [hw] at hS2 K10 K9 ⊢
        clear hb hw hq
        go_frame
        refine wpAnyH_1 1 rfl (by kernel_rfl) ?_
        refine wp_call [PV la A n c] rfl rfl eCoeffs rfl ((coefficients_b la A n c _).mono ?_)
        rintro e v3 ⟨ca,rfl,hge,hka,hb⟩
        have hS3:Below wr.heap.size wr v3:=hS2.trans (hb.mono hS2.size)
        have g_ca:wr.heap.size ≤ ca:=by have:=hS2.size;omega
        have n_b9_ca:b9 < ca:=by have:=K9.out.lt;omega
        have n_b10_ca:b10 < ca:=by have:=K10.out.lt;omega
        replace K9:=hide (K9.out.below hb K9.out.lt)
        replace K10:=hide (K10.out.below hb K10.out.lt)
        have KA:=hide hka
        clear hb hka
        refine ⟨_,rfl,hS3,?_⟩
        go_frame
        refine wpAnyH_1 3 rfl (by kernel_rfl) ?_
        refine wp_call [PV lb B m d] rfl rfl eCoeffs rfl ((coefficients_b lb B m d _).mono ?_)
        rintro e v4 ⟨cb,rfl,hge,hkb,hb⟩
        have hS4:Below wr.heap.size wr v4:=hS3.trans (hb.mono hS3.size)
        have g_cb:wr.heap.size ≤ cb:=by have:=hS3.size;omega
        have n_b9_cb:b9 < cb:=by have:=K9.out.lt;omega
        have n_b10_cb:b10 < cb:=by have:=K10.out.lt;omega
        have n_ca_cb:ca < cb:=by have:=KA.out.lt;omega
        replace K9:=hide (K9.out.below hb K9.out.lt)
        replace K10:=hide (K10.out.below hb K10.out.lt)
        replace KA:=hide (KA.out.below hb KA.out.lt)
        have KB:=hide hkb
        clear hb hkb
        refine ⟨_,rfl,hS4,?_⟩
        go_frame
        refine wpAnyH_1 6 rfl (by kernel_rfl) ?_
        have hS5:Below wr.heap.size wr (v4.setCell ⟨b9,0,none⟩ (.func (.func 51) #[] #[.pointer (some ⟨ca,0,none⟩)])):=hS4.setCell (p:=⟨b9,0,none⟩) g_b9 _
        have hcell:=K9.out.cell 0
        have hfro:=K9.out.frozen 0
        simp at hcell
        refine wp_storeF rfl (by kernel_rfl) (by kernel_rfl) rfl rfl hcell hfro ⟨hS5,?_⟩
        replace K9:=hide (K9.out.set_ 0 (.func (.func 51) #[] #[.pointer (some ⟨ca,0,none⟩)]))
        replace K10:=hide (K10.out.far (p:=⟨b9,0,none⟩) (show b10 ≠ b9 by omega) (.func (.func 51) #[] #[.pointer (some ⟨ca,0,none⟩)]))
        replace KA:=hide (KA.out.far (p:=⟨b9,0,none⟩) (show ca ≠ b9 by omega) (.func (.func 51) #[] #[.pointer (some ⟨ca,0,none⟩)]))
        replace KB:=hide (KB.out.far (p:=⟨b9,0,none⟩) (show cb ≠ b9 by omega) (.func (.func 51) #[] #[.pointer (some ⟨ca,0,none⟩)]))
        obtain ⟨x6,hw⟩:∃ x,v4.setCell ⟨b9,0,none⟩ (.func (.func 51) #[] #[.pointer (some ⟨ca,0,none⟩)]) = x:=⟨_,rfl⟩
        rw [hw] at hS5 K9 K10 KA KB ⊢
        clear hw hcell hfro
        go_frame
        refine wpAnyH_1 7 rfl (by kernel_rfl) ?_
        have hS6:Below wr.heap.size wr (x6.setCell ⟨b10,0,none⟩ (.func (.func 51) #[] #[.pointer (some ⟨cb,0,none⟩)])):=hS5.setCell (p:=⟨b10,0,none⟩) g_b10 _
        have hcell:=K10.out.cell 0
        have hfro:=K10.out.frozen 0
        simp at hcell
        refine wp_storeF rfl (by kernel_rfl) (by kernel_rfl) rfl rfl hcell hfro ⟨hS6,?_⟩
        replace K9:=hide (K9.out.far (p:=⟨b10,0,none⟩) (show b9 ≠ b10 by omega) (.func (.func 51) #[] #[.pointer (some ⟨cb,0,none⟩)]))
        replace K10:=hide (K10.out.set_ 0 (.func (.func 51) #[] #[.pointer (some ⟨cb,0,none⟩)]))
        replace KA:=hide (KA.out.far (p:=⟨b10,0,none⟩) (show ca ≠ b10 by omega) (.func (.func 51) #[] #[.pointer (some ⟨cb,0,none⟩)]))
        replace KB:=hide (KB.out.far (p:=⟨b10,0,none⟩) (show cb ≠ b10 by omega) (.func (.func 51) #[] #[.pointer (some ⟨cb,0,none⟩)]))
        obtain ⟨x7,hw⟩:∃ x,x6.setCell ⟨b10,0,none⟩ (.func (.func 51) #[] #[.pointer (some ⟨cb,0,none⟩)]) = x:=⟨_,rfl⟩
        rw [hw] at hS6 K9 K10 KA KB ⊢
        clear hw hcell hfro
        go_frame
        refine wpAnyH_done (by kernel_rfl) (noPanic_mk ?_) _
        go_wp2_with fail
        go_meet
        exact ⟨b9,b10,ca,cb,rfl,rfl,K9.out,K10.out,KA.out,KB.out,hS6⟩
    · have hS1:Below wr.heap.size wr (wr.drew.alloc (.cells #[.nilFunc] 62)):=hS0.alloc hS0.size _
      have hb:Below wr.drew.heap.size wr.drew (wr.drew.alloc (.cells #[.nilFunc] 62)):=(Below.refl _ _).alloc (Nat.le_refl _) _
      have g_b10:wr.heap.size ≤ wr.drew.heap.size:=hS0.size
      have K10:=hide (Blk.new wr.drew 62 #[.nilFunc])
      refine wp_alloc (z:=.nilFunc) (cs:=#[.nilFunc]) rfl (by kernel_rfl) rfl ⟨hS1,?_⟩
      obtain ⟨b10,hq⟩:∃ q,wr.drew.heap.size = q:=⟨_,rfl⟩
      rw [hq] at K10 g_b10 ⊢
      obtain ⟨u1,hw⟩:∃ x,wr.drew.alloc (.cells #[.nilFunc] 62) = x:=⟨_,rfl⟩
      rw [hw] at hS1 K10 ⊢
      clear hb hw hq
      go_frame
      refine wpAnyH_2 1 4 rfl rfl (by kernel_rfl) ?_ ?_
      · refine wp_call [PV la A n c] rfl rfl eCoeffs rfl ((coefficients_b la A n c _).mono ?_)
        rintro e v2 ⟨ca,rfl,hge,hka,hb⟩
        have hS2:Below wr.heap.size wr v2:=hS1.trans (hb.mono hS1.size)
        have g_ca:wr.heap.size ≤ ca:=by have:=hS1.size;omega
        have n_b10_ca:b10 < ca:=by have:=K10.out.lt;omega
        replace K10:=hide (K10.out.below hb K10.out.lt)
        have KA:=hide hka
        clear hb hka
        refine ⟨_,rfl,hS2,?_⟩
        go_frame
        refine wpAnyH_2 3 4 rfl rfl (by kernel_rfl) ?_ ?_
        · refine wp_call [PV lb B m d] rfl rfl eCoeffs rfl ((coefficients_b lb B m d _).mono ?_)
          rintro e v3 ⟨cb,rfl,hge,hkb,hb⟩
          have hS3:Below wr.heap.size wr v3:=hS2.trans (hb.mono hS2.size)
          have g_cb:wr.heap.size ≤ cb:=by have:=hS2.size;omega
          have n_b10_cb:b10 < cb:=by have:=K10.out.lt;omega
          have n_ca_cb:ca < cb:=by have:=KA.out.lt;omega
          replace K10:=hide (K10.out.below hb K10.out.lt)
          replace KA:=hide (KA.out.below hb KA.out.lt)
          have KB:=hide hkb
          clear hb hkb
          refine ⟨_,rfl,hS3,?_⟩
          go_frame
          refine wpAnyH_1 4 rfl (by kernel_rfl) ?_
          have hS4:Below wr.heap.size wr (v3.alloc (.cells #[.nilFunc] 62)):=hS3.alloc hS3.size _
          have hb:Below v3.heap.size v3 (v3.alloc (.cells #[.nilFunc] 62)):=(Below.refl _ _).alloc (Nat.le_refl _) _
          have g_b9:wr.heap.size ≤ v3.heap.size:=hS3.size
          have n_b10_b9:b10 < v3.heap.size:=K10.out.lt
          have n_ca_b9:ca < v3.heap.size:=KA.out.lt
          have n_cb_b9:cb < v3.heap.size:=KB.out.lt
          replace K10:=hide (K10.out.below hb K10.out.lt)
          replace KA:=hide (KA.out.below hb KA.out.lt)
          replace KB:=hide (KB.out.below hb KB.out.lt)
          have K9:=hide (Blk.new v3 62 #[.nilFunc])
          refine wp_alloc (z:=.nilFunc) (cs:=#[.nilFunc]) rfl (by kernel_rfl) rfl ⟨hS4,?_⟩
          obtain ⟨b9,hq⟩:∃ q,v3.heap.size = q:=⟨_,rfl⟩
          rw [hq] at K9 g_b9 n_b10_b9 n_ca_b9 n_cb_b9 ⊢
          obtain ⟨u4,hw⟩:∃ x,v3.alloc (.cells #[.nilFunc] 62) = x:=⟨_,rfl⟩
          rw [hw] at hS4 K9 K10 KA KB ⊢
          clear hb hw hq
          go_frame
          refine wpAnyH_1 6 rfl (by kernel_rfl) ?_
          have hS5:Below wr.heap.size wr (u4.setCell ⟨b9,0,none⟩ (.func (.func 51) #[] #[.pointer (some ⟨ca,0,none⟩)])):=hS4.setCell (p:=⟨b9,0,none⟩) g_b9 _
          have hcell:=K9.out.cell 0
          have hfro:=K9.out.frozen 0
          simp at hcell
          refine wp_storeF rfl (by kernel_rfl) (by kernel_rfl) rfl rfl hcell hfro ⟨hS5,?_⟩
          replace K10:=hide (K10.out.far (p:=⟨b9,0,none⟩) (show b10 ≠ b9 by omega) (.func (.func 51) #[] #[.pointer (some ⟨ca,0,none⟩)]))
          replace KA:=hide (KA.out.far (p:=⟨b9,0,none⟩) (show ca ≠ b9 by omega) (.func (.func 51) #[] #[.pointer (some ⟨ca,0,none⟩)]))
          replace KB:=hide (KB.out.far (p:=⟨b9,0,none⟩) (show cb ≠ b9 by omega) (.func (.func 51) #[] #[.pointer (some ⟨ca,0,none⟩)]))
          replace K9:=hide (K9.out.set_ 0 (.func (.func 51) #[] #[.pointer (some ⟨ca,0,none⟩)]))
          obtain ⟨x6,hw⟩:∃ x,u4.setCell ⟨b9,0,none⟩ (.func (.func 51) #[] #[.pointer (some ⟨ca,0,none⟩)]) = x:=⟨_,rfl⟩
          rw [hw] at hS5 K10 KA KB K9 ⊢
          clear hw hcell hfro
          go_frame
          refine wpAnyH_1 7 rfl (by kernel_rfl) ?_
          have hS6:Below wr.heap.size wr (x6.setCell ⟨b10,0,none⟩ (.func (.func 51) #[] #[.pointer (some ⟨cb,0,none⟩)])):=hS5.setCell (p:=⟨b10,0,none⟩) g_b10 _
          have hcell:=K10.out.cell 0
          have hfro:=K10.out.frozen 0
          simp at hcell
          refine wp_storeF rfl (by kernel_rfl) (by kernel_rfl) rfl rfl hcell hfro ⟨hS6,?_⟩
          replace K10:=hide (K10.out.set_ 0 (.func (.func 51) #[] #[.pointer (some ⟨cb,0,none⟩)]))
          replace KA:=hide (KA.out.far (p:=⟨b10,0,none⟩) (show ca ≠ b10 by omega) (.func (.func 51) #[] #[.pointer (some ⟨cb,0,none⟩)]))
          replace KB:=hide (KB.out.far (p:=⟨b10,0,none⟩) (show cb ≠ b10 by omega) (.func (.func 51) #[] #[.pointer (some ⟨cb,0,none⟩)]))
          replace K9:=hide (K9.out.far (p:=⟨b10,0,none⟩) (show b9 ≠ b10 by omega) (.func (.func 51) #[] #[.pointer (some ⟨cb,0,none⟩)]))
          obtain ⟨x7,hw⟩:∃ x,x6.setCell ⟨b10,0,none⟩ (.func (.func 51) #[] #[.pointer (some ⟨cb,0,none⟩)]) = x:=⟨_,rfl⟩
          rw [hw] at hS6 K10 KA KB K9 ⊢
          clear hw hcell hfro
          go_frame
          refine wpAnyH_done (by kernel_rfl) (noPanic_mk ?_) _
          go_wp2_with fail
          go_meet
          exact ⟨b9,b10,ca,cb,rfl,rfl,K9.out,K10.out,KA.out,KB.out,hS6⟩
        · have hS3:Below wr.heap.size wr (v2.alloc (.cells #[.nilFunc] 62)):=hS2.alloc hS2.size _
          have hb:Below v2.heap.size v2 (v2.alloc (.cells #[.nilFunc] 62)):=(Below.refl _ _).alloc (Nat.le_refl _) _
          have g_b9:wr.heap.size ≤ v2.heap.size:=hS2.size
          have n_b10_b9:b10 < v2.heap.size:=K10.out.lt
          have n_ca_b9:ca < v2.heap.size:=KA.out.lt
          replace K10:=hide (K10.out.below hb K10.out.lt)
          replace KA:=hide (KA.out.below hb KA.out.lt)
          have K9:=hide (Blk.new v2 62 #[.nilFunc])
          refine wp_alloc (z:=.nilFunc) (cs:=#[.nilFunc]) rfl (by kernel_rfl) rfl ⟨hS3,?_⟩
          obtain ⟨b9,hq⟩:∃ q,v2.heap.size = q:=⟨_,rfl⟩
          rw [hq] at K9 g_b9 n_b10_b9 n_ca_b9 ⊢
          obtain ⟨u3,hw⟩:∃ x,v2.alloc (.cells #[.nilFunc] 62) = x:=⟨_,rfl⟩
          rw [hw] at hS3 K9 K10 KA ⊢
          clear hb hw hq
          go_frame
          refine wpAnyH_1 3 rfl (by kernel_rfl) ?_
          refine wp_call [PV lb B m d] rfl rfl eCoeffs rfl ((coefficients_b lb B m d _).mono ?_)
          rintro e v4 ⟨cb,rfl,hge,hkb,hb⟩
          have hS4:Below wr.heap.size wr v4:=hS3.trans (hb.mono hS3.size)
          have g_cb:wr.heap.size ≤ cb:=by have:=hS3.size;omega
          have n_b10_cb:b10 < cb:=by have:=K10.out.lt;omega
          have n_ca_cb:ca < cb:=by have:=KA.out.lt;omega
          have n_b9_cb:b9 < cb:=by have:=K9.out.lt;omega
          replace K10:=hide (K10.out.below hb K10.out.lt)
          replace KA:=hide (KA.out.below hb KA.out.lt)
          replace K9:=hide (K9.out.below hb K9.out.lt)
          have KB:=hide hkb
          clear hb hkb
          refine ⟨_,rfl,hS4,?_⟩
          go_frame
          refine wpAnyH_1 6 rfl (by kernel_rfl) ?_
          have hS5:Below wr.heap.size wr (v4.setCell ⟨b9,0,none⟩ (.func (.func 51) #[] #[.pointer (some ⟨ca,0,none⟩)])):=hS4.setCell (p:=⟨b9,0,none⟩) g_b9 _
          have hcell:=K9.out.cell 0
          have hfro:=K9.out.frozen 0
          simp at hcell
          refine wp_storeF rfl (by kernel_rfl) (by kernel_rfl) rfl rfl hcell hfro ⟨hS5,?_⟩
          replace K10:=hide (K10.out.far (p:=⟨b9,0,none⟩) (show b10 ≠ b9 by omega) (.func (.func 51) #[] #[.pointer (some ⟨ca,0,none⟩)]))
          replace KA:=hide (KA.out.far (p:=⟨b9,0,none⟩) (show ca ≠ b9 by omega) (.func (.func 51) #[] #[.pointer (some ⟨ca,0,none⟩)]))
          replace K9:=hide (K9.out.set_ 0 (.func (.func 51) #[] #[.pointer (some ⟨ca,0,none⟩)]))
          replace KB:=hide (KB.out.far (p:=⟨b9,0,none⟩) (show cb ≠ b9 by omega) (.func (.func 51) #[] #[.pointer (some ⟨ca,0,none⟩)]))
          obtain ⟨x6,hw⟩:∃ x,v4.setCell ⟨b9,0,none⟩ (.func (.func 51) #[] #[.pointer (some ⟨ca,0,none⟩)]) = x:=⟨_,rfl⟩
          rw [hw] at hS5 K10 KA K9 KB ⊢
          clear hw hcell hfro
          go_frame
          refine wpAnyH_1 7 rfl (by kernel_rfl) ?_
          have hS6:Below wr.heap.size wr (x6.setCell ⟨b10,0,none⟩ (.func (.func 51) #[] #[.pointer (some ⟨cb,0,none⟩)])):=hS5.setCell (p:=⟨b10,0,none⟩) g_b10 _
          have hcell:=K10.out.cell 0
          have hfro:=K10.out.frozen 0
          simp at hcell
          refine wp_storeF rfl (by kernel_rfl) (by kernel_rfl) rfl rfl hcell hfro ⟨hS6,?_⟩
          replace K10:=hide (K10.out.set_ 0 (.func (.func 51) #[] #[.pointer (some ⟨cb,0,none⟩)]))
          replace KA:=hide (KA.out.far (p:=⟨b10,0,none⟩) (show ca ≠ b10 by omega) (.func (.func 51) #[] #[.pointer (some ⟨cb,0,none⟩)]))
          replace K9:=hide (K9.out.far (p:=⟨b10,0,none⟩) (show b9 ≠ b10 by omega) (.func (.func 51) #[] #[.pointer (some ⟨cb,0,none⟩)]))
          replace KB:=hide (KB.out.far (p:=⟨b10,0,none⟩) (show cb ≠ b10 by omega) (.func (.func 51) #[] #[.pointer (some ⟨cb,0,none⟩)]))
          obtain ⟨x7,hw⟩:∃ x,x6.setCell ⟨b10,0,none⟩ (.func (.func 51) #[] #[.pointer (some ⟨cb,0,none⟩)]) = x:=⟨_,rfl⟩
          rw [hw] at hS6 K10 KA K9 KB ⊢
          clear hw hcell hfro
          go_frame
          refine wpAnyH_done (by kernel_rfl) (noPanic_mk ?_) _
          go_wp2_with fail
          go_meet
          exact ⟨b9,b10,ca,cb,rfl,rfl,K9.out,K10.out,KA.out,KB.out,hS6⟩
      · have hS2:Below wr.heap.size wr (u1.alloc (.cells #[.nilFunc] 62)):=hS1.alloc hS1.size _
        have hb:Below u1.heap.size u1 (u1.alloc (.cells #[.nilFunc] 62)):=(Below.refl _ _).alloc (Nat.le_refl _) _
        have g_b9:wr.heap.size ≤ u1.heap.size:=hS1.size
        have n_b10_b9:b10 < u1.heap.size:=K10.out.lt
        replace K10:=hide (K10.out.below hb K10.out.lt)
        have K9:=hide (Blk.new u1 62 #[.nilFunc])
        refine wp_alloc (z:=.nilFunc) (cs:=#[.nilFunc]) rfl (by kernel_rfl) rfl ⟨hS2,?_⟩
        obtain ⟨b9,hq⟩:∃ q,u1.heap.size = q:=⟨_,rfl⟩
        rw [hq] at K9 g_b9 n_b10_b9 ⊢
        obtain ⟨u2,hw⟩:∃ x,u1.alloc (.cells #[.nilFunc] 62) = x:=⟨_,rfl⟩
        rw [hw] at hS2 K9 K10 ⊢
        clear hb hw hq
        go_frame
        refine wpAnyH_1 1 rfl (by kernel_rfl) ?_
        refine wp_call [PV la A n c] rfl rfl eCoeffs rfl ((coefficients_b la A n c _).mono ?_)
        rintro e v3 ⟨ca,rfl,hge,hka,hb⟩
        have hS3:Below wr.heap.size wr v3:=hS2.trans (hb.mono hS2.size)
        have g_ca:wr.heap.size ≤ ca:=by have:=hS2.size;omega
        have n_b10_ca:b10 < ca:=by have:=K10.out.lt;omega
        have n_b9_ca:b9 < ca:=by have:=K9.out.lt;omega
        replace K10:=hide (K10.out.below hb K10.out.lt)
        replace K9:=hide (K9.out.below hb K9.out.lt)
        have KA:=hide hka
        clear hb hka
        refine ⟨_,rfl,hS3,?_⟩
        go_frame
        refine wpAnyH_1 3 rfl (by kernel_rfl) ?_
        refine wp_call [PV lb B m d] rfl rfl eCoeffs rfl ((coefficients_b lb B m d _).mono ?_)
        rintro e v4 ⟨cb,rfl,hge,hkb,hb⟩
        have hS4:Below wr.heap.size wr v4:=hS3.trans (hb.mono hS3.size)
        have g_cb:wr.heap.size ≤ cb:=by have:=hS3.size;omega
        have n_b10_cb:b10 < cb:=by have:=K10.out.lt;omega
        have n_b9_cb:b9 < cb:=by have:=K9.out.lt;omega
        have n_ca_cb:ca < cb:=by have:=KA.out.lt;omega
        replace K10:=hide (K10.out.below hb K10.out.lt)
        replace K9:=hide (K9.out.below hb K9.out.lt)
        replace KA:=hide (KA.out.below hb KA.out.lt)
        have KB:=hide hkb
        clear hb hkb
        refine ⟨_,rfl,hS4,?_⟩
        go_frame
        refine wpAnyH_1 6 rfl (by kernel_rfl) ?_
        have hS5:Below wr.heap.size wr (v4.setCell ⟨b9,0,none⟩ (.func (.func 51) #[] #[.pointer (some ⟨ca,0,none⟩)])):=hS4.setCell (p:=⟨b9,0,none⟩) g_b9 _
        have hcell:=K9.out.cell 0
        have hfro:=K9.out.frozen 0
        simp at hcell
        refine wp_storeF rfl (by kernel_rfl) (by kernel_rfl) rfl rfl hcell hfro ⟨hS5,?_⟩
        replace K10:=hide (K10.out.far (p:=⟨b9,0,none⟩) (show b10 ≠ b9 by omega) (.func (.func 51) #[] #[.pointer (some ⟨ca,0,none⟩)]))
        replace K9:=hide (K9.out.set_ 0 (.func (.func 51) #[] #[.pointer (some ⟨ca,0,none⟩)]))
        replace KA:=hide (KA.out.far (p:=⟨b9,0,none⟩) (show ca ≠ b9 by omega) (.func (.func 51) #[] #[.pointer (some ⟨ca,0,none⟩)]))
        replace KB:=hide (KB.out.far (p:=⟨b9,0,none⟩) (show cb ≠ b9 by omega) (.func (.func 51) #[] #[.pointer (some ⟨ca,0,none⟩)]))
        obtain ⟨x6,hw⟩:∃ x,v4.setCell ⟨b9,0,none⟩ (.func (.func 51) #[] #[.pointer (some ⟨ca,0,none⟩)]) = x:=⟨_,rfl⟩
        rw [hw] at hS5 K10 K9 KA KB ⊢
        clear hw hcell hfro
        go_frame
        refine wpAnyH_1 7 rfl (by kernel_rfl) ?_
        have hS6:Below wr.heap.size wr (x6.setCell ⟨b10,0,none⟩ (.func (.func 51) #[] #[.pointer (some ⟨cb,0,none⟩)])):=hS5.setCell (p:=⟨b10,0,none⟩) g_b10 _
        have hcell:=K10.out.cell 0
        have hfro:=K10.out.frozen 0
        simp at hcell
        refine wp_storeF rfl (by kernel_rfl) (by kernel_rfl) rfl rfl hcell hfro ⟨hS6,?_⟩
        replace K10:=hide (K10.out.set_ 0 (.func (.func 51) #[] #[.pointer (some ⟨cb,0,none⟩)]))
        replace K9:=hide (K9.out.far (p:=⟨b10,0,none⟩) (show b9 ≠ b10 by omega) (.func (.func 51) #[] #[.pointer (some ⟨cb,0,none⟩)]))
        replace KA:=hide (KA.out.far (p:=⟨b10,0,none⟩) (show ca ≠ b10 by omega) (.func (.func 51) #[] #[.pointer (some ⟨cb,0,none⟩)]))
        replace KB:=hide (KB.out.far (p:=⟨b10,0,none⟩) (show cb ≠ b10 by omega) (.func (.func 51) #[] #[.pointer (some ⟨cb,0,none⟩)]))
        obtain ⟨x7,hw⟩:∃ x,x6.setCell ⟨b10,0,none⟩ (.func (.func 51) #[] #[.pointer (some ⟨cb,0,none⟩)]) = x:=⟨_,rfl⟩
        rw [hw] at hS6 K10 K9 KA KB ⊢
        clear hw hcell hfro
        go_frame
        refine wpAnyH_done (by kernel_rfl) (noPanic_mk ?_) _
        go_wp2_with fail
        go_meet
        exact ⟨b9,b10,ca,cb,rfl,rfl,K9.out,K10.out,KA.out,KB.out,hS6⟩
  case rest =>
    obtain ⟨b9,b10,ca,cb,rfl,rfl,k9,k10,ka,kb,hb⟩:=hcut
    replace HA:=hide (HA.out.below hb)
    replace HB:=hide (HB.out.below hb)
    replace HW:=hide (HW.out.trans (hb.mono HW.out.size))
    replace BA:=hide (BA.out.below hb BA.out.lt)
    replace BB:=hide (BB.out.below hb BB.out.lt)
    replace BO:=hide (BO.out.below hb BO.out.lt)
    replace BR:=hide (BR.out.below hb BR.out.lt)
    have K9:=hide k9
    have K10:=hide k10
    have KA:=hide ka
    have KB:=hide kb
    clear hb k9 k10 ka kb LA LB
    go_upto_region 5 with fail
    obtain ⟨lo,hlo⟩:∃ lo,min la lb = lo:=⟨_,rfl⟩
    obtain ⟨N,hN⟩:∃ N:Nat,max (la + n) (lb + m) = lo + N:=⟨(max (la + n) (lb + m) - lo).toNat,by omega⟩
    have hN2:N ≤ 100000:=by omega
    have hlo2:lo.natAbs ≤ 100000:=by omega
    have HCL:Hid (∀ v,Below wc.heap.size wc v → AnsI Tryz.prog 74 [.pointer (some ⟨w.heap.size + 1 + 1,0,none⟩),.pointer (some ⟨b9,0,none⟩),.pointer (some ⟨b10,0,none⟩)] v.heap.size v lo (lo + N) (LP.co z)):=hide (fun v hv => ⟨eCombX,fun w' hw' e h1 h2 => by
      have hv':Below wc.heap.size wc w':=hv.trans (hw'.mono hv.size)
      rw [HZ.out e]
      exact combX_any op hent HOP.out _ b9 b10 ca cb w' (HA.out.below hv') (HB.out.below hv') (by omega) (by omega) (by omega) (by omega) HXA.out HXB.out (BO.out.below hv' BO.out.lt) (K9.out.below hv' K9.out.lt) (K10.out.below hv' K10.out.lt) (KA.out.below hv' KA.out.lt) (KB.out.below hv' KB.out.lt) e (by omega)⟩)
    have HZS:Hid (∀ k,LP.co z k ≠ 0 → lo ≤ k ∧ k < lo + N):=hide (fun k hk => by
      by_cases h:lo ≤ k ∧ k < lo + N
      · exact h
      · refine absurd ?_ hk
        have h1:LP.co (LP.of la xs) k = 0:=by
          rw [LP.co_of,hla,if_neg (by omega)]
        have h2:LP.co (LP.of lb ys) k = 0:=by
          rw [LP.co_of,hlb,if_neg (by omega)]
        rw [HZ.out k,h1,h2,h00])
    refine wp_region_noPanic ?_
    have hge:w.heap.size + 1 + 1 + 1 ≤ wc.heap.size:=by have:=BR.out.lt;omega
    have hS0:Below wc.heap.size wc wc.drew:=(Below.refl _ _).drew
    refine wp_region_held_drew (S:=fun x => Below (w.heap.size + 1 + 1 + 1) wc x) (by kernel_rfl) (hS0.mono hge) (fun hT0 => ?_)
    refine wpAnyH_tk 0 (v:=.pointer (some ⟨w.heap.size,0,none⟩)) rfl (by kernel_rfl) (by kernel_rfl) (by kernel_rfl) (yi rfl fun w' hw' => gives_fld rfl Tryz.underlying26 rfl rfl rfl (fun w => rfl)) hT0 ?_
    go_frame
    refine wpAnyH_tk 1 (v:=.int .i64 la) rfl (by kernel_rfl) (by kernel_rfl) (by kernel_rfl) (yi rfl fun w' hw' => gives_load1 rfl (by kernel_rfl) rfl (by have h:=(BA.out.below hw' (by omega)).cell 0;simpa using h)) hT0 ?_
    go_frame
    refine wpAnyH_tk 2 (v:=.pointer (some ⟨w.heap.size + 1,0,none⟩)) rfl (by kernel_rfl) (by kernel_rfl) (by kernel_rfl) (yi rfl fun w' hw' => gives_fld rfl Tryz.underlying26 rfl rfl rfl (fun w => rfl)) hT0 ?_
    go_frame
    refine wpAnyH_tk 3 (v:=.int .i64 lb) rfl (by kernel_rfl) (by kernel_rfl) (by kernel_rfl) (yi rfl fun w' hw' => gives_load1 rfl (by kernel_rfl) rfl (by have h:=(BB.out.below hw' (by omega)).cell 0;simpa using h)) hT0 ?_
    go_frame
    refine wpAnyH_tk 4 (v:=.int .i64 lo) rfl (by kernel_rfl) (by kernel_rfl) (by kernel_rfl) (yi rfl fun w' hw' => gives_minI rfl rfl rfl hlo) hT0 ?_
    go_frame
    refine wpAnyH_tk 5 (v:=PV la A n c) rfl (by kernel_rfl) (by kernel_rfl) (by kernel_rfl) (yi rfl fun x hx => gives_loadRow rfl rfl (BA.out.below hx (by omega)) Tryz.underlying26 (by kernel_rfl) (by kernel_rfl)) hT0 ?_
    go_frame
    refine wpAnyH_tk 7 (v:=PV lb B m d) rfl (by kernel_rfl) (by kernel_rfl) (by kernel_rfl) (yi rfl fun x hx => gives_loadRow rfl rfl (BB.out.below hx (by omega)) Tryz.underlying26 (by kernel_rfl) (by kernel_rfl)) hT0 ?_
    go_frame
    refine wpAnyH_tk 10 (v:=.func (.func 74) #[] #[.pointer (some ⟨w.heap.size + 1 + 1,0,none⟩),.pointer (some ⟨b9,0,none⟩),.pointer (some ⟨b10,0,none⟩)]) rfl (by kernel_rfl) (by kernel_rfl) (by kernel_rfl) (yi rfl fun x hx => gives_makeFunc rfl rfl) hT0 ?_
    go_frame
    refine wpAnyH_1 6 rfl (by kernel_rfl) ?_
    refine wp_call [PV la A n c] rfl rfl eEndOf rfl ((endOf_b la A n c _ (by omega) (by omega)).mono ?_)
    rintro e v1 ⟨rfl,hb⟩
    have hS1:Below wc.heap.size wc v1:=hS0.trans (hb.mono hS0.size)
    have hT1:Below (w.heap.size + 1 + 1 + 1) wc v1:=hS1.mono hge
    refine ⟨_,rfl,hT1,?_⟩
    clear hb
    go_frame
    refine wpAnyH_1 8 rfl (by kernel_rfl) ?_
    refine wp_call [PV lb B m d] rfl rfl eEndOf rfl ((endOf_b lb B m d _ (by omega) (by omega)).mono ?_)
    rintro e v2 ⟨rfl,hb⟩
    have hS2:Below wc.heap.size wc v2:=hS1.trans (hb.mono hS1.size)
    have hT2:Below (w.heap.size + 1 + 1 + 1) wc v2:=hS2.mono hge
    refine ⟨_,rfl,hT2,?_⟩
    clear hb
    go_frame
    refine wpAnyH_tk 9 (v:=.int .i64 (lo + N)) rfl (by kernel_rfl) (by kernel_rfl) (by kernel_rfl) (yi rfl fun w' hw' => gives_maxI rfl rfl rfl hN) hT2 ?_
    go_frame
    refine wpAnyH_1 11 rfl (by kernel_rfl) ?_
    refine wp_call [.int .i64 lo,.int .i64 (lo + N),.func (.func 74) #[] #[.pointer (some ⟨w.heap.size + 1 + 1,0,none⟩),.pointer (some ⟨b9,0,none⟩),.pointer (some ⟨b10,0,none⟩)]] rfl rfl eCollect rfl ((collect_any (caps:=[.pointer (some ⟨w.heap.size + 1 + 1,0,none⟩),.pointer (some ⟨b9,0,none⟩),.pointer (some ⟨b10,0,none⟩)]) lo N z v2 (HCL.out v2 hS2) HZS.out hlo2 hN2).mono ?_)
    rintro e v3 ⟨R3,rn,rc,rfl,hsl,hnw,hb⟩
    have hS3:Below wc.heap.size wc v3:=hS2.trans (hb.mono hS2.size)
    have hfar:0 < rn → ∀ ad,R3 = some ad → wc.heap.size ≤ ad.block:=fun h ad e => by have:=hnw h ad e;have:=hS2.size;omega
    have HSL:=hide hsl
    clear hb hnw hsl
    have hT3:Below (w.heap.size + 1 + 1 + 1) wc v3:=hS3.mono hge
    refine ⟨_,rfl,hT3,?_⟩
    generalize LP.fit z = Z at *
    go_frame
    refine wpAnyH_tk 12 (v:=PV Z.2.1 R3 rn rc) rfl (by kernel_rfl) (by kernel_rfl) (by kernel_rfl) (yi rfl fun w' hw' => gives_extract rfl rfl rfl) hT3 ?_
    go_frame
    refine wpAnyH_tk 13 (v:=.int .i64 Z.1) rfl (by kernel_rfl) (by kernel_rfl) (by kernel_rfl) (yi rfl fun w' hw' => gives_extract rfl rfl rfl) hT3 ?_
    go_frame
    have hbr:=BR.out.below hS3 BR.out.lt
    have hlr:=BR.out.lt
    refine wpAnyH_1 14 rfl (by kernel_rfl) ?_
    have HW9:Below w.heap.size w (v3.setRow (w.heap.size + 1 + 1 + 1) #[.int .i64 Z.2.1,.slice R3 rn rc]):=Below.setRow_ (HW.out.trans (hS3.mono HW.out.size)) (by omega) _
    have hT4:Below (w.heap.size + 1 + 1 + 1) wc (v3.setRow (w.heap.size + 1 + 1 + 1) #[.int .i64 Z.2.1,.slice R3 rn rc]):=Below.setRow_ hT3 (Nat.le_refl _) _
    have HSL9:=HSL.out.setRow_ (b:=w.heap.size + 1 + 1 + 1) (fun h ad e => by have:=hfar h ad e;omega) #[.int .i64 Z.2.1,.slice R3 rn rc]
    refine wp_storeRow rfl rfl rfl hbr (by kernel_rfl) rfl (by kernel_rfl) ⟨hT4,?_⟩
    go_frame
    refine wpAnyH_tk 15 (v:=.int .i64 Z.1) rfl (by kernel_rfl) (by kernel_rfl) (by kernel_rfl) (yi rfl fun w' hw' => gives_move (.inr rfl) rfl) hT4 ?_
    go_frame
    refine wpAnyH_done (by kernel_rfl) (noPanic_mk ?_) _
    have hbk9:Blk (v3.setRow (w.heap.size + 1 + 1 + 1) #[.int .i64 Z.2.1,.slice R3 rn rc]) (w.heap.size + 1 + 1 + 1) 26 #[.int .i64 Z.2.1,.slice R3 rn rc]:=setRow_heap _ _ _ _ _ _ hbr
    have HW10:=hide HW9
    have HSL10:=hide HSL9
    have HBK10:=hide hbk9
    have HFAR:=hide hfar
    clear hS0 hS1 hS2 hS3 hT0 hT1 hT2 hT3 hT4 HW9 HSL9 hbk9 hbr hfar hlo hN
    generalize v3.setRow (w.heap.size + 1 + 1 + 1) #[.int .i64 Z.2.1,.slice R3 rn rc] = v4 at *
    go_wp2_with fail
    refine bodyPost_ret (results_pe rfl _ rfl rfl HBK10.out) rfl ?_
    rw [HTE.out]
    exact ⟨R3,rn,rc,rfl,HSL10.out,fun h ad e => by have:=HFAR.out h ad e;omega,HW10.out⟩
end Go.Proofs.YtndgffiihbdppaaGreatDoor
