/- Several texts in one. -/
import Derived.Test.YtndgffiihbdppaaGreatDoorPart30
import Derived.Test.YtndgffiihbdppaaGreatDoorPart28
import Derived.Test.YtndgffiihbdppaaGreatDoorPart18
import Derived.Test.YtndgffiihbdppaaGreatDoorPart19
namespace Go.Proofs.YtndgffiihbdppaaGreatDoor
set_option linter.unusedVariables false
set_option linter.unusedSimpArgs false
open Go.RowKit

def Tl.conC (n:Nat) (z:Int) (k:Nat):List Int:=(List.range k).foldl (fun X i => (X.set i ((n + i:Nat):Int)).set (n + i) (i:Int)) (List.replicate (2 * n) z)
theorem Tl.conC_succ (n:Nat) (z:Int) (k:Nat):Tl.conC n z (k + 1) = ((Tl.conC n z k).set k ((n + k:Nat):Int)).set (n + k) (k:Int):=by unfold Tl.conC;rw [List.range_succ,List.foldl_append];rfl
theorem Tl.conC_all:(List.range 7).all (fun n => decide (Tl.conC n 0 n = zs (Tl.straight n)) && decide (Tl.conC n (-1) n = (List.range (2 * n)).map fun i => Tl.jv (Tl.jntC n i))) = true:=by decide +kernel
theorem Tl.conC_id {n:Nat} (h6:n ≤ 6):Tl.conC n 0 n = zs (Tl.straight n):=by
  have h1:=Tl.conC_all
  rw [List.all_eq_true] at h1
  have h2:=h1 n (List.mem_range.2 (by omega))
  rw [Bool.and_eq_true,decide_eq_true_eq] at h2
  exact h2.1
theorem Tl.conC_getD {n:Nat} (h6:n ≤ 6) {i:Nat} (hi:i < 2 * n):(Tl.conC n (-1) n).getD i 0 = Tl.jv (Tl.jntC n i):=by
  have h1:=Tl.conC_all
  rw [List.all_eq_true] at h1
  have h2:=h1 n (List.mem_range.2 (by omega))
  rw [Bool.and_eq_true,decide_eq_true_eq,decide_eq_true_eq] at h2
  rw [h2.2]
  simp [List.getD,hi]

set_option maxRecDepth 100000 in
set_option maxHeartbeats 4000000 in
theorem ident_any (m:Int) (w:World) (hm:(Lit.int .i64 m).wf = true):Calls Tryz.prog 81 #[.int .i64 m] w fun e w' => ∃ A n c,e = .returned (.tuple #[.slice A n c,.int .i64 (tlE m)]) ∧ (OwnI w' w.heap.size A n c (idL m)) ∧ Below w.heap.size w w':=by
  have HS:=hide (tisSize_any m w hm)
  by_cases h1:1 ≤ m ∧ m ≤ 6
  case neg =>
    have HE:Hid (tlE m = 1 ∧ idL m = []):=hide (by
      have e:tlE m = 1:=by unfold tlE;rw [if_pos (by omega)]
      exact ⟨e,by unfold idL;rw [e,if_neg (by omega)]⟩)
    rw [decide_eq_false h1] at HS
    rw [HE.out.1,HE.out.2]
    clear h1 hm HE
    go_enter Tryz.func81,Tryz.ntmps81
    go_wp2_with fail
    refine HS.out.mono ?_
    rintro e w1 ⟨rfl,hww⟩
    subst hww
    go_wp2_with fail
    go_ret2
    exact ⟨none,0,0,rfl,OwnI.nil_ _ _,Below.refl _ _⟩
  obtain ⟨n,rfl⟩:∃ k:Nat,m = (k:Int):=⟨m.toNat,by omega⟩
  rw [decide_eq_true h1] at HS
  obtain ⟨N,hN⟩:∃ N,2 * n = N:=⟨_,rfl⟩
  have hw2:IntKind.i64.wrap (2 * (n:Int)) = (N:Int):=by rw [IntKind.wrap_i64];omega
  have hn1:1 ≤ n:=by omega
  have hn6:n ≤ 6:=by omega
  rw [tlE_ok hn1 hn6,idL_ok hn1 hn6,← Tl.conC_id hn6]
  have HN:=hide hN
  have HN2:Hid (n + n = N):=hide (by omega)
  have hN12:N ≤ 12:=by omega
  have hN0:0 < N:=by omega
  clear hN h1 hm
  obtain ⟨i0,hi0,hz0,hz1,hz2⟩:=info_parts int_info
  go_enter Tryz.func81,Tryz.ntmps81
  go_wp2_with fail
  refine HS.out.mono ?_
  rintro e w1 ⟨rfl,hww⟩
  subst hww
  clear HS
  go_wp2_with (at_make;refine wpList_make_full _ rfl _ _ 23 rfl w.heap.size 3 i0 (.int .i64 0) 1 Tryz.underlying23 hi0 hz0 hz1 .i64 .i64 _ _ N rfl rfl rfl rfl (by rw [hz2];omega) (by unfold maxLen;omega) (Nat.le_refl _) ?_;intro w1 hown1 hg1)
  have hB1:=hide ((Below.refl w.heap.size w).grown hg1 (Nat.le_refl _) (by intro k hk;cases hk))
  have HO1:Hid (OwnI w1 w.heap.size (some ⟨w.heap.size,0,none⟩) N N (Tl.conC n 0 0)):=hide (by unfold Tl.conC;rw [HN.out];exact OwnI.zero (z:=#[]) hown1 (by omega))
  clear hown1 hg1 hi0 hz0 hz1 hz2
  obtain ⟨g,hg⟩:∃ g,w.heap.size = g:=⟨_,rfl⟩
  have HGE:=hide hg
  rw [hg] at HO1 hB1 ⊢
  clear hg
  go_loopw [13] (fun iv wr => ∃ k:Nat,iv = .int .i64 k ∧ k ≤ n ∧ Hid (OwnI wr g (some ⟨g,0,none⟩) N N (Tl.conC n 0 k)) ∧ Hid (Below g w wr)) (fun iv _ => n - (intOf iv).toNat)
  case atStart => exact ⟨0,rfl,Nat.zero_le _,HO1,hB1⟩
  case round =>
    clear HO1 hB1
    obtain ⟨k,rfl,hk,HO,HB⟩:=hrel
    by_cases hlt:k < n
    · obtain ⟨i2,hi2⟩:∃ i,n + k = i:=⟨_,rfl⟩
      have hv2:IntKind.i64.wrap ((n:Int) + (k:Int)) = (i2:Int):=by rw [IntKind.wrap_i64];omega
      have HCON:=hide (connect_any g N N g k i2 (Tl.conC n 0 k) wr HO.out (by have:=HN2.out;omega) (by have:=HN2.out;omega) (by omega))
      have HO2:=hide ((HO.out.set_ k (i2:Int)).set_ i2 (k:Int))
      have HSJ:Hid (((Tl.conC n 0 k).set k (i2:Int)).set i2 (k:Int) = Tl.conC n 0 (k + 1)):=hide (by rw [Tl.conC_succ,hi2])
      rw [HSJ.out] at HO2
      have HB2:=hide ((HB.out.setCell (p:=⟨g,k,none⟩) (Nat.le_refl _) (.int .i64 (i2:Int))).setCell (p:=⟨g,i2,none⟩) (Nat.le_refl _) (.int .i64 (k:Int)))
      clear hi2 HSJ HO HB
      go_wp2_with fail
      refine HCON.out.mono ?_
      rintro e w5 ⟨rfl,hw5⟩
      rw [← hw5] at HO2 HB2
      clear hw5 HCON
      go_wp2_with fail
      go_roundw
      case rel => exact ⟨k + 1,by go_num,by omega,HO2,HB2⟩
      case measure => simp [intOf];omega
    · have hkE:k = n:=by omega
      have HO2:Hid (OwnI wr g (some ⟨g,0,none⟩) N N (Tl.conC n 0 n)):=hide (by have h:=HO.out;rwa [hkE] at h)
      clear hkE HO
      go_wp2_with fail
      go_ret2
      rw [HGE.out]
      exact ⟨_,N,N,rfl,HO2.out,HB.out⟩

set_option maxRecDepth 100000 in
set_option maxHeartbeats 4000000 in
theorem gener_any (m i:Int) (w:World) (hm:(Lit.int .i64 m).wf = true) (hi:(Lit.int .i64 i).wf = true):Calls Tryz.prog 84 #[.int .i64 m,.int .i64 i] w (GivesTL w (geE m i) (geL m i)):=by
  have HID:=hide (ident_any m w hm)
  by_cases h1:1 ≤ m ∧ m ≤ 6
  case neg =>
    have HE:Hid (tlE m = 1 ∧ geE m i = 1 ∧ geL m i = []):=hide (by
      have e:tlE m = 1:=by unfold tlE;rw [if_pos (by omega)]
      have e2:geE m i = 1:=by unfold geE;rw [e,if_pos (by omega)]
      exact ⟨e,e2,by unfold geL;rw [e2,if_neg (by omega)]⟩)
    rw [HE.out.1] at HID
    rw [HE.out.2.1,HE.out.2.2]
    clear h1 hm HE
    go_enter Tryz.func84,Tryz.ntmps84
    go_wp2_with fail
    refine HID.out.mono ?_
    rintro e w1 ⟨A,n,c,rfl,ho,hb⟩
    go_wp2_with fail
    go_ret2
    exact ⟨none,0,0,rfl,SL.nil_ _,hb⟩
  obtain ⟨n,rfl⟩:∃ k:Nat,m = (k:Int):=⟨m.toNat,by omega⟩
  have hn1:1 ≤ n:=by omega
  have hn6:n ≤ 6:=by omega
  rw [tlE_ok hn1 hn6,idL_ok hn1 hn6] at HID
  by_cases h2:i < 1
  · have HE:Hid (geE n i = 1 ∧ geL n i = []):=hide (by
      have e2:geE n i = 1:=by unfold geE;rw [if_pos (.inr (.inl h2))]
      exact ⟨e2,by unfold geL;rw [e2,if_neg (by omega)]⟩)
    rw [HE.out.1,HE.out.2]
    have hd:=decide_eq_true h2
    clear h1 hm HE h2
    go_enter Tryz.func84,Tryz.ntmps84
    go_wp2_with fail
    refine HID.out.mono ?_
    rintro e w1 ⟨A,q,c,rfl,ho,hb⟩
    go_wp2_with fail
    go_ret2
    exact ⟨none,0,0,rfl,SL.nil_ _,hb⟩
  have hd2:=decide_eq_false h2
  by_cases h3:(n:Int) ≤ i
  · have HE:Hid (geE n i = 1 ∧ geL n i = []):=hide (by
      have e2:geE n i = 1:=by unfold geE;rw [if_pos (.inr (.inr h3))]
      exact ⟨e2,by unfold geL;rw [e2,if_neg (by omega)]⟩)
    rw [HE.out.1,HE.out.2]
    have hd:=decide_eq_true h3
    clear h1 hm HE h2 h3
    go_enter Tryz.func84,Tryz.ntmps84
    go_wp2_with fail
    refine HID.out.mono ?_
    rintro e w1 ⟨A,q,c,rfl,ho,hb⟩
    go_wp2_with fail
    go_ret2
    exact ⟨none,0,0,rfl,SL.nil_ _,hb⟩
  have hd3:=decide_eq_false h3
  obtain ⟨k,rfl⟩:∃ k:Nat,i = ((k + 1:Nat):Int):=⟨(i - 1).toNat,by omega⟩
  have hkn:k + 1 < n:=by omega
  rw [geE_ok (by omega) hkn hn6,geL_ok (by omega) hkn hn6]
  have hsl:(Tl.straight n).length = 2 * n:=by unfold Tl.straight;simp
  have HH:Hid (zs (Tl.hook n (k + 1)) = ((((zs (Tl.straight n)).set k ((k + 1:Nat):Int)).set (k + 1) (k:Int)).set (n + k) ((n + (k + 1):Nat):Int)).set (n + (k + 1)) ((n + k:Nat):Int)):=hide (by
    unfold Tl.hook
    rw [zs_set,zs_set,zs_set,zs_set,Nat.add_sub_cancel,show n + (k + 1) - 1 = n + k by omega])
  rw [HH.out]
  have HSL:=hide hsl
  obtain ⟨k1,hk1⟩:∃ j,k + 1 = j:=⟨_,rfl⟩
  obtain ⟨p,hp⟩:∃ j,n + k = j:=⟨_,rfl⟩
  obtain ⟨q,hq⟩:∃ j,n + k1 = j:=⟨_,rfl⟩
  rw [hk1] at hd2 hd3 hkn ⊢
  rw [hp,hq]
  have hv1:IntKind.i64.wrap ((k1:Int) - 1) = (k:Int):=by rw [IntKind.wrap_i64];omega
  have hv2:IntKind.i64.wrap ((n:Int) + (k1:Int)) = (q:Int):=by rw [IntKind.wrap_i64];omega
  have hv3:IntKind.i64.wrap ((q:Int) - 1) = (p:Int):=by rw [IntKind.wrap_i64];omega
  have hkn2:k < n:=by omega
  have HPQ:Hid (p + 1 = q ∧ q < 2 * n):=hide (by omega)
  clear h1 hm hi h2 h3 HH hsl hk1 hp hq
  go_enter Tryz.func84,Tryz.ntmps84
  go_wp2_with fail
  refine HID.out.mono ?_
  rintro e w1 ⟨A,l,c,rfl,ho,hb⟩
  have hl:l = 2 * n:=by have:=ho.len;rw [zs_length,HSL.out] at this;exact this.symm
  obtain ⟨g,rfl,hg1,hg2⟩:=ho.form (by omega)
  have HC1:=hide (connect_any g l c w.heap.size k k1 _ w1 ho (by omega) (by omega) (by omega))
  have hs1:=(ho.set_ k (k1:Int)).set_ k1 (k:Int)
  have hB1:=(hb.setCell (p:=⟨g,k,none⟩) hg1 (.int .i64 (k1:Int))).setCell (p:=⟨g,k1,none⟩) hg1 (.int .i64 (k:Int))
  have HC2:=hide (connect_any g l c w.heap.size p q _ _ hs1 (by have:=HPQ.out;omega) (by have:=HPQ.out;omega) (by omega))
  have HS2:=hide ((hs1.set_ p (q:Int)).set_ q (p:Int))
  have HB2:=hide ((hB1.setCell (p:=⟨g,p,none⟩) hg1 (.int .i64 (q:Int))).setCell (p:=⟨g,q,none⟩) hg1 (.int .i64 (p:Int)))
  clear ho hb hs1 hB1 hl HID HPQ HSL
  go_wp2_with fail
  refine HC1.out.mono ?_
  rintro e w2 ⟨rfl,hw2⟩
  rw [← hw2] at HC2 HS2 HB2
  clear hw2 HC1
  go_wp2_with fail
  refine HC2.out.mono ?_
  rintro e w3 ⟨rfl,hw3⟩
  rw [← hw3] at HS2 HB2
  clear hw3 HC2
  go_wp2_with fail
  go_ret2
  exact ⟨_,l,c,rfl,HS2.out.sl,HB2.out⟩

theorem pointOf_any (n e:Nat) (w:World) (hn:n ≤ 1000) (he:e < 4 * n) (h:e < n ∨ 2 * n ≤ e):Calls Tryz.prog 96 #[.int .i64 n,.int .i64 e] w fun e2 w' => e2 = .returned (.int .i64 (Tl.pt2 n e:Nat)) ∧ w = w':=by
  obtain ⟨p,hp⟩:∃ p,Tl.pt2 n e = p:=⟨_,rfl⟩
  rw [hp]
  unfold Tl.pt2 at hp
  by_cases h1:e < n
  · rw [if_pos h1] at hp
    subst hp
    have hd:decide ((e:Int) < (n:Int)) = true:=decide_eq_true (by omega)
    have hdn:decide (e < n) = true:=decide_eq_true h1
    clear h1 h
    go_enter Tryz.func96,Tryz.ntmps96
    go_wp2_with fail
    go_ret
    exact ⟨rfl,rfl⟩
  · rw [if_neg h1] at hp
    obtain ⟨T,hT⟩:∃ T,2 * n = T:=⟨_,rfl⟩
    have hd:decide ((e:Int) < (n:Int)) = false:=decide_eq_false (by omega)
    have hdn:decide (e < n) = false:=decide_eq_false h1
    have hv1:IntKind.i64.wrap (2 * (n:Int)) = (T:Int):=by rw [IntKind.wrap_i64];omega
    have hv2:IntKind.i64.wrap ((e:Int) - (T:Int)) = (p:Int):=by rw [IntKind.wrap_i64];omega
    clear h1 h hp hT he
    go_enter Tryz.func96,Tryz.ntmps96
    go_wp2_with fail
    go_ret
    exact ⟨rfl,rfl⟩
structure PrS (n:Nat) (a b:List Nat) (P:Nat → Bool) (row:List Int) (T:Nat → Bool):Prop where
  ex:∃ (E:Nat → Nat) (V:Nat → Nat → Bool),(∀ q,q < 2 * n → P q = true → Tl.Fol (4 * n) (Tl.lin2 n a b) (Tl.jnt2 n) (Tl.st2 n q) (E q) (V q)) ∧ row = (List.range (2 * n)).map fun q => if P q = true then ((Tl.pt2 n (E q):Nat):Int) else 0
  cl:Tl.Cl (4 * n) (Tl.lin2 n a b) (Tl.jnt2 n) T
  has:∀ q,q < 2 * n → P q = true → T (Tl.st2 n q) = true
  sub:∀ U:Nat → Bool,Tl.Cl (4 * n) (Tl.lin2 n a b) (Tl.jnt2 n) U → (∀ q,q < 2 * n → U (Tl.st2 n q) = true) → ∀ x,x < 4 * n → T x = true → U x = true
theorem PrS.start (n:Nat) (a b:List Nat):PrS n a b (fun _ => false) (List.replicate (2 * n) 0) (fun _ => false):=by
  refine ⟨⟨fun _ => 0,fun _ _ => false,fun q _ h => (by cases h),?_⟩,⟨fun i _ h => (by cases h),fun i j _ _ h => (by cases h)⟩,fun q _ h => (by cases h),fun U _ _ x _ h => (by cases h)⟩
  exact (List.eq_replicate_iff.2 ⟨by simp,fun z hz => by obtain ⟨i,_,rfl⟩:=List.mem_map.1 hz;rfl⟩).symm
theorem PrS.step {n:Nat} {a b:List Nat} {P:Nat → Bool} {row:List Int} {T:Nat → Bool} (h:PrS n a b P row T) {q E:Nat} {V:Nat → Bool} (hq:q < 2 * n) (hF:Tl.Fol (4 * n) (Tl.lin2 n a b) (Tl.jnt2 n) (Tl.st2 n q) E V) :
    PrS n a b (fun x => P x || x == q) (row.set q ((Tl.pt2 n E:Nat):Int)) (fun x => T x || V x):=by
  obtain ⟨E0,V0,h1,h2⟩:=h.ex
  refine ⟨⟨fun x => if x = q then E else E0 x,fun x => if x = q then V else V0 x,fun x hx hp => ?_,?_⟩,h.cl.or hF.cl,fun x hx hp => ?_,fun U hU h3 x hx hp => ?_⟩
  · by_cases e:x = q
    · subst e
      simpa using hF
    · simp only [if_neg e]
      refine h1 x hx ?_
      rw [Bool.or_eq_true,beq_iff_eq] at hp
      exact hp.resolve_right e
  · rw [h2]
    refine List.ext_getElem (by simp) fun j k1 k2 => ?_
    rw [List.getElem_set]
    by_cases e:q = j
    · subst e
      rw [if_pos rfl,List.getElem_map,List.getElem_range,if_pos (by simp)]
      simp
    · have ne:¬ j = q:=fun k => e k.symm
      rw [if_neg e,List.getElem_map,List.getElem_map,List.getElem_range]
      simp [ne]
  · rw [Bool.or_eq_true,beq_iff_eq] at hp
    rcases hp with hp | hp
    · show (T _ || V _) = true
      rw [h.has x hx hp,Bool.true_or]
    · subst hp
      show (T _ || V _) = true
      rw [hF.st,Bool.or_true]
  · rcases Bool.or_eq_true_iff.1 hp with hp | hp
    · exact h.sub U hU h3 x hx hp
    · exact hF.sub U hU (h3 q hq) x hx hp
theorem PrS.congr {n:Nat} {a b:List Nat} {P Q:Nat → Bool} {row:List Int} {T:Nat → Bool} (h:PrS n a b P row T) (he:∀ q,q < 2 * n → P q = Q q):PrS n a b Q row T:=by
  obtain ⟨E0,V0,h1,h2⟩:=h.ex
  refine ⟨⟨E0,V0,fun q hq hp => h1 q hq (by rw [he q hq];exact hp),?_⟩,h.cl,fun q hq hp => h.has q hq (by rw [he q hq];exact hp),h.sub⟩
  rw [h2]
  exact List.map_congr_left fun q hq => by rw [he q (List.mem_range.1 hq)]
theorem PrS.fin {n:Nat} {a b:List Nat} {row:List Int} {T:Nat → Bool} (h6:n ≤ 6) (ha:a ∈ Tl.plan n) (hb:b ∈ Tl.plan n) (h:PrS n a b (fun _ => true) row T):row = zs (Tl.mul n a b).1 ∧ Tl.cntS (Tl.pl2 n) (4 * n) (Tl.labS n [a,b]) T = n:=by
  obtain ⟨E,V,h1,h2⟩:=h.ex
  have hF:∀ k,k < 2 * n → Tl.Fol (4 * n) (Tl.lin2 n a b) (Tl.jnt2 n) (Tl.st2 n k) (E k) (V k):=fun k hk => h1 k hk rfl
  refine ⟨?_,Tl.fol_cnt h6 ha hb hF h.cl (fun k hk => h.has k hk rfl) h.sub⟩
  rw [h2,Tl.fol_mul h6 ha hb hF]
  unfold zs
  rw [List.map_map]
  rfl

theorem Tl.Fol.out2 {n q E:Nat} {a b:List Nat} {V:Nat → Bool} (h:Tl.Fol (4 * n) (Tl.lin2 n a b) (Tl.jnt2 n) (Tl.st2 n q) E V) (hq:q < 2 * n):E < 4 * n ∧ (E < n ∨ 2 * n ≤ E):=by
  refine ⟨h.elt,?_⟩
  have h1:=(h.ends (Tl.st2_none hq)).1
  unfold Tl.jnt2 at h1
  by_cases h2:E < n
  · exact .inl h2
  · rw [if_neg h2] at h1
    by_cases h3:E < 2 * n
    · rw [if_pos h3] at h1;cases h1
    · exact .inr (by omega)
theorem prs_next {n k q:Nat} (hk:k < n) (hq:q < 2 * n):(((decide (q < k) || (decide (n ≤ q) && decide (q < n + k))) || q == k) || q == n + k) = (decide (q < k + 1) || (decide (n ≤ q) && decide (q < n + (k + 1)))):=by
  rw [Bool.eq_iff_iff]
  simp only [Bool.or_eq_true,Bool.and_eq_true,decide_eq_true_eq,beq_iff_eq]
  omega
theorem seen_other {w w':World} {base N lg lc jg jc sg:Nat} {ls js:List Int} {T:Nat → Bool} (h:DiaM w base N lg lc jg jc sg ls js T) (hg:w.grownBy w' (some sg)):KeepT 3 w w':=by
  obtain ⟨cs,hB⟩:=h.seen.blk
  refine KeepT.grown hg fun k hk => ?_
  obtain rfl:=Option.some.inj hk
  exact ⟨4,cs,hB,by decide⟩

set_option maxRecDepth 100000 in
set_option maxHeartbeats 8000000 in
theorem product_ok (n:Nat) (A:Option Addr) (an ac:Nat) (a:List Nat) (B:Option Addr) (bn bc:Nat) (b:List Nat) (w:World) (ha:SL w A an ac (zs a)) (hb:SL w B bn bc (zs b)) (h0:1 ≤ n) (h6:n ≤ 6) (pa:a ∈ Tl.plan n) (pb:b ∈ Tl.plan n) :
    Calls Tryz.prog 86 #[.int .i64 n,.slice A an ac,.slice B bn bc] w (GivesTLK w 0 ((Tl.mul n a b).2:Nat) (zs (Tl.mul n a b).1)):=by
  have Ba:=Tl.plan_base h6 pa
  have Bb:=Tl.plan_base h6 pb
  have hla:=Ba.mat.ok.1
  have hlb:=Bb.mat.ok.1
  have HC1:=hide (tcheck_any n A an ac (zs a) w ha (wf_nat (by omega)))
  rw [plan_fault h0 h6 pa] at HC1
  have HC2:=hide (fun (w':World) (h:SL w' B bn bc (zs b)) => by
    have h2:=tcheck_any n B bn bc (zs b) w' h (wf_nat (by omega))
    rw [plan_fault h0 h6 pb] at h2
    exact h2)
  have HST:=hide (fun (w':World) (h1:SL w' A an ac (zs a)) (h2:SL w' B bn bc (zs b)) => stack_p n A an ac a B bn bc b w' h1 h2 hla hlb Bb.mat.ok.2 h0 h6)
  have HLB:=hide (Tl.lb2 Ba Bb)
  have HLS:Hid (∀ i,i < 4 * n → (zs (Tl.ls2 n a b)).getD i 0 = (Tl.lin2 n a b i:Int)):=hide (fun i hi => by rw [zs_getD,Tl.ls2_getD hla hlb hi])
  have HJS:Hid (∀ i,i < 4 * n → (Tl.conJ n n).getD i 0 = Tl.jv (Tl.jnt2 n i)):=hide (fun i hi => Tl.conJ_getD h6 hi)
  have HFIN:=hide (fun (row:List Int) (T:Nat → Bool) (h:PrS n a b (fun _ => true) row T) => h.fin h6 pa pb)
  have HPL:Hid ((Tl.mul n a b).2 + n = Tl.cnt (Tl.labS n [a,b])):=hide (by
    have h1:=HLB.out
    show Tl.cnt (Tl.labS n [a,b]) - n + n = _
    have:=Tl.two_le Ba Bb
    omega)
  obtain ⟨N,hN⟩:∃ N,2 * n = N:=⟨_,rfl⟩
  obtain ⟨M,hM⟩:∃ M,4 * n = M:=⟨_,rfl⟩
  have HN:=hide hN
  have HM:=hide hM
  have hw2:IntKind.i64.wrap (2 * (n:Int)) = (N:Int):=by rw [IntKind.wrap_i64];omega
  have hw3:IntKind.i64.wrap (3 * (n:Int)) = ((3 * n:Nat):Int):=by rw [IntKind.wrap_i64];omega
  have hN12:N ≤ 12:=by omega
  have HA:=hide ha
  have HB:=hide hb
  rw [hM] at HST HLB HLS HJS
  clear hN hM ha hb pa pb Ba Bb hla hlb
  go_enter Tryz.func86,Tryz.ntmps86
  go_wp2_with fail
  refine HC1.out.mono ?_
  rintro e w1 ⟨rfl,hb1⟩
  have HB1:=hide hb1
  clear hb1 HC1
  go_wp2_with fail
  refine (HC2.out w1 (HB.out.below HB1.out)).mono ?_
  rintro e w2 ⟨rfl,hb2⟩
  have HB2:=hide (HB1.out.trans (hb2.mono HB1.out.size))
  clear hb2 HC2 HB1
  go_wp2_with fail
  refine (HST.out w2 (HA.out.below HB2.out) (HB.out.below HB2.out)).mono ?_
  rintro e w3 ⟨lg,lc,jg,jc,sg,rfl,hd,hb3⟩
  have HD3:=hide (hd.mono HB2.out.size)
  have HB3:=hide (HB2.out.trans (hb3.mono HB2.out.size))
  clear hd hb3 HST HB2 HA HB
  generalize zs (Tl.ls2 n a b) = ls at *
  generalize Tl.conJ n n = js at *
  have hMp:0 < M:=by have:=HM.out;omega
  have hlt3:lg < w3.heap.size ∧ jg < w3.heap.size ∧ sg < w3.heap.size:=by
    obtain ⟨g1,e1,_,h1⟩:=HD3.out.lines.form hMp
    obtain ⟨g2,e2,_,h2⟩:=HD3.out.joints.form hMp
    obtain ⟨g3,e3,_,h3⟩:=HD3.out.seen.form hMp
    simp only [Option.some.injEq,Addr.mk.injEq] at e1 e2 e3
    omega
  have HBB:=hide (Blk.new w3 123 #[.slice (some ⟨lg,0,none⟩) M lc,.slice (some ⟨jg,0,none⟩) M jc,.slice (some ⟨sg,0,none⟩) M M])
  have HD4:=hide (HD3.out.below ((Below.refl _ _).alloc (Nat.le_refl _) (.cells #[.slice (some ⟨lg,0,none⟩) M lc,.slice (some ⟨jg,0,none⟩) M jc,.slice (some ⟨sg,0,none⟩) M M] 123)))
  have HB4:=hide (HB3.out.alloc HB3.out.size (.cells #[.slice (some ⟨lg,0,none⟩) M lc,.slice (some ⟨jg,0,none⟩) M jc,.slice (some ⟨sg,0,none⟩) M M] 123))
  have hs4:w3.heap.size < (w3.alloc (.cells #[.slice (some ⟨lg,0,none⟩) M lc,.slice (some ⟨jg,0,none⟩) M jc,.slice (some ⟨sg,0,none⟩) M M] 123)).heap.size:=by rw [World.size_alloc];omega
  go_upto_region 8 with fail
  generalize w3.alloc (.cells #[.slice (some ⟨lg,0,none⟩) M lc,.slice (some ⟨jg,0,none⟩) M jc,.slice (some ⟨sg,0,none⟩) M M] 123) = w4 at *
  generalize w3.heap.size = gb at *
  clear HD3 HB3
  obtain ⟨i0,hi0,hz0,hz1,hz2⟩:=info_parts int_info
  go_wp2_with (at_make;refine wpList_make_full _ rfl _ _ 23 rfl w4.heap.size 3 i0 (.int .i64 0) 1 Tryz.underlying23 hi0 hz0 hz1 .i64 .i64 _ _ N rfl rfl rfl rfl (by rw [hz2];omega) (by unfold maxLen;omega) (Nat.le_refl _) ?_;intro w5 hown5 hg5)
  have hb5:Below w4.heap.size w4 w5:=(Below.refl _ _).grown hg5 (Nat.le_refl _) (by intro k hk;cases hk)
  have HO5:Hid (OwnI w5 w.heap.size (some ⟨w4.heap.size,0,none⟩) N N (List.replicate N 0)):=hide ((OwnI.zero (z:=#[]) hown5 (by omega)).mono HB4.out.size)
  have HD5:=hide (HD4.out.below hb5)
  have HB5:=hide (HB4.out.trans (hb5.mono HB4.out.size))
  have HBB5:=hide (HBB.out.below hb5 (by omega))
  have hdg:w.heap.size ≤ w4.heap.size ∧ gb < w4.heap.size:=⟨HB4.out.size,by omega⟩
  clear hown5 hg5 hb5 hi0 hz0 hz1 hz2 HD4 HB4 HBB hs4
  generalize w4.heap.size = dg at *
  have HP0:Hid (PrS n a b (fun q => decide (q < 0) || (decide (n ≤ q) && decide (q < n + 0))) (List.replicate N 0) (fun _ => false)):=hide (by
    rw [← HN.out]
    refine (PrS.start n a b).congr fun q hq => ?_
    by_cases e:n ≤ q
    · simp [e]
    · simp [e])
  go_wp2_with fail
  go_loopw [34] (fun iv wr => ∃ (k:Nat) (row:List Int) (T:Nat → Bool),iv = .int .i64 k ∧ k ≤ n ∧ Hid (PrS n a b (fun q => decide (q < k) || (decide (n ≤ q) && decide (q < n + k))) row T) ∧ Hid (OwnI wr w.heap.size (some ⟨dg,0,none⟩) N N row) ∧ Hid (DiaM wr w.heap.size M lg lc jg jc sg ls js T) ∧ Hid (Below w.heap.size w wr) ∧ Hid (Blk wr gb 123 #[.slice (some ⟨lg,0,none⟩) M lc,.slice (some ⟨jg,0,none⟩) M jc,.slice (some ⟨sg,0,none⟩) M M])) (fun iv _ => n - (intOf iv).toNat)
  case atStart => exact ⟨0,_,_,rfl,Nat.zero_le _,HP0,HO5,HD5,HB5,HBB5⟩
  case round =>
    clear HP0 HO5 HD5 HB5 HBB5
    obtain ⟨k,row,T,rfl,hk,HP,HO,HD,HBW,HBB⟩:=hrel
    by_cases hlt:k < n
    · have hc0:=HBB.out.cell 0
      have hc1:=HBB.out.cell 1
      have hc2:=HBB.out.cell 2
      simp at hc0 hc1 hc2
      have hkN:k < 2 * n:=by omega
      have HF1:=hide (follow_any w.heap.size M lg lc jg jc sg ls js T _ _ (Tl.st2 n k) wr HD.out HLS.out HJS.out HLB.out.dg (by have:=HM.out;have:=Tl.st2_lt hkN;omega) (by have:=HM.out;omega) (.inl (Tl.st2_none hkN)))
      have hst1:Tl.st2 n k = k:=by unfold Tl.st2;rw [if_pos hlt]
      have HST1:=hide hst1
      rw [hst1] at HF1
      clear hst1
      go_wp2_with fail
      refine HF1.out.mono ?_
      rintro e w5 ⟨E,V,rfl,hf,hd5,hg5⟩
      rw [← HM.out,← HST1.out] at hf
      obtain ⟨he1,he2⟩:=hf.out2 hkN
      have HP5:=hide (HP.out.step hkN hf)
      have HPO:=hide (pointOf_any n E w5 (by omega) he1 he2)
      have HO5:=hide ((seen_other HD.out hg5).ownI HO.out)
      have HD5:=hide hd5
      have HB5:=hide (HBW.out.grown hg5 HBW.out.size (fun j hj => by rw [← Option.some.inj hj];exact HD.out.bs.2.2))
      have HBB5:=hide (HBB.out.grown hg5 (fun e => by have:=Option.some.inj e;omega))
      obtain ⟨p1,hp1⟩:∃ p,Tl.pt2 n E = p:=⟨_,rfl⟩
      rw [hp1] at HPO HP5
      clear hf hd5 hg5 HF1 HP HO HD HBW HBB he1 he2 hp1 hc0 hc1 hc2 HST1
      go_wp2_with fail
      refine HPO.out.mono ?_
      rintro e w6 ⟨rfl,hww⟩
      subst hww
      have hkN2:k < N:=by have:=HN.out;omega
      have hcd:=HO5.out.cell hkN2
      have hfd:=HO5.out.frozen k
      have HO6:=hide (HO5.out.set_ k (p1:Int))
      have HD6:=hide (HD5.out.off (g:=dg) (by omega) (by omega) (by omega) k (.int .i64 (p1:Int)))
      have HB6:=hide (HB5.out.setCell (p:=⟨dg,k,none⟩) hdg.1 (.int .i64 (p1:Int)))
      have HBB6:=hide (HBB5.out.far (p:=⟨dg,k,none⟩) (show gb ≠ dg by omega) (.int .i64 (p1:Int)))
      generalize row.getD k 0 = rk at hcd
      clear HPO HO5 HD5 HB5 HBB5
      go_upto_region 13 with fail
      generalize w5.setCell ⟨dg,k,none⟩ (.int .i64 (p1:Int)) = w6 at *
      clear hcd hfd
      have hnk:n + k < 2 * n:=by omega
      have HF2:=hide (follow_any w.heap.size M lg lc jg jc sg ls js _ _ _ (Tl.st2 n (n + k)) w6 HD6.out HLS.out HJS.out HLB.out.dg (by have:=HM.out;have:=Tl.st2_lt hnk;omega) (by have:=HM.out;omega) (.inl (Tl.st2_none hnk)))
      obtain ⟨s2,hs2⟩:∃ s,3 * n + k = s:=⟨_,rfl⟩
      have hst2:Tl.st2 n (n + k) = s2:=by unfold Tl.st2;rw [if_neg (by omega)];omega
      have HST2:=hide hst2
      rw [hst2] at HF2
      have hv1:IntKind.i64.wrap (((3 * n:Nat):Int) + (k:Int)) = (s2:Int):=by rw [IntKind.wrap_i64];omega
      obtain ⟨r2,hr2⟩:∃ s,n + k = s:=⟨_,rfl⟩
      have hv2:IntKind.i64.wrap ((n:Int) + (k:Int)) = (r2:Int):=by rw [IntKind.wrap_i64];omega
      have hc0:=HBB6.out.cell 0
      have hc1:=HBB6.out.cell 1
      have hc2:=HBB6.out.cell 2
      simp at hc0 hc1 hc2
      have HR2:=hide hr2
      obtain ⟨t3,ht3⟩:∃ s,3 * n = s:=⟨_,rfl⟩
      rw [ht3] at hw3 hv1
      clear hst2 hs2 hr2 ht3
      go_wp2_with fail
      refine HF2.out.mono ?_
      rintro e w7 ⟨E2,V2,rfl,hf,hd7,hg7⟩
      rw [← HM.out,← HST2.out] at hf
      obtain ⟨he1,he2⟩:=hf.out2 hnk
      have HP7:=hide ((HP5.out.step hnk hf).congr fun q hq => prs_next hlt hq)
      have HPO:=hide (pointOf_any n E2 w7 (by omega) he1 he2)
      have HO7:=hide ((seen_other HD6.out hg7).ownI HO6.out)
      have HD7:=hide hd7
      have HB7:=hide (HB6.out.grown hg7 HB6.out.size (fun j hj => by rw [← Option.some.inj hj];exact HD6.out.bs.2.2))
      have HBB7:=hide (HBB6.out.grown hg7 (fun e => by have:=Option.some.inj e;omega))
      obtain ⟨p2,hp2⟩:∃ p,Tl.pt2 n E2 = p:=⟨_,rfl⟩
      rw [hp2] at HPO HP7
      clear hf hd7 hg7 HF2 HP5 HO6 HD6 HB6 HBB6 he1 he2 hp2 hc0 hc1 hc2 HST2
      go_wp2_with fail
      refine HPO.out.mono ?_
      rintro e w8 ⟨rfl,hww⟩
      subst hww
      have hrN:r2 < N:=by have:=HN.out;have:=HR2.out;omega
      have hcd:=HO7.out.cell hrN
      have hfd:=HO7.out.frozen r2
      have HO8:=hide (HO7.out.set_ r2 (p2:Int))
      have HD8:=hide (HD7.out.off (g:=dg) (by omega) (by omega) (by omega) r2 (.int .i64 (p2:Int)))
      have HB8:=hide (HB7.out.setCell (p:=⟨dg,r2,none⟩) hdg.1 (.int .i64 (p2:Int)))
      have HBB8:=hide (HBB7.out.far (p:=⟨dg,r2,none⟩) (show gb ≠ dg by omega) (.int .i64 (p2:Int)))
      rw [HR2.out] at HP7
      generalize (row.set k (p1:Int)).getD r2 0 = rk2 at hcd
      clear HPO HO7 HD7 HB7 HBB7 hnk HR2
      go_wp2_with fail
      go_roundw
      case rel => exact ⟨k + 1,_,_,by go_num,by omega,HP7,HO8,HD8,HB8,HBB8⟩
      case measure => simp [intOf];omega
    · have hkE:k = n:=by omega
      have HPE:Hid (PrS n a b (fun _ => true) row T):=hide (HP.out.congr fun q hq => by
        rw [hkE]
        by_cases e:q < n
        · simp [e]
        · simp [e,show n ≤ q by omega,show q < n + n by omega])
      obtain ⟨hr,hcn⟩:=HFIN.out _ _ HPE.out
      have HTO:Hid (∀ x,x < M → Tl.jnt2 n x = none → T x = true):=hide (fun x hx h => by
        obtain ⟨h1,h2⟩:=Tl.st2_pt (by rw [HM.out];exact hx) h
        rw [← h2]
        exact HPE.out.has _ h1 rfl)
      have HCLT:Hid (Tl.Cl M (Tl.lin2 n a b) (Tl.jnt2 n) T):=hide (by rw [← HM.out];exact HPE.out.cl)
      have HCT:=hide (countLoops_any w.heap.size M lg lc jg jc sg (n * 3) ls js T _ _ _ _ wr HD.out HLS.out HJS.out HLB.out (by have:=HM.out;omega) hMp (by omega) HCLT.out HTO.out)
      have HCN:=hide hcn
      have HR:=hide hr
      have hc0:=HBB.out.cell 0
      have hc1:=HBB.out.cell 1
      have hc2:=HBB.out.cell 2
      simp at hc0 hc1 hc2
      clear hr hcn HPE HP HTO HCLT hkE
      go_wp2_with fail
      refine HCT.out.mono ?_
      rintro e w9 ⟨l,rfl,hl,hg9⟩
      have hle:l = (Tl.mul n a b).2:=by
        have h1:=HCN.out
        rw [HM.out] at h1
        rw [h1,← HPL.out] at hl
        omega
      have HLE:=hide hle
      have HO9:=hide ((seen_other HD.out hg9).ownI HO.out)
      have HB9:=hide (HBW.out.grown hg9 HBW.out.size (fun j hj => by rw [← Option.some.inj hj];exact HD.out.bs.2.2))
      rw [HR.out] at HO9
      clear hle hl hg9 hc0 hc1 hc2 HCT
      go_wp2_with fail
      go_ret3
      rw [← HLE.out]
      exact ⟨_,N,N,rfl,HO9.out.sl,HB9.out⟩
end Go.Proofs.YtndgffiihbdppaaGreatDoor
namespace Go.Proofs.YtndgffiihbdppaaGreatDoor
set_option linter.unusedVariables false
set_option linter.unusedSimpArgs false
open Go.RowKit

set_option maxRecDepth 100000 in
set_option maxHeartbeats 4000000 in
theorem tproduct_any (m:Int) (A:Option Addr) (n c:Nat) (a:List Int) (B:Option Addr) (k d:Nat) (b:List Int) (w:World) (ha:SL w A n c a) (hb:SL w B k d b) (hm:(Lit.int .i64 m).wf = true) :
    Calls Tryz.prog 86 #[.int .i64 m,.slice A n c,.slice B k d] w (GivesTLK w (prE m a b) (prK m a b) (prL m a b)):=by
  have HC1:=hide (tcheck_any m A n c a w ha hm)
  by_cases h1:Tl.mtF m a = 0
  case neg =>
    have HE:Hid (prE m a b = Tl.mtF m a ∧ prK m a b = 0 ∧ prL m a b = []):=hide (by
      have e:prE m a b = Tl.mtF m a:=by unfold prE;rw [if_pos h1]
      exact ⟨e,by unfold prK;rw [e,if_neg h1],by unfold prL;rw [e,if_neg h1]⟩)
    rw [HE.out.1,HE.out.2.1,HE.out.2.2]
    obtain ⟨z,hz⟩:∃ z,Tl.mtF m a = z:=⟨_,rfl⟩
    rw [hz] at h1 HC1 ⊢
    have hne:(z != 0) = true:=by simpa using h1
    clear h1 hm HE hz
    go_enter Tryz.func86,Tryz.ntmps86
    go_wp2_with fail
    refine HC1.out.mono ?_
    rintro e w1 ⟨rfl,hb1⟩
    go_wp2_with fail
    go_ret3
    exact ⟨none,0,0,rfl,SL.nil_ _,hb1⟩
  have HC2:=hide (fun (w':World) (h:SL w' B k d b) => tcheck_any m B k d b w' h hm)
  by_cases h2:Tl.mtF m b = 0
  case neg =>
    have HE:Hid (prE m a b = Tl.mtF m b ∧ prK m a b = 0 ∧ prL m a b = []):=hide (by
      have e:prE m a b = Tl.mtF m b:=by unfold prE;rw [if_neg (fun h => h h1)]
      exact ⟨e,by unfold prK;rw [e,if_neg h2],by unfold prL;rw [e,if_neg h2]⟩)
    rw [HE.out.1,HE.out.2.1,HE.out.2.2]
    rw [h1] at HC1
    obtain ⟨z,hz⟩:∃ z,Tl.mtF m b = z:=⟨_,rfl⟩
    rw [hz] at h2 HC2 ⊢
    have hne:(z != 0) = true:=by simpa using h2
    have HB:=hide hb
    clear h1 h2 hm HE hz hb
    go_enter Tryz.func86,Tryz.ntmps86
    go_wp2_with fail
    refine HC1.out.mono ?_
    rintro e w1 ⟨rfl,hb1⟩
    have HB1:=hide hb1
    clear hb1 HC1
    go_wp2_with fail
    refine (HC2.out w1 (HB.out.below HB1.out)).mono ?_
    rintro e w2 ⟨rfl,hb2⟩
    have HB2:=hide (HB1.out.trans (hb2.mono HB1.out.size))
    clear hb2
    go_wp2_with fail
    go_ret3
    exact ⟨none,0,0,rfl,SL.nil_ _,HB2.out⟩
  obtain ⟨q,rfl,h0,h6,x,hx,rfl⟩:=valid_plan h1
  obtain ⟨q',e,_,_,y,hy,rfl⟩:=valid_plan h2
  have e:q = q':=by omega
  subst e
  have h3:=product_ok q A n c x B k d y w ha hb h0 h6 hx hy
  have e1:=prE_ok h0 h6 hx hy
  have e2:=prL_ok h0 h6 hx hy
  rw [e1,e2.1,e2.2]
  exact h3

set_option maxRecDepth 100000 in
set_option maxHeartbeats 4000000 in
theorem tclosure_any (m:Int) (A:Option Addr) (l c:Nat) (d:List Int) (w:World) (ha:SL w A l c d) (hm:(Lit.int .i64 m).wf = true) :
    Calls Tryz.prog 88 #[.int .i64 m,.slice A l c] w fun e w' => e = .returned (.tuple #[.int .i64 (clK m d),.int .i64 (Tl.mtF m d)]) ∧ Below w.heap.size w w':=by
  have HC1:=hide (tcheck_any m A l c d w ha hm)
  by_cases h1:Tl.mtF m d = 0
  case neg =>
    have HE:Hid (clK m d = 0):=hide (by unfold clK;rw [if_neg h1])
    rw [HE.out]
    obtain ⟨z,hz⟩:∃ z,Tl.mtF m d = z:=⟨_,rfl⟩
    rw [hz] at h1 HC1 ⊢
    have hne:(z != 0) = true:=by simpa using h1
    clear h1 hm HE hz
    go_enter Tryz.func88,Tryz.ntmps88
    go_wp2_with fail
    refine HC1.out.mono ?_
    rintro e w1 ⟨rfl,hb1⟩
    go_wp2_with fail
    go_ret2
    exact ⟨rfl,hb1⟩
  obtain ⟨n,rfl,h0,h6,x,hx,rfl⟩:=valid_plan h1
  rw [h1,clK_ok h0 h6 hx]
  rw [h1] at HC1
  have Bx:=Tl.plan_base h6 hx
  have hlx:=Bx.mat.ok.1
  have HLB:=hide (Tl.lbC Bx)
  have HLS:Hid (∀ i,i < 2 * n → (zs x).getD i 0 = ((fun i => x.getD i 0) i:Int)):=hide (fun i hi => by rw [zs_getD])
  have HJS:Hid (∀ i,i < 2 * n → (Tl.conC n (-1) n).getD i 0 = Tl.jv (Tl.jntC n i)):=hide (fun i hi => Tl.conC_getD h6 hi)
  have HCI:Hid (Tl.cnt (Tl.joins (List.range (2 * n)) (Tl.cirE n x)) = Tl.cir n x):=hide rfl
  obtain ⟨N,hN⟩:∃ N,2 * n = N:=⟨_,rfl⟩
  have HN:=hide hN
  have HN2:Hid (n + n = N):=hide (by omega)
  have hN0:0 < N:=by omega
  have hN12:N ≤ 12:=by omega
  rw [hN] at HLB HLS HJS HCI hlx
  have HA:=hide ha
  have HLX:=hide hlx
  clear hN h1 hm hx Bx ha hlx
  go_enter Tryz.func88,Tryz.ntmps88
  go_wp2_with fail
  refine HC1.out.mono ?_
  rintro e w1 ⟨rfl,hb1⟩
  have HB1:=hide hb1
  clear hb1 HC1
  go_wp2_with fail
  refine (clone_any A l c (zs x) w1 (HA.out.below HB1.out).il HA.out.nil).mono ?_
  rintro e w2 ⟨D,q,qc,rfl,ho,hb2⟩
  have hq:q = N:=by have:=ho.len;rw [zs_length,HLX.out] at this;exact this.symm
  subst hq
  obtain ⟨lg,rfl,hl1,hl2⟩:=ho.form hN0
  have HND:=hide (newDia_any lg q qc w1.heap.size (zs x) w2 ho hN0 (by omega) hl1)
  have HB2:=hide (HB1.out.trans (hb2.mono HB1.out.size))
  have hs1:=HB1.out.size
  clear ho hb2 hl1 hl2
  go_wp2_with fail
  refine HND.out.mono ?_
  rintro e w3 ⟨jg,jc,sg,rfl,hd,hb3⟩
  have HD3:=hide (hd.mono hs1)
  have HB3:=hide (HB2.out.trans (hb3.mono HB2.out.size))
  have hJ0:List.replicate q (-1:Int) = Tl.conC n (-1) 0:=by unfold Tl.conC;rw [HN.out];rfl
  rw [hJ0] at HD3
  obtain ⟨ls,hls⟩:∃ ls,zs x = ls:=⟨_,rfl⟩
  rw [hls] at HD3 HLS
  have hlt3:jg < w3.heap.size ∧ sg < w3.heap.size:=by
    obtain ⟨g2,e2,_,h2⟩:=HD3.out.joints.form hN0
    obtain ⟨g3,e3,_,h3⟩:=HD3.out.seen.form hN0
    simp only [Option.some.injEq,Addr.mk.injEq] at e2 e3
    omega
  have HBB:=hide (Blk.new w3 123 #[.slice (some ⟨lg,0,none⟩) q qc,.slice (some ⟨jg,0,none⟩) q jc,.slice (some ⟨sg,0,none⟩) q q])
  have HD4:=hide (HD3.out.below ((Below.refl _ _).alloc (Nat.le_refl _) (.cells #[.slice (some ⟨lg,0,none⟩) q qc,.slice (some ⟨jg,0,none⟩) q jc,.slice (some ⟨sg,0,none⟩) q q] 123)))
  have HB4:=hide (HB3.out.alloc HB3.out.size (.cells #[.slice (some ⟨lg,0,none⟩) q qc,.slice (some ⟨jg,0,none⟩) q jc,.slice (some ⟨sg,0,none⟩) q q] 123))
  clear hd hb3 HND hJ0 hls HD3 HB3 HB2 HB1 HA HLX hs1
  go_upto_region 5 with fail
  generalize w3.alloc (.cells #[.slice (some ⟨lg,0,none⟩) q qc,.slice (some ⟨jg,0,none⟩) q jc,.slice (some ⟨sg,0,none⟩) q q] 123) = w4 at *
  generalize w3.heap.size = gb at *
  go_wp2_with fail
  go_loopw [19] (fun iv wr => ∃ k:Nat,iv = .int .i64 k ∧ k ≤ n ∧ Hid (DiaM wr w.heap.size q lg qc jg jc sg ls (Tl.conC n (-1) k) fun _ => false) ∧ Hid (Below w.heap.size w wr) ∧ Hid (Blk wr gb 123 #[.slice (some ⟨lg,0,none⟩) q qc,.slice (some ⟨jg,0,none⟩) q jc,.slice (some ⟨sg,0,none⟩) q q])) (fun iv _ => n - (intOf iv).toNat)
  case atStart => exact ⟨0,rfl,Nat.zero_le _,HD4,HB4,HBB⟩
  case round =>
    clear HD4 HB4 HBB
    obtain ⟨k,rfl,hk,HD,HBW,HBB⟩:=hrel
    have hc0:=HBB.out.cell 0
    have hc1:=HBB.out.cell 1
    have hc2:=HBB.out.cell 2
    simp at hc0 hc1 hc2
    by_cases hkn:k < n
    · obtain ⟨i2,hi2⟩:∃ i,n + k = i:=⟨_,rfl⟩
      have hv2:IntKind.i64.wrap ((n:Int) + (k:Int)) = (i2:Int):=by rw [IntKind.wrap_i64];omega
      have HCON:=hide (connect_any jg q jc w.heap.size k i2 (Tl.conC n (-1) k) wr HD.out.joints (by have:=HN2.out;omega) (by have:=HN2.out;omega) (by omega))
      have HD2:=hide ((HD.out.joint k (i2:Int)).joint i2 (k:Int))
      have HSJ:Hid (((Tl.conC n (-1) k).set k (i2:Int)).set i2 (k:Int) = Tl.conC n (-1) (k + 1)):=hide (by rw [Tl.conC_succ,hi2])
      rw [HSJ.out] at HD2
      have hjb:=HD.out.bs.2.1
      have HB2:=hide ((HBW.out.setCell (p:=⟨jg,k,none⟩) hjb (.int .i64 (i2:Int))).setCell (p:=⟨jg,i2,none⟩) hjb (.int .i64 (k:Int)))
      have HBB2:=hide ((HBB.out.far (p:=⟨jg,k,none⟩) (show gb ≠ jg by omega) (.int .i64 (i2:Int))).far (p:=⟨jg,i2,none⟩) (show gb ≠ jg by omega) (.int .i64 (k:Int)))
      clear hi2 hjb HD HBW HBB HSJ
      go_wp2_with fail
      refine HCON.out.mono ?_
      rintro e w5 ⟨rfl,hw5⟩
      rw [← hw5] at HD2 HB2 HBB2
      clear hw5 hc0 hc1 hc2 HCON
      go_wp2_with fail
      go_roundw
      case rel => exact ⟨k + 1,by go_num,by omega,HD2,HB2,HBB2⟩
      case measure => simp [intOf];omega
    · have hkE:k = n:=by omega
      have HD2:Hid (DiaM wr w.heap.size q lg qc jg jc sg ls (Tl.conC n (-1) n) fun _ => false):=hide (by have h:=HD.out;rwa [hkE] at h)
      have HCT:=hide (countLoops_any w.heap.size q lg qc jg jc sg q ls _ (fun _ => false) _ _ _ _ wr HD2.out HLS.out HJS.out HLB.out (by omega) hN0 (by omega) ⟨fun i _ h => (by cases h),fun i j _ _ h => (by cases h)⟩ (fun i _ h => (by unfold Tl.jntC at h;cases h)))
      have hsb:=HD2.out.bs.2.2
      clear hkE HD
      go_wp2_with fail
      refine HCT.out.mono ?_
      rintro e w9 ⟨r,rfl,hr,hg9⟩
      rw [Tl.cntS_none,Nat.add_zero,HCI.out] at hr
      have HR:=hide hr
      have HB9:=hide (HBW.out.grown hg9 HBW.out.size (fun j hj => by rw [← Option.some.inj hj];exact hsb))
      clear hr hg9 hc0 hc1 hc2 HCT
      go_wp2_with fail
      go_ret2
      rw [HR.out]
      exact ⟨rfl,HB9.out⟩
end Go.Proofs.YtndgffiihbdppaaGreatDoor
namespace Go.Proofs.YtndgffiihbdppaaGreatDoor
set_option linter.unusedVariables false
set_option linter.unusedSimpArgs false
open Go.RowKit
theorem tlC:TlC where
  check := tcheck_any -- 94
  ident := fun m w hm => (ident_any m w hm).mono fun e w' ⟨A, n, c, h1, h2, h3⟩ => ⟨A, n, c, h1, h2.sl, h3⟩ -- 81
  gener := gener_any -- 84
  product := tproduct_any -- 86
  closure := tclosure_any -- 88
end Go.Proofs.YtndgffiihbdppaaGreatDoor
namespace Go.Proofs.YtndgffiihbdppaaGreatDoor
theorem jonesC:JonesC:=jonesC_of polyC tlC braidC
end Go.Proofs.YtndgffiihbdppaaGreatDoor
