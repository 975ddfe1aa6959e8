/- Several texts in one. -/
import Derived.Test.YtoaiblhlpdaeoaaPart16
import Derived.OwnWalk
import Derived.Test.YtoaiblhlpdaeoaaPart15
import Derived.Test.YtoaiblhlpdaeoaaPart1
/- Package garside: NormalForm. -/
namespace Go.Proofs.Ytoaiblhlpdaeoaa
set_option linter.unusedVariables false
set_option linter.unusedSimpArgs false
open Go.RowKit

theorem range_getD_map (l : List (List Nat)) : (List.range l.length).map (fun j => l.getD j []) = l := List.ext_getElem (by simp) fun i h1 h2 => by simp [List.getD, h2]
theorem tight_fam {N k : Nat} {P : Nat → List Nat} (hp : ∀ i, i < k → isP (P i) ∧ (P i).length = N) (ht : ∀ j, j + 1 < k → loose (inv (P j)) (P (j + 1)) = none) : Gar.TightL N (((List.range k).map P).map Gar.elt) := by
  have hPL : PL N ((List.range k).map P) := fun p h => by
    obtain ⟨i, hi, rfl⟩ := List.mem_map.1 h
    exact hp i (List.mem_range.1 hi)
  refine tightL_of hPL fun a b u v e => ?_
  have hl := congrArg List.length e
  simp at hl
  have ha : ((List.range k).map P)[u.length]? = some a := by rw [e]; simp
  have hb : ((List.range k).map P)[u.length + 1]? = some b := by rw [e, List.getElem?_append_right (by omega)]; simp
  rw [List.getElem?_map, List.getElem?_range (by omega)] at ha hb
  simp only [Option.map_some, Option.some.injEq] at ha hb
  rw [← loose_tightB (n := N) (by rw [← ha]; exact (hp _ (by omega)).2) (by rw [← hb]; exact (hp _ (by omega)).2), ← ha, ← hb, ht _ (by omega)]
  rfl
theorem nfw_fam {N : Nat} {xs : List Int} (h1 : 1 ≤ N) (hx : okB N xs) {P : Nat → List Nat} (hp : ∀ i, i < xs.length → isP (P i) ∧ (P i).length = N) (ht : ∀ j, j + 1 < xs.length → loose (inv (P j)) (P (j + 1)) = none)
    (he : prF P xs.length = prF (fun j => (spF N xs).getD j []) xs.length) : NFw N xs (-(Gar.negs xs : Int) + (cnP N ((List.range xs.length).map P) : Int)) (flP N ((List.range xs.length).map P)) := by
  have hPL : PL N ((List.range xs.length).map P) := fun p h => by
    obtain ⟨i, hi, rfl⟩ := List.mem_map.1 h
    exact hp i (List.mem_range.1 hi)
  by_cases hN : 2 ≤ N
  · refine nfw_of hN (okB_okl hx) hPL (tight_fam hp ht) ?_
    have h2 := prF_list (fun j => (spF N xs).getD j []) xs.length
    rw [← prF_list, he, h2]
    conv => lhs; rw [← spF_length N xs, range_getD_map]
  · have hN1 : N = 1 := by omega
    subst hN1
    have hx0 : xs = [] := by
      cases xs with
      | nil => rfl
      | cons x xs =>
        have := okB_okl hx x (by simp)
        unfold Gar.okl at this
        omega
    subst hx0
    refine ⟨fun p h => (by cases h), ⟨trivial, fun a h => (by cases h), fun a h => (by cases h)⟩, ?_, fun _ => rfl⟩
    show Gar.zp 1 0 * Gar.pos 1 1 = Gar.gp 1 []
    rw [Gar.zp_zero, Gar.pos_one, Gar.G_mul_one]
    rfl
theorem cnP_succ (N : Nat) (P : Nat → List Nat) (j : Nat) : cnP N ((List.range (j + 1)).map P) = cnP N ((List.range j).map P) + if P j = Gar.fullL N then 1 else 0 := by
  unfold cnP
  rw [List.range_succ, List.map_append, List.countP_append]
  by_cases h : P j = Gar.fullL N
  · simp [h]
  · simp [h]
theorem flP_succ (N : Nat) (P : Nat → List Nat) (j : Nat) : flP N ((List.range (j + 1)).map P) = flP N ((List.range j).map P) ++ if P j = Gar.fullL N ∨ P j = List.range N then [] else [P j] := by
  unfold flP
  rw [List.range_succ, List.map_append, List.filter_append]
  congr 1
  by_cases h1 : P j = Gar.fullL N
  · simp [h1]
  · by_cases h2 : P j = List.range N
    · simp [h2]
    · simp [h1, h2]
theorem cnP_le (N : Nat) (P : Nat → List Nat) (j : Nat) : cnP N ((List.range j).map P) ≤ j := by
  unfold cnP
  refine Nat.le_trans List.countP_le_length ?_
  simp
theorem FcB.off {w w' : World} {base go k N lo : Nat} {gr cr : Nat → Nat} {P : Nat → List Nat} {row : Option Nat} (h : FcB w base go k N gr cr lo P) (hg : w.grownBy w' row) (h1 : row ≠ some go) (h2 : ∀ i, lo ≤ i → i < k → row ≠ some (gr i)) : FcB w' base go k N gr cr lo P := by
  obtain ⟨cs, hc⟩ := h.blk
  exact ⟨⟨cs, hc.grown hg (fun e => h1 e.symm)⟩, fun i a b => (World.cell?_of_block (a := ⟨go, i, none⟩) (hg.block go h.lt (fun e => h1 e.symm))).trans (h.out i a b), fun i a b => (h.row i a b).far hg (fun ad e e2 => by injection e with e; subst e; exact h2 i a b e2), h.per, h.ne, h.dis⟩
theorem OwnV.mono {w : World} {base b' n c : Nat} {A : Option Addr} {vs : List Value} (h : OwnV w base A n c vs) (hb : b' ≤ base) : OwnV w b' A n c vs := by
  refine ⟨⟨h.own.1, ?_⟩, h.small⟩
  rcases h.own.2 with h2 | ⟨g, cap, cur, hv, hg, r⟩
  · exact .inl h2
  · exact .inr ⟨g, cap, cur, hv, by omega, r⟩
set_option maxRecDepth 100000 in
set_option maxHeartbeats 8000000 in
theorem gnormal_any (m : Int) (A : Option Addr) (n c : Nat) (xs : List Int) (w : World) (ha : SL w A n c xs) (hm : (Lit.int .i64 m).wf = true) :
    Calls Try.prog 15 #[.int .i64 m, .slice A n c] w (GivesNF w m xs) := by
  have HCK := hide (bcheck_any m A n c xs w ha hm)
  have HL := hide ha.il.len
  have HA := hide ha
  clear ha hm
  by_cases h0 : bfault m xs = 0
  case neg =>
    have HN := hide h0
    obtain ⟨f, hf⟩ : ∃ f, bfault m xs = f := ⟨_, rfl⟩
    rw [hf] at HCK h0
    have hne : (f != 0) = true := by simpa using h0
    have HF := hide hf
    clear hf h0
    go_enter Try.func15, Try.ntmps15
    go_wp2_with fail
    refine HCK.out.mono ?_
    rintro e w1 ⟨rfl, hww⟩
    subst hww
    go_wp2_with fail
    go_ret3
    exact ⟨0, [], none, 0, 0, by rw [HF.out]; rfl, SLL.nil_ _, Below.refl _ _, fun h => absurd h HN.out, fun _ => ⟨rfl, rfl⟩⟩
  have hz := bfault_zero h0
  obtain ⟨N, hN⟩ : ∃ N : Nat, m = (N : Int) := ⟨m.toNat, by omega⟩
  subst hN
  have hN1 : 1 ≤ N := by omega
  have hN6 : N ≤ 6 := by omega
  have hok : okB N xs := okB_of (n := N) (fun x hx => by have := hz.2.2.2 x hx; omega)
  have hn30 : n ≤ 30 := by have := hz.2.2.1; rw [HL.out] at this; exact this
  have HF := hide h0
  have HSP := hide (gsplit_any N A n c xs w HA.out hN1 hN6 hok hn30)
  have HOK := hide hok
  rw [h0] at HCK
  clear h0 hz hok HA
  obtain ⟨i0, hi0, hz0, hz1, hz2⟩ := info_parts rows_info
  have HI0 := hide hi0
  have HZ0 := hide hz0
  have HZ1 := hide hz1
  have HZ2 := hide hz2
  clear hi0 hz0 hz1 hz2
  go_enter Try.func15, Try.ntmps15
  go_wp2_with fail
  refine HCK.out.mono ?_
  rintro e w1 ⟨rfl, hww⟩
  subst hww
  go_wp2_with fail
  refine HSP.out.mono ?_
  rintro e w2 ⟨go, gr, cr, rfl, hF, hgo, hb2⟩
  have HTA := hide (gtightenAll_any w.heap.size go n N n gr cr _ w2 hF hN6 hn30)
  have HB2 := hide hb2
  have hgl := hF.lt
  have HGR : Hid (∀ i, i < n → w.heap.size ≤ gr i ∧ gr i < w2.heap.size) := hide (fun i hi => (hF.row i (by omega) hi).inBase)
  have hng : Gar.negs xs ≤ 30 := by have h1 := Gar.sum_le xs; have h2 := HL.out; omega
  clear hF hb2 HSP HCK
  go_wp2_with fail
  refine HTA.out.mono ?_
  rintro e w3 ⟨rfl, P, hF, hpr, hti, hcg⟩
  have HB3 : Hid (Below w.heap.size w w3) := hide (hcg.to_below HB2.out HB2.out.size (fun b hb => by
    obtain ⟨i, hi, rfl⟩ := hb
    exact (HGR.out i hi).1))
  have HF3 := hide hF
  have hsz3 := hcg.size
  have HNF : Hid (NFw N xs (-(Gar.negs xs : Int) + (cnP N ((List.range n).map P) : Int)) (flP N ((List.range n).map P))) := hide (by
    have h := nfw_fam hN1 HOK.out (P := P) (fun i hi => hF.per i (by omega) (by rw [← HL.out]; exact hi)) (fun j hj => hti j (by rw [← HL.out]; exact hj)) (by rw [HL.out]; exact hpr)
    rw [HL.out] at h
    exact h)
  have HGR3 : Hid (∀ i, i < n → gr i < w3.heap.size) := hide (fun i hi => by have := (HGR.out i hi).2; omega)
  have hgl3 : go < w3.heap.size := by omega
  have HV0 : Hid (OwnV w3 w3.heap.size none 0 0 []) := hide (OwnV.nil_ _ _)
  have HR0 : Hid (RowsI w3 w.heap.size [] ((flP N ((List.range 0).map P)).map zs)) := hide (RowsI.nil_ _ _)
  have hc0 : -(Gar.negs xs : Int) = -(Gar.negs xs : Int) + (cnP N ((List.range 0).map P) : Int) := by simp [cnP]
  obtain ⟨z0, hz0⟩ : ∃ z, -(Gar.negs xs : Int) = z := ⟨_, rfl⟩
  have HZN := hide hz0
  have hzb : -30 ≤ z0 ∧ z0 ≤ 0 := by omega
  rw [hz0] at HNF hc0 ⊢
  have HC0 := hide hc0
  clear hF hpr hti hcg hgl HGR HTA HB2 hsz3 hc0 hz0 hng
  go_wp2_with fail
  go_loopw [8, 10, 29] (fun pv ov iv wr => ∃ (j dn dc : Nat) (D : Option Addr) (vs : List Value) (pz : Int), pv = .int .i64 pz ∧ ov = .slice D dn dc ∧ iv = .int .i64 (j : Int) ∧ j ≤ n ∧ Hid (pz = z0 + (cnP N ((List.range j).map P) : Int)) ∧ dn ≤ j ∧ Hid (OwnV wr w3.heap.size D dn dc vs) ∧ Hid (RowsI wr w.heap.size vs ((flP N ((List.range j).map P)).map zs)) ∧ Hid (FcB wr w.heap.size go n N gr cr 0 P) ∧ Hid (Below w.heap.size w wr) ∧ w3.heap.size ≤ wr.heap.size) (fun _ _ iv _ => n - (intOf iv).toNat)
  case atStart => exact ⟨0, 0, 0, none, [], z0, rfl, rfl, rfl, Nat.zero_le _, HC0, Nat.le_refl _, HV0, HR0, HF3, HB3, Nat.le_refl _⟩
  case round =>
    clear HC0 HV0 HR0 HF3 HB3
    obtain ⟨j, dn, dc, D, vs, pz, rfl, rfl, rfl, hj, HPZ, hdn, HV, HR, HF', HB, hszr⟩ := hrel
    by_cases hlt : j < n
    · have c0 := HF'.out.out j (by omega) hlt
      obtain ⟨pp, pl⟩ := HF'.out.per j (by omega) hlt
      have hrow := HF'.out.row j (by omega) hlt
      have HIH := hide (gisHalf_any (some ⟨gr j, 0, none⟩) N (cr j) (P j) wr hrow.sl (by omega))
      have hcs := cnP_succ N P j
      have hfs := flP_succ N P j
      have hcl := cnP_le N P j
      have HCS := hide hcs
      have HFS := hide hfs
      have HPP := hide pp
      have HPL := hide pl
      have HJ := hide hlt
      have HCL := hide hcl
      clear pp pl hrow hcs hfs hcl
      go_wp2_with fail
      refine HIH.out.mono ?_
      rintro e w4 ⟨rfl, hb4⟩
      have HF4 := hide (HF'.out.below hb4)
      have HV4 := hide (HV.out.keep (KeepT.below hb4))
      have HR4 := hide (HR.out.keep (KeepT.below hb4))
      have HB4 := hide (HB.out.trans (hb4.mono HB.out.size))
      have hsz4 := hb4.size
      clear hb4 HIH HF' HV HR HB c0
      by_cases hhalf : P j = Gar.fullL N
      · have HC : Hid (pz + 1 = z0 + (cnP N ((List.range (j + 1)).map P) : Int)) := hide (by rw [HCS.out, if_pos hhalf, HPZ.out]; omega)
        have HFE : Hid (flP N ((List.range (j + 1)).map P) = flP N ((List.range j).map P)) := hide (by rw [HFS.out, if_pos (.inl hhalf), List.append_nil])
        have hwz : IntKind.i64.wrap (pz + 1) = pz + 1 := by rw [IntKind.wrap_i64]; have := HPZ.out; have := HCL.out; omega
        rw [decide_eq_true hhalf]
        clear hhalf HPZ HCS HFS
        go_wp2_with fail
        go_roundw
        case rel => exact ⟨j + 1, dn, dc, D, vs, _, rfl, rfl, by go_num, by omega, HC, by omega, HV4, by rw [HFE.out]; exact HR4, HF4, HB4, by omega⟩
        case measure => simp [intOf]; omega
      · have HC : Hid (pz = z0 + (cnP N ((List.range (j + 1)).map P) : Int)) := hide (by rw [HCS.out, if_neg hhalf, HPZ.out]; omega)
        have HII := hide (gisId_any (some ⟨gr j, 0, none⟩) N (cr j) (P j) w4 ((HF4.out.row j (by omega) hlt).sl) HPP.out HPL.out)
        rw [decide_eq_false hhalf]
        go_wp2_with fail
        refine HII.out.mono ?_
        rintro e w5 ⟨rfl, hb5⟩
        have HF5 := hide (HF4.out.below hb5)
        have HV5 := hide (HV4.out.keep (KeepT.below hb5))
        have HR5 := hide (HR4.out.keep (KeepT.below hb5))
        have HB5 := hide (HB4.out.trans (hb5.mono HB4.out.size))
        have hsz5 := hb5.size
        clear hb5 HII HF4 HV4 HR4 HB4
        by_cases hid : P j = List.range N
        · have HFE : Hid (flP N ((List.range (j + 1)).map P) = flP N ((List.range j).map P)) := hide (by rw [HFS.out, if_pos (.inr hid), List.append_nil])
          rw [decide_eq_true hid]
          have hnt := Bool.not_true
          clear hhalf hid HPZ HCS HFS
          go_wp2_with fail
          go_roundw
          case rel => exact ⟨j + 1, dn, dc, D, vs, _, rfl, rfl, by go_num, by omega, HC, by omega, HV5, by rw [HFE.out]; exact HR5, HF5, HB5, by omega⟩
          case measure => simp [intOf]; omega
        · have HFE : Hid (flP N ((List.range (j + 1)).map P) = flP N ((List.range j).map P) ++ [P j]) := hide (by rw [HFS.out, if_neg (by rw [not_or]; exact ⟨hhalf, hid⟩)])
          rw [decide_eq_false hid]
          have hnt := Bool.not_false
          have HRW := hide (HF5.out.row j (by omega) hlt)
          clear hhalf hid HPZ HCS HFS
          have hsz6 : w3.heap.size ≤ (w5.alloc (.cells #[.slice (some ⟨gr j, 0, none⟩) N (cr j)] 22)).heap.size := by simp; omega
          go_wp2_with (at_builtin; refine wpList_append_val _ rfl (.tmp 42) (.tmp 44) 26 rfl w3.heap.size i0 Try.underlying26 HI0.out HZ0.out HZ1.out HZ2.out D dn dc vs rfl (HV5.out.alloc _) ⟨_, 0, none⟩ 1 (.slice (some ⟨gr j, 0, none⟩) N (cr j)) rfl (by simp [World.cell?_alloc_new]) rfl (by omega) hsz6 ?_; intro A9 c9 w9 happ)
          have hal : Below w5.heap.size w5 (w5.alloc (.cells #[.slice (some ⟨gr j, 0, none⟩) N (cr j)] 22)) := (Below.refl _ _).alloc (Nat.le_refl _) _
          have hbl : ∀ k, (Value.slice D (dn + 1) dc).ownBlock = some k → w3.heap.size ≤ k := fun k hk => (HV5.out.lt k (by rw [ownBlock_len D dn (dn + 1) dc dc]; exact hk)).1
          have HF9 := hide ((HF5.out.below hal).off happ.grown (fun e => by have := hbl _ e; omega) (fun i _ hi e => by have := hbl _ e; have := HGR3.out i hi; omega))
          have HB9 := hide ((HB5.out.trans (hal.mono HB5.out.size)).grown happ.grown (by simp; omega) (fun k hk => by have := hbl k hk; have := HB5.out.size; omega))
          have HV9 := hide happ.own
          have HR9 : Hid (RowsI w9 w.heap.size (vs ++ [.slice (some ⟨gr j, 0, none⟩) N (cr j)]) ((flP N ((List.range (j + 1)).map P)).map zs)) := hide (by
            rw [HFE.out, List.map_append]
            have k3 : KeepT 3 w5 w9 := (KeepT.alloc w5 _).trans (KeepT.grown happ.grown (fun g hg => by
              obtain ⟨t, cs, h1, h2⟩ := (HV5.out.alloc (.cells #[.slice (some ⟨gr j, 0, none⟩) N (cr j)] 22)).block g (by rw [ownBlock_len D dn (dn + 1) dc dc]; exact hg)
              exact ⟨t, cs, h1, h2⟩))
            exact (HR5.out.keep k3).snoc (k3.ownI HRW.out))
          have hsz9 := happ.grown.size
          simp at hsz9
          clear happ hal hbl HF5 HV5 HR5 HB5
          go_wp2_with fail
          go_roundw
          case rel => exact ⟨j + 1, dn + 1, c9, A9, _, _, rfl, rfl, by go_num, by omega, HC, by omega, HV9, HR9, HF9, HB9, by omega⟩
          case measure => simp [intOf]; omega
    · have hjn : j = n := by omega
      have HP2 := hide hjn
      have HNF2 : Hid (NFw (N : Int).toNat xs pz (flP N ((List.range j).map P))) := hide (by rw [HPZ.out, HP2.out, Int.toNat_natCast]; exact HNF.out)
      have HS : Hid (SLL wr D dn dc ((flP N ((List.range j).map P)).map zs)) := hide (SLL.of_rows (HV.out.mono (by have := HB.out.size; omega)) HR.out)
      clear HV HR HF' hjn HPZ
      go_wp2_with fail
      go_ret3
      exact ⟨pz, _, D, dn, dc, by rw [HF.out]; rfl, HS.out, HB.out, fun _ => HNF2.out, fun h => absurd HF.out h⟩
end Go.Proofs.Ytoaiblhlpdaeoaa
/- Package artin: Equal. -/
namespace Go.Proofs.Ytoaiblhlpdaeoaa
set_option linter.unusedVariables false
set_option linter.unusedSimpArgs false
open Go.RowKit

theorem listsI_ext {xss yss : List (List Int)} (hl : xss.length = yss.length) (h : ∀ j, j < xss.length → eqB (xss.getD j []) (yss.getD j []) = true) : xss = yss := by
  refine List.ext_getElem hl fun j h1 h2 => ?_
  have := eqB_iff.1 (h j h1)
  simpa [List.getD, List.getElem?_eq_getElem h1, List.getElem?_eq_getElem h2] using this
theorem eSEq : ∀ args w, (callFunc 21 args).run Try.prog w = .ok (.enter 21 args) w := enters (fn := Try.f21) (by kernel_rfl) (by kernel_rfl) (by kernel_rfl)

set_option maxHeartbeats 1000000 in
theorem aEqualFunc_any (A B : Option Addr) (n m c d : Nat) (xss yss : List (List Int)) (w : World) (ha : ILL w A n xss) (hb : ILL w B m yss) :
    Calls Try.prog 30 #[.slice A n c, .slice B m d, .func (.func 21) #[] #[]] w fun e w' => e = .returned (.bool (decide (xss = yss))) ∧ Below w.heap.size w w' := by
  have hsm := ha.small
  have hsn := hb.small
  have HLX := hide ha.len
  have HLY := hide hb.len
  have HA := hide ha
  have HB := hide hb
  have e1 := eSEq
  clear ha hb
  by_cases hnm : n = m
  case neg =>
    have HE : Hid (decide (xss = yss) = false) := hide (decide_eq_false (fun h => hnm (by rw [← HLX.out, ← HLY.out, h])))
    have hne : ((n : Int) != m) = true := by simpa using (fun h : (n : Int) = m => hnm (by omega))
    go_enter Try.func30, Try.ntmps30
    go_wp2_with fail
    go_ret
    rw [HE.out]
    exact ⟨rfl, Below.refl _ _⟩
  subst hnm
  go_enter Try.func30, Try.ntmps30
  go_wp2
  go_loopw [17] (fun i wr => ∃ k : Nat, k ≤ n ∧ i = .int .i64 k ∧ Hid (∀ j, j < k → eqB (xss.getD j []) (yss.getD j []) = true) ∧ Below w.heap.size w wr) (fun i _ => n - (intOf i).toNat)
  case atStart => exact ⟨0, Nat.zero_le _, rfl, hide (fun j hj => absurd hj (by omega)), Below.refl _ _⟩
  case round =>
    obtain ⟨k, hk, rfl, HN, hnx⟩ := hrel
    by_cases hlt : k < n
    · obtain ⟨ad, B8, m8, d8, rfl, hc8, hi8⟩ := (HA.out.below hnx).at_ hlt
      obtain ⟨bd, B9, m9, d9, rfl, hc9, hi9⟩ := (HB.out.below hnx).at_ hlt
      have HC := hide (equal_any B8 B9 m8 m9 d8 d9 _ _ wr hi8 hi9)
      have HX := hide hnx
      clear hi8 hi9
      by_cases hq : eqB (xss.getD k []) (yss.getD k []) = true
      · have HN2 : Hid (∀ j, j < k + 1 → eqB (xss.getD j []) (yss.getD j []) = true) := hide (fun j hj => by
          by_cases e : j = k
          · rw [e]; exact hq
          · exact HN.out j (by omega))
        rw [hq] at HC
        clear hq hnx
        go_wp2_with fail
        refine HC.out.mono ?_
        rintro e w2 h2
        have hb2 : e = .returned (.bool true) ∧ Below wr.heap.size wr w2 := by first | exact h2 | exact ⟨h2.1, by rw [← h2.2]; exact Below.refl _ _⟩
        obtain ⟨rfl, hb2⟩ := hb2
        have HX2 := hide (HX.out.trans (hb2.mono HX.out.size))
        clear hb2 h2
        go_wp2
        go_roundw
        case rel => exact ⟨k + 1, by omega, by go_num, HN2, HX2.out⟩
        case measure => simp [intOf]; omega
      · have hq' : eqB (xss.getD k []) (yss.getD k []) = false := by simpa using hq
        have HE : Hid (decide (xss = yss) = false) := hide (decide_eq_false (fun h => hq (by rw [h]; exact eqB_true rfl)))
        rw [hq'] at HC
        clear hq hq' hnx
        go_wp2_with fail
        refine HC.out.mono ?_
        rintro e w2 h2
        have hb2 : e = .returned (.bool false) ∧ Below wr.heap.size wr w2 := by first | exact h2 | exact ⟨h2.1, by rw [← h2.2]; exact Below.refl _ _⟩
        obtain ⟨rfl, hb2⟩ := hb2
        have HX2 := hide (HX.out.trans (hb2.mono HX.out.size))
        clear hb2 h2
        go_wp2
        go_ret
        rw [HE.out]
        exact ⟨rfl, HX2.out⟩
    · have hkn : k = n := by omega
      have HE : Hid (decide (xss = yss) = true) := hide (decide_eq_true (listsI_ext (by rw [HLX.out, HLY.out]) (fun j hj => HN.out j (by rw [HLX.out] at hj; omega))))
      clear hkn
      go_wp2
      go_ret
      rw [HE.out]
      exact ⟨rfl, hnx⟩

set_option maxRecDepth 100000 in
set_option maxHeartbeats 2000000 in
theorem aequal_any (m : Int) (A : Option Addr) (n c : Nat) (xs : List Int) (B : Option Addr) (k d : Nat) (ys : List Int) (w : World) (ha : SL w A n c xs) (hb : SL w B k d ys) (hm : (Lit.int .i64 m).wf = true) :
    Calls Try.prog 77 #[.int .i64 m, .slice A n c, .slice B k d] w fun e w' => e = .returned (.tuple #[.bool (eqA m xs ys), .int .i64 (eqE m xs ys)]) ∧ Below w.heap.size w w' := by
  have HP := hide (aimages_any m A n c xs w ha hm)
  have HB := hide hb
  have HM := hide hm
  clear ha hb hm
  obtain ⟨fx, hfx⟩ : ∃ f, artE m xs = f := ⟨_, rfl⟩
  have HFX := hide hfx
  rw [hfx] at HP
  clear hfx
  by_cases h0 : fx = 0
  case neg =>
    have HE : Hid (eqE m xs ys = fx) := hide (by unfold eqE; rw [HFX.out, if_pos h0])
    have HV : Hid (eqA m xs ys = false) := hide (by unfold eqA; rw [HE.out, decide_eq_false h0]; rfl)
    have hne : (fx != 0) = true := by simpa using h0
    go_enter Try.func77, Try.ntmps77
    go_wp2_with fail
    refine HP.out.mono ?_
    rintro e w1 ⟨P, pn, pc, rfl, hp, hb1⟩
    have HB1 := hide hb1
    clear hp hb1
    go_wp2_with fail
    go_ret2
    rw [HE.out, HV.out]
    exact ⟨rfl, HB1.out⟩
  subst h0
  obtain ⟨fy, hfy⟩ : ∃ f, artE m ys = f := ⟨_, rfl⟩
  have HFY := hide hfy
  clear hfy
  go_enter Try.func77, Try.ntmps77
  go_wp2_with fail
  refine HP.out.mono ?_
  rintro e w1 ⟨P, pn, pc, rfl, hp, hb1⟩
  have HQ := hide (aimages_any m B k d ys w1 (HB.out.below hb1) HM.out)
  rw [HFY.out] at HQ
  have HB1 := hide hb1
  have HPP := hide hp
  clear hp hb1
  by_cases h0 : fy = 0
  case neg =>
    have HE : Hid (eqE m xs ys = fy) := hide (by unfold eqE; rw [HFX.out, if_neg (by simp), HFY.out])
    have HV : Hid (eqA m xs ys = false) := hide (by unfold eqA; rw [HE.out, decide_eq_false h0]; rfl)
    have hne : (fy != 0) = true := by simpa using h0
    go_wp2_with fail
    refine HQ.out.mono ?_
    rintro e w2 ⟨R, rn, rc, rfl, hr, hb2⟩
    have HB2 := hide (HB1.out.trans (hb2.mono HB1.out.size))
    clear hr hb2
    go_wp2_with fail
    go_ret2
    rw [HE.out, HV.out]
    exact ⟨rfl, HB2.out⟩
  subst h0
  have HE : Hid (eqE m xs ys = 0) := hide (by unfold eqE; rw [HFX.out, if_neg (by simp), HFY.out])
  have HV : Hid (eqA m xs ys = decide (artI m xs = artI m ys)) := hide (by
    unfold eqA artI
    rw [HE.out, HFX.out, HFY.out, if_pos rfl, if_pos rfl]
    simp)
  go_wp2_with fail
  refine HQ.out.mono ?_
  rintro e w2 ⟨R, rn, rc, rfl, hr, hb2⟩
  have HB2 := hide (HB1.out.trans (hb2.mono HB1.out.size))
  have HC := hide (aEqualFunc_any P R pn rn pc rc _ _ _ (HPP.out.below hb2).ill hr.ill)
  clear hr hb2
  go_wp2_with fail
  refine HC.out.mono ?_
  rintro e w3 ⟨rfl, hb3⟩
  have HB3 := hide (HB2.out.trans (hb3.mono HB2.out.size))
  clear hb3
  go_wp2_with fail
  go_ret2
  rw [HE.out, HV.out]
  exact ⟨rfl, HB3.out⟩

theorem artinC : ArtinC where
  images := aimages_any
  equal := aequal_any
end Go.Proofs.Ytoaiblhlpdaeoaa
/- Package garside: Equal. -/
namespace Go.Proofs.Ytoaiblhlpdaeoaa
set_option linter.unusedVariables false
set_option linter.unusedSimpArgs false
open Go.RowKit

theorem nfw_one {xs : List Int} {k : Int} {l : List (List Nat)} (h : NFw 1 xs k l) : l = [] := by
  cases l with
  | nil => rfl
  | cons p l =>
    obtain ⟨h1, h2⟩ := h.pl p (by simp)
    refine absurd ((Gar.elt_one h1 h2).2 ?_) (h.nf.one (Gar.elt p) (by simp))
    match p, h2 with
    | [a], _ =>
      have := h1.lt (j := 0) (by simp)
      simp at this
      subst this
      rfl
theorem map_zs_inj : ∀ {l m : List (List Nat)}, l.map zs = m.map zs → l = m
  | [], [], _ => rfl
  | [], _ :: _, h => by cases h
  | _ :: _, [], h => by cases h
  | p :: l, q :: m, h => by
    simp only [List.map_cons, List.cons.injEq] at h
    rw [zs_inj h.1, map_zs_inj h.2]
theorem nfw_eq {n : Nat} {xs ys : List Int} {k j : Int} {l m : List (List Nat)} (h1 : 1 ≤ n) (hx : okB n xs) (hy : okB n ys) (h : NFw n xs k l) (g : NFw n ys j m) : Gar.gp n xs = Gar.gp n ys ↔ (k = j ∧ l.map zs = m.map zs) := by
  refine ⟨fun e => ?_, fun ⟨e1, e2⟩ => by rw [← h.val, ← g.val, e1, map_zs_inj e2]⟩
  by_cases h2 : 2 ≤ n
  · obtain ⟨e1, e2⟩ := h.unique h2 g e
    exact ⟨e1, by rw [e2]⟩
  · have hn : n = 1 := by omega
    subst hn
    exact ⟨by rw [h.one rfl, g.one rfl], by rw [nfw_one h, nfw_one g]⟩
theorem nbfault_okB {m : Int} {xs : List Int} (h : bfault m xs = 0) : ∃ N : Nat, m = (N : Int) ∧ 1 ≤ N ∧ N ≤ 6 ∧ okB N xs := by
  have hz := bfault_zero h
  obtain ⟨N, rfl⟩ : ∃ N : Nat, m = (N : Int) := ⟨m.toNat, by omega⟩
  exact ⟨N, rfl, by omega, by omega, okB_of (n := N) (fun x hx => by have := hz.2.2.2 x hx; omega)⟩

set_option maxRecDepth 100000 in
set_option maxHeartbeats 4000000 in
theorem gequal_any (m : Int) (A : Option Addr) (n c : Nat) (xs : List Int) (B : Option Addr) (l d : Nat) (ys : List Int) (w : World) (ha : SL w A n c xs) (hb : SL w B l d ys) (hm : (Lit.int .i64 m).wf = true) :
    Calls Try.prog 22 #[.int .i64 m, .slice A n c, .slice B l d] w fun e w' => e = .returned (.tuple #[.bool (geqB m xs ys), .int .i64 (eq2E m xs ys)]) ∧ Below w.heap.size w w' := by
  have HP := hide (gnormal_any m A n c xs w ha hm)
  have HB := hide hb
  have HM := hide hm
  clear ha hb hm
  by_cases h0 : bfault m xs = 0
  case neg =>
    have HE : Hid (eq2E m xs ys = bfault m xs) := hide (by unfold eq2E; rw [if_pos h0])
    have HV : Hid (geqB m xs ys = false) := hide (by unfold geqB; rw [HE.out, decide_eq_false h0]; rfl)
    obtain ⟨f, hf⟩ : ∃ f, bfault m xs = f := ⟨_, rfl⟩
    have HF := hide hf
    rw [hf] at h0
    have hne : (f != 0) = true := by simpa using h0
    clear hf h0
    go_enter Try.func22, Try.ntmps22
    go_wp2_with fail
    refine HP.out.mono ?_
    rintro e w1 ⟨k, q, P, pn, pc, rfl, hp, hb1, _, _⟩
    rw [HF.out]
    have HB1 := hide hb1
    clear hp hb1
    go_wp2_with fail
    go_ret2
    rw [HE.out, HV.out, HF.out]
    exact ⟨rfl, HB1.out⟩
  obtain ⟨N, rfl, hN1, hN6, hxo⟩ := nbfault_okB h0
  have HX0 := hide h0
  have HXO := hide hxo
  clear h0 hxo
  by_cases h0 : bfault (N : Int) ys = 0
  case neg =>
    have HE : Hid (eq2E (N : Int) xs ys = bfault (N : Int) ys) := hide (by unfold eq2E; rw [if_neg (by rw [HX0.out]; simp)])
    have HV : Hid (geqB (N : Int) xs ys = false) := hide (by unfold geqB; rw [HE.out, decide_eq_false h0]; rfl)
    obtain ⟨f, hf⟩ : ∃ f, bfault (N : Int) ys = f := ⟨_, rfl⟩
    have HF := hide hf
    rw [hf] at h0
    have hne : (f != 0) = true := by simpa using h0
    clear hf h0
    go_enter Try.func22, Try.ntmps22
    go_wp2_with fail
    refine HP.out.mono ?_
    rintro e w1 ⟨k, q, P, pn, pc, rfl, hp, hb1, _, _⟩
    rw [HX0.out]
    have HQ := hide (gnormal_any (N : Int) B l d ys w1 (HB.out.below hb1) HM.out)
    have HB1 := hide hb1
    clear hp hb1
    go_wp2_with fail
    refine HQ.out.mono ?_
    rintro e w2 ⟨k2, q2, P2, pn2, pc2, rfl, hp2, hb2, _, _⟩
    rw [HF.out]
    have HB2 := hide (HB1.out.trans (hb2.mono HB1.out.size))
    clear hp2 hb2
    go_wp2_with fail
    go_ret2
    rw [HE.out, HV.out, HF.out]
    exact ⟨rfl, HB2.out⟩
  obtain ⟨N', e, _, _, hyo⟩ := nbfault_okB h0
  obtain rfl : N = N' := by omega
  have HY0 := hide h0
  have HYO := hide hyo
  have HE : Hid (eq2E (N : Int) xs ys = 0) := hide (by unfold eq2E; rw [if_neg (by rw [HX0.out]; simp), h0])
  clear h0 hyo e
  go_enter Try.func22, Try.ntmps22
  go_wp2_with fail
  refine HP.out.mono ?_
  rintro e w1 ⟨k, q, P, pn, pc, rfl, hp, hb1, hn1, _⟩
  have HN1 := hide (hn1 HX0.out)
  rw [HX0.out]
  have HQ := hide (gnormal_any (N : Int) B l d ys w1 (HB.out.below hb1) HM.out)
  have HPP := hide hp
  have HB1 := hide hb1
  clear hp hb1 hn1
  go_wp2_with fail
  refine HQ.out.mono ?_
  rintro e w2 ⟨k2, q2, P2, pn2, pc2, rfl, hp2, hb2, hn2, _⟩
  have HN2 := hide (hn2 HY0.out)
  rw [HY0.out]
  have HPP2 := hide (HPP.out.below hb2)
  have HQ2 := hide hp2
  have HB2 := hide (HB1.out.trans (hb2.mono HB1.out.size))
  have HEQ : Hid (Gar.gp N xs = Gar.gp N ys ↔ (k = k2 ∧ q.map zs = q2.map zs)) := hide (by
    have h1 := HN1.out
    have h2 := HN2.out
    rw [Int.toNat_natCast] at h1 h2
    exact nfw_eq hN1 HXO.out HYO.out h1 h2)
  clear hp2 hb2 hn2 HPP HQ HP HB HN1 HN2
  by_cases hk : k = k2
  · have hkb : (k == k2) = true := by simpa using hk
    have HC := hide (aEqualFunc_any P P2 pn pn2 pc pc2 _ _ w2 HPP2.out.ill HQ2.out.ill)
    have HV : Hid (geqB (N : Int) xs ys = decide (q.map zs = q2.map zs)) := hide (by
      unfold geqB
      rw [HE.out, Int.toNat_natCast, decide_eq_true rfl, Bool.true_and, decide_eq_decide.2 HEQ.out]
      by_cases h : q.map zs = q2.map zs
      · rw [decide_eq_true h, decide_eq_true ⟨hk, h⟩]
      · rw [decide_eq_false h, decide_eq_false (fun x => h x.2)])
    clear hk
    go_wp2_with fail
    refine HC.out.mono ?_
    rintro e w3 ⟨rfl, hb3⟩
    have HB3 := hide (HB2.out.trans (hb3.mono HB2.out.size))
    obtain ⟨v, hv⟩ : ∃ v, decide (q.map zs = q2.map zs) = v := ⟨_, rfl⟩
    rw [hv] at HV ⊢
    clear hb3 hv
    go_wp2_with fail
    go_ret2
    rw [HE.out, HV.out]
    exact ⟨rfl, HB3.out⟩
  · have hkb : (k == k2) = false := by simpa using hk
    have HV : Hid (geqB (N : Int) xs ys = false) := hide (by
      unfold geqB
      rw [HE.out, Int.toNat_natCast, decide_eq_true rfl, Bool.true_and, decide_eq_false_iff_not]
      exact fun e => hk (HEQ.out.1 e).1)
    clear hk
    go_wp2_with fail
    go_ret2
    rw [HE.out, HV.out]
    exact ⟨rfl, HB2.out⟩
end Go.Proofs.Ytoaiblhlpdaeoaa
/- Package garside: Check. -/
namespace Go.Proofs.Ytoaiblhlpdaeoaa
set_option linter.unusedVariables false
set_option linter.unusedSimpArgs false
open Go.RowKit

set_option maxRecDepth 100000 in
set_option maxHeartbeats 8000000 in
theorem gcheck_any (m : Int) (A : Option Addr) (n c : Nat) (xss : List (List Int)) (w : World) (ha : SLL w A n c xss) (hm : (Lit.int .i64 m).wf = true) :
    Calls Try.prog 20 #[.int .i64 m, .slice A n c] w fun e w' => e = .returned (.int .i64 (ffE m xss)) ∧ Below w.heap.size w w' := by
  have HA := hide ha
  have HL := hide ha.len
  have hns := ha.small
  clear ha
  by_cases h1 : m < 2
  · have HE : Hid (ffE m xss = 1) := hide (by unfold ffE; rw [if_pos (by omega)])
    go_enter Try.func20, Try.ntmps20
    go_wp2_with fail
    go_ret
    exact ⟨by rw [HE.out]; rfl, Below.refl _ _⟩
  by_cases h6 : 6 < m
  · have HE : Hid (ffE m xss = 1) := hide (by unfold ffE; rw [if_pos (by omega)])
    go_enter Try.func20, Try.ntmps20
    go_wp2_with fail
    go_ret
    exact ⟨by rw [HE.out]; rfl, Below.refl _ _⟩
  by_cases h30 : 30 < n
  · have HE : Hid (ffE m xss = 2) := hide (by unfold ffE; rw [if_neg (by omega), if_pos (by rw [HL.out]; exact h30)])
    go_enter Try.func20, Try.ntmps20
    go_wp2_with fail
    go_ret
    exact ⟨by rw [HE.out]; rfl, Below.refl _ _⟩
  obtain ⟨N, rfl⟩ : ∃ N : Nat, m = (N : Int) := ⟨m.toNat, by omega⟩
  have hN2 : 2 ≤ N := by omega
  have hN6 : N ≤ 6 := by omega
  have HE0 : Hid (ffE (N : Int) xss = ffGo N (prevF xss 0) (xss.drop 0)) := hide (by
    unfold ffE
    rw [if_neg (by omega), if_neg (by rw [HL.out]; exact h30), Int.toNat_natCast, List.drop_zero]
    rfl)
  have HW0 := hide (Below.refl w.heap.size w)
  go_enter Try.func20, Try.ntmps20
  go_wp2_with fail
  go_loopw [19] (fun iv wr => ∃ k : Nat, k ≤ n ∧ iv = .int .i64 k ∧ Hid (ffE (N : Int) xss = ffGo N (prevF xss k) (xss.drop k)) ∧ Hid (0 < k → ∃ b : List Nat, isP b ∧ b.length = N ∧ xss.getD (k - 1) [] = zs b) ∧ Hid (Below w.heap.size w wr)) (fun iv _ => n - (intOf iv).toNat)
  case atStart => exact ⟨0, Nat.zero_le _, rfl, HE0, hide (fun h => absurd h (by omega)), HW0⟩
  case round =>
    clear HE0 HW0
    obtain ⟨k, hk, rfl, HE, HPV, HW⟩ := hrel
    by_cases hlt : k < n
    · have hst := ffGo_drop (N := N) (xss := xss) (k := k) (by rw [HL.out]; exact hlt)
      rw [← HE.out] at hst
      have HST := hide hst
      obtain ⟨ad, B, l, d, rfl, hcl, hr⟩ := (HA.out.below HW.out).at_ hlt
      have HP := hide hr
      have HFT := hide (check_any B l d _ wr hr.il)
      obtain ⟨p, hp⟩ : ∃ p, xss.getD k [] = p := ⟨_, rfl⟩
      have HPK := hide hp
      rw [hp] at HST HP HFT
      clear hst hr hp HE
      go_wp2_with fail
      refine HFT.out.mono ?_
      rintro e w1 ⟨rfl, hb⟩
      replace HP := hide (HP.out.below hb)
      replace HW := hide (HW.out.trans (hb.mono HW.out.size))
      clear hb HFT hcl
      by_cases hf : pf p = 0
      case neg =>
        have HV : Hid (ffE (N : Int) xss = pf p) := hide (by rw [HST.out, if_pos hf])
        obtain ⟨f, hfe⟩ : ∃ f, pf p = f := ⟨_, rfl⟩
        rw [hfe] at HV hf ⊢
        have hne : (f != 0) = true := by simpa using hf
        clear hf hfe
        go_wp2_with fail
        go_ret
        exact ⟨by rw [HV.out]; rfl, HW.out⟩
      obtain ⟨h9, a, ha, pa⟩ := (pf_zero p).1 hf
      have HFZ := hide hf
      rw [hf]
      subst ha
      have hal := HP.out.il.len
      rw [zs_length] at hal
      have HPA := hide pa
      clear hf h9 pa
      by_cases hlN : l = N
      case neg =>
        have HV : Hid (ffE (N : Int) xss = 3) := hide (by
          rw [HST.out, if_neg (by rw [HFZ.out]; simp), if_pos]
          unfold badF
          rw [decide_eq_true (by rw [zs_length, hal]; exact hlN)]
          rfl)
        have hne : ((l : Int) != (N : Int)) = true := by simp; omega
        clear hlN
        go_wp2_with fail
        go_ret
        exact ⟨by rw [HV.out]; rfl, HW.out⟩
      subst hlN
      have HAL := hide hal
      have hne : ((l : Int) != (l : Int)) = false := by simp
      have HBAD : Hid (badF l (zs a) = (decide (a = List.range l) || decide (a = Gar.fullL l))) := hide (by
        unfold badF
        rw [decide_eq_false (by rw [zs_length, HAL.out]; simp), Bool.false_or]
        have e1 : ∀ q : List Nat, eqB (zs a) (zs q) = decide (a = q) := fun q => by
          by_cases h : a = q
          · rw [eqB_true (by rw [h]), decide_eq_true h]
          · rw [eqB_false (fun e => h (zs_inj e)), decide_eq_false h]
        rw [e1, e1])
      have HII := hide (gisId_any B l d a w1 HP.out HPA.out HAL.out)
      go_wp2_with fail
      refine HII.out.mono ?_
      rintro e w3 ⟨rfl, hb⟩
      replace HP := hide (HP.out.below hb)
      replace HW := hide (HW.out.trans (hb.mono HW.out.size))
      obtain ⟨e1, he1⟩ : ∃ e1, decide (a = List.range l) = e1 := ⟨_, rfl⟩
      rw [he1] at HBAD ⊢
      clear hb he1 HII
      cases e1 with
      | true =>
        have HV : Hid (ffE (l : Int) xss = 3) := hide (by
          rw [HST.out, if_neg (by rw [HFZ.out]; simp), if_pos (by rw [HBAD.out]; rfl)])
        go_wp2_with fail
        go_ret
        exact ⟨by rw [HV.out]; rfl, HW.out⟩
      | false =>
        have HIH := hide (gisHalf_any B l d a w3 HP.out (by omega))
        go_wp2_with fail
        refine HIH.out.mono ?_
        rintro e w5 ⟨rfl, hb⟩
        replace HP := hide (HP.out.below hb)
        replace HW := hide (HW.out.trans (hb.mono HW.out.size))
        obtain ⟨e2, he2⟩ : ∃ e2, decide (a = Gar.fullL l) = e2 := ⟨_, rfl⟩
        rw [he2] at HBAD ⊢
        clear hb he2 HIH
        cases e2 with
        | true =>
          have HV : Hid (ffE (l : Int) xss = 3) := hide (by
            rw [HST.out, if_neg (by rw [HFZ.out]; simp), if_pos (by rw [HBAD.out]; rfl)])
          go_wp2_with fail
          go_ret
          exact ⟨by rw [HV.out]; rfl, HW.out⟩
        | false =>
          have HNX : Hid (0 < k + 1 → ∃ b : List Nat, isP b ∧ b.length = l ∧ xss.getD (k + 1 - 1) [] = zs b) := hide (fun _ => ⟨a, HPA.out, HAL.out, by rw [Nat.add_sub_cancel]; exact HPK.out⟩)
          by_cases hk0 : k = 0
          · have HV : Hid (ffE (l : Int) xss = ffGo l (prevF xss (k + 1)) (xss.drop (k + 1))) := hide (by
              rw [HST.out, if_neg (by rw [HFZ.out]; simp), if_neg (by rw [HBAD.out, hk0]; simp [prevF, looseF])])
            have hk1 : ((0 : Int) < (k : Int)) = False := by simp; omega
            clear HST HBAD
            go_wp2_with fail
            go_roundw
            case rel => exact ⟨k + 1, by omega, by go_num, HV, HNX, HW⟩
            case measure => simp [intOf]; omega
          · obtain ⟨b, pb, lb, eb⟩ := HPV.out (by omega)
            obtain ⟨q, hq⟩ : ∃ q, k - 1 = q := ⟨_, rfl⟩
            have hqk : (k : Int) - 1 = (q : Int) := by omega
            have hqn : q < n := by omega
            obtain ⟨ad', B', l', d', e1, hcl', hr'⟩ := (HA.out.below HW.out).at_ (k := q) hqn
            injection e1 with e1
            subst e1
            rw [← hq, eb] at hr'
            have hl' : l' = l := by have := hr'.il.len; rw [zs_length] at this; omega
            subst hl'
            have HLS : Hid (looseF (prevF xss k) (zs a) = !(Gar.tightB b a (inv b))) := hide (by
              unfold prevF looseF
              rw [if_neg hk0]
              show (!tightI (xss.getD (k - 1) []) (zs a)) = _
              rw [eb, tightI_zs])
            have HT := hide (gisTight_any B' B l' d' d b a w5 hr' HP.out pb HAL.out (by omega))
            have hk1 : ((0 : Int) < (k : Int)) = True := by simp; omega
            have hw1 : IntKind.i64.wrap ((k : Int) - 1) = (q : Int) := by rw [IntKind.wrap_i64]; omega
            obtain ⟨t, ht⟩ : ∃ t, Gar.tightB b a (inv b) = t := ⟨_, rfl⟩
            rw [ht] at HLS HT
            have HQK := hide hqk
            clear ht hr' pb lb eb hq hqk
            go_wp2_with fail
            refine HT.out.mono ?_
            rintro e w6 ⟨rfl, hb⟩
            replace HW := hide (HW.out.trans (hb.mono HW.out.size))
            clear hb hcl'
            cases t with
            | true =>
              have HV : Hid (ffE (l' : Int) xss = ffGo l' (prevF xss (k + 1)) (xss.drop (k + 1))) := hide (by
                rw [HST.out, if_neg (by rw [HFZ.out]; simp), if_neg (by rw [HBAD.out, HLS.out]; simp)])
              clear HST HBAD HLS HT
              have hnt := Bool.not_true
              go_wp2_with fail
              go_roundw
              case rel => exact ⟨k + 1, by omega, by go_num, HV, HNX, HW⟩
              case measure => simp [intOf]; omega
            | false =>
              have HV : Hid (ffE (l' : Int) xss = 3) := hide (by
                rw [HST.out, if_neg (by rw [HFZ.out]; simp), if_pos (by rw [HBAD.out, HLS.out]; rfl)])
              clear HST HBAD HLS HT
              go_wp2_with fail
              go_ret
              exact ⟨by rw [HV.out]; rfl, HW.out⟩
    · have HV : Hid (ffE (N : Int) xss = 0) := hide (by
        rw [HE.out, List.drop_of_length_le (by rw [HL.out]; omega)]
        unfold ffGo
        rfl)
      clear HE HPV
      go_wp2_with fail
      go_ret
      exact ⟨by rw [HV.out]; rfl, HW.out⟩
end Go.Proofs.Ytoaiblhlpdaeoaa
