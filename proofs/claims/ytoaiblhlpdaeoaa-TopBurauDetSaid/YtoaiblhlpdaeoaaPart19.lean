/- Several texts in one. -/
import Derived.Test.YtoaiblhlpdaeoaaPart18
import Derived.Test.YtoaiblhlpdaeoaaBase1
import Derived.Test.YtoaiblhlpdaeoaaPart7
import Derived.Test.YtoaiblhlpdaeoaaPart2
import Derived.Test.YtoaiblhlpdaeoaaPart1
import Derived.Test.YtoaiblhlpdaeoaaPart3
import Derived.Test.YtoaiblhlpdaeoaaBase2
import Derived.Test.YtoaiblhlpdaeoaaPart8
/- Package polymatrix: expand. -/
namespace Go.Proofs.Ytoaiblhlpdaeoaa
set_option linter.unusedVariables false
set_option linter.unusedSimpArgs false
open Go.RowKit

theorem cell_at_var {w : World} {a : Addr} {v : Value} (h : w.cell? a = some v) : ∃ g o, a = ⟨g, o, none⟩ := by
  obtain ⟨g, o, p⟩ := a
  cases p with
  | none => exact ⟨g, o, rfl⟩
  | some p =>
    exfalso
    unfold World.cell? at h
    split at h
    · simp at h
    · cases h
theorem rangeAt_two {z : World} {g o : Nat} {u v : Value} (h0 : z.cell? ⟨g, o, none⟩ = some u) (h1 : z.cell? ⟨g, o + 1, none⟩ = some v) : z.rangeAt g o [u, v] := fun j x hx => by
  match j, hx with
  | 0, hx => injection hx with hx; rw [← hx]; exact h0
  | 1, hx => injection hx with hx; rw [← hx]; exact h1
theorem SPP.tail_ {w : World} {A : Option Addr} {n c : Nat} {pss : List (List Po)} (h : SPP w A n c pss) (h1 : 1 ≤ n) : SPP w (cutA A 1 c) (n - 1) (c - 1) (pss.drop 1) := by
  have hl := h.len
  have hc := h.cap
  refine ⟨by simp; omega, by have := h.small; omega, fun e => cutA_none h.nil h1 (Nat.le_refl n) e, by omega, fun h0 => ?_⟩
  obtain ⟨ad, rfl, hlt, hcl⟩ := h.mem (by omega)
  unfold cutA
  rw [if_neg (by omega)]
  refine ⟨ad.add 1, rfl, by rw [block_of_add]; exact hlt, fun j hj => ?_⟩
  rw [add_of_add]
  obtain ⟨B, m, d, q1, q2⟩ := hcl (1 + j) (by omega)
  refine ⟨B, m, d, q1, ?_⟩
  rw [show (pss.drop 1).getD j [] = pss.getD (1 + j) [] by simp [List.getD, List.getElem?_drop, Nat.add_comm]]
  exact q2
theorem SPP.blk {w : World} {A : Option Addr} {n c : Nat} {pss : List (List Po)} (h : SPP w A n c pss) (h1 : 1 ≤ n) : ∀ ad, A = some ad → ad.block < w.heap.size := fun ad e => by
  obtain ⟨ad2, e2, hl, _⟩ := h.mem (by omega)
  rw [e] at e2
  cases e2
  exact hl

theorem eExpand : ∀ args w, (callFunc 82 args).run Try.prog w = .ok (.enter 82 args) w := enters (fn := Try.f82) (by kernel_rfl) (by kernel_rfl) (by kernel_rfl)
theorem eAddP : ∀ args w, (callFunc 115 args).run Try.prog w = .ok (.enter 115 args) w := enters (fn := Try.f115) (by kernel_rfl) (by kernel_rfl) (by kernel_rfl)

/-- The sum for k rows. -/
def ExpR (w : World) (k : Nat) (D : LP) (e : Ending) (w' : World) : Prop :=
  ∃ R d ys, e = .returned (.slice R (59 * k + 1) d) ∧ OwnI w' w.heap.size R (59 * k + 1) d (ys.map wr64) ∧ LP.of (-20 * (k : Int)) ys = D ∧ Below w.heap.size w w'

set_option maxRecDepth 100000 in
set_option maxHeartbeats 8000000 in
theorem expandP_any (N : Nat) : ∀ (k : Nat) (A : Option Addr) (c : Nat) (pss : List (List Po)) (B : Option Addr) (d : Nat) (cs : List Int) (w : World), SPP w A k c pss → SL w B k d cs → k ≤ 4 → (∀ r ∈ pss, r.length = N ∧ ∀ p ∈ r, polyE p = 0) → (∀ x ∈ cs, 0 ≤ x ∧ x < N) →
    Calls Try.prog 82 #[.slice A k c, .slice B k d] w (ExpR w k (detR k (pmM pss cs)))
  | 0, A, c, pss, B, d, cs, w, ha, hb, hk, hr, hcs => by
    have HD : Hid (detR 0 (pmM pss cs) = 1) := hide rfl
    have hl0 : OwnI (w.alloc (.cells #[.int .i64 1] 3)) w.heap.size (some ⟨w.heap.size, 0, none⟩) 1 1 [1] := OwnI.lit w [1] (Nat.le_refl _) (by simp) rfl rfl rfl
    have HL := hide hl0
    have HB1 : Hid (Below w.heap.size w (w.alloc (.cells #[.int .i64 1] 3))) := hide ((Below.refl _ _).alloc (Nat.le_refl _) _)
    clear ha hb hk hr hcs hl0
    go_enter Try.func82, Try.ntmps82
    go_wp2_with fail
    go_ret
    rw [HD.out]
    exact ⟨_, _, [1], rfl, HL.out, rfl, HB1.out⟩
  | n + 1, A, c, pss, B, d, cs, w, ha, hb, hk, hr, hcs => by
    have IH := hide (expandP_any N n)
    obtain ⟨k, hkn⟩ : ∃ k, n + 1 = k := ⟨_, rfl⟩
    have HTL := hide (ha.tail_ (by omega))
    have HP0 := hide (ha.at_ (k := 0) (by omega))
    have HAB := hide (ha.blk (by omega))
    have HLA := hide ha.len
    have HLB := hide hb.il.len
    have hsm := hb.il.small
    obtain ⟨p0, prest, hpe⟩ : ∃ p0 prest, pss = p0 :: prest := by
      cases pss with
      | nil => have := ha.len; simp at this
      | cons p q => exact ⟨p, q, rfl⟩
    subst hpe
    obtain ⟨hp0l, hp0e⟩ := hr p0 (by simp)
    have HRR : Hid (∀ r ∈ prest, r.length = N ∧ ∀ p ∈ r, polyE p = 0) := hide (fun r h => hr r (by simp [h]))
    have HPE := hide hp0e
    have HCS := hide hcs
    have HB := hide hb
    have HFULL : Hid (pmE (p0 :: prest) cs k n = detR k (pmM (p0 :: prest) cs)) := hide (by rw [← hkn]; exact pmE_full _ _ _)
    have HSTEP : Hid (∀ j, j < k → ∀ (lo : Int) (xs : List Int), p0.getD (cs.getD j 0).toNat (0, []) = (lo, xs) → ∀ D, D = detR n (pmM prest (without cs j)) → pmE (p0 :: prest) cs (j + 1) n = pmE (p0 :: prest) cs j n + LP.term 0 (CR.sgR Int j) * (LP.of lo xs * D)) := hide (fun j hj lo xs h D hD => pmE_step p0 prest (by rw [HLB.out]; omega) h n D hD)
    rw [hkn] at HTL HLA HLB HB hsm hk ⊢
    rw [show k - 1 = n by omega, show (p0 :: prest).drop 1 = prest from rfl] at HTL
    rw [show (p0 :: prest).getD 0 [] = p0 from rfl] at HP0
    clear ha hb hr hcs hp0e
    obtain ⟨ad, RB, rm, rd, hA, hc0, hp0⟩ := HP0.out
    subst hA
    rw [show ad.add 0 = ad by unfold Addr.add; simp] at hc0
    have hrm : rm = N := by rw [← hp0.len]; exact hp0l
    subst hrm
    have HC0 := hide hc0
    have HP := hide hp0
    have hadl : ad.block < w.heap.size := HAB.out ad rfl
    clear hc0 hp0 HP0 HAB hp0l
    obtain ⟨T, hT⟩ : ∃ T, detR k (pmM (p0 :: prest) cs) = T := ⟨_, rfl⟩
    rw [hT] at HFULL ⊢
    clear hT
    obtain ⟨L, hL⟩ : ∃ L : Nat, 59 * k + 1 = L := ⟨_, rfl⟩
    have hLe : (k : Int) * 59 + 1 = (L : Int) := by omega
    have hk0 : ((k : Int) == 0) = false := by simp; omega
    have hLs : L ≤ 1000 := by omega
    obtain ⟨i0, hi0, hz0, hz1, hz2⟩ := info_parts int_info
    have HI0 := hide hi0
    have HZ0 := hide hz0
    have HZ1 := hide hz1
    have HZ2 := hide hz2
    have HE0 : Hid (pmE (p0 :: prest) cs 0 n = 0) := hide rfl
    have HRE : Hid (LP.of (-20 * (k : Int)) (List.replicate L 0) = 0) := hide (LP.of_repl _ _)
    have HRW : Hid ((List.replicate L (0 : Int)).map wr64 = List.replicate L 0) := hide (by rw [List.map_replicate]; rfl)
    have HN := hide hkn
    have HK4 := hide hk
    clear hi0 hz0 hz1 hz2 hkn
    unfold ExpR
    rw [hL]
    go_enter Try.func82, Try.ntmps82
    go_wp2_with (at_make; refine wpList_make_full _ rfl _ _ 87 rfl w.heap.size 3 i0 (.int .i64 0) 1 Try.underlying87 HI0.out HZ0.out HZ1.out .i64 .i64 _ _ L rfl rfl (by omega) (by omega) (by rw [HZ2.out]; omega) (by unfold maxLen; omega) (Nat.le_refl _) ?_; intro w1 hown1 hg1)
    have hB1 : Below w.heap.size w w1 := (Below.refl _ _).grown hg1 (Nat.le_refl _) (by intro k hk; cases hk)
    have hw1 := OwnI.zero (z := #[]) hown1 (by omega)
    rw [← HRW.out] at hw1
    have HO := hide hw1
    have HW := hide hB1
    clear hown1 hg1 hw1 hB1
    go_loopw [6, 21] (fun sv jv wx => ∃ (j : Nat) (ts : List Int), j ≤ k ∧ jv = .int .i64 j ∧ sv = .int .i64 (CR.sgR Int j) ∧ Hid (LP.of (-20 * (k : Int)) ts = pmE (p0 :: prest) cs j n) ∧ Hid (OwnI wx w.heap.size (some ⟨w.heap.size, 0, none⟩) L L (ts.map wr64)) ∧ Hid (Below w.heap.size w wx)) (fun _ jv _ => k - (intOf jv).toNat)
    case atStart => exact ⟨0, _, Nat.zero_le _, rfl, rfl, hide (HRE.out.trans HE0.out.symm), HO, HW⟩
    case round =>
      clear HO HW HRE HE0 HRW
      obtain ⟨j, ts, hj, rfl, rfl, HT, HO, HW⟩ := hrel
      by_cases hjk : j < k
      · obtain ⟨bd, hBe, hcl⟩ := (HB.out.below HW.out).il.at_ hjk
        subst hBe
        have HX := hide (HCS.out _ (LP.getD_mem' (cs := cs) (i := j) (by rw [HLB.out]; exact hjk)))
        have HST := hide (HSTEP.out j hjk)
        obtain ⟨X, hX⟩ : ∃ X : Nat, cs.getD j 0 = (X : Int) := ⟨(cs.getD j 0).toNat, by have := HX.out; omega⟩
        rw [hX] at hcl HX HST
        have hXN : X < rm := by have := HX.out; omega
        rw [Int.toNat_natCast] at HST
        obtain ⟨rb, PB, pn, pc, hrb, hq0, hq1, hps, hwf⟩ := HP.out.at_ hXN
        subst hrb
        have HPX : Hid (polyE (p0.getD X (0, [])) = 0) := hide (HPE.out _ (by
          have : X < p0.length := by rw [HP.out.len]; exact hXN
          rw [List.getD_eq_getElem?_getD, List.getElem?_eq_getElem this]
          exact List.getElem_mem _))
        obtain ⟨lo, xs, hpo⟩ : ∃ lo xs, p0.getD X (0, []) = (lo, xs) := ⟨_, _, rfl⟩
        rw [hpo] at hq0 hps hwf HPX
        have HST2 := hide (HST.out lo xs hpo)
        dsimp only at hq0 hps hwf
        obtain ⟨_, hpn20, hlo1, hlo2, hco⟩ := polyE_zero HPX.out
        dsimp only at hpn20 hlo1 hlo2 hco
        have HCO := hide hco
        have HPS := hide hps
        have HQ0 := hide hq0
        have HQ1 := hide hq1
        have HJK := hide hjk
        have hpn : xs.length = pn := hps.il.len
        rw [hpn] at hpn20
        have HJ := hide hj
        have hw1 : IntKind.i64.wrap ((j : Int) + 1) = (j : Int) + 1 := by rw [IntKind.wrap_i64]; omega
        clear hX HX HST HPX hpo hq0 hq1 hps hwf hco hpn hj
        go_wp2_with fail
        refine (clone_any (some bd) k d cs _ (HB.out.below HW.out).il (fun h => by cases h)).mono ?_
        rintro e w2 ⟨E, en, ec, rfl, hown, hb2⟩
        have hen : k = en := by rw [← hown.len]; exact HLB.out.symm
        subst hen
        obtain ⟨ge, hge, hEe⟩ : ∃ ge, wr.heap.size ≤ ge ∧ E = some ⟨ge, 0, none⟩ := by
          rcases hown.own.2 with ⟨_, h0⟩ | ⟨g', cap, cur, hv, hg', _⟩
          · omega
          · injection hv with hv
            exact ⟨g', hg', hv⟩
        subst hEe
        have hwr := HW.out.size
        have hg0 : w.heap.size < wr.heap.size := (HO.out.lt _ rfl).2
        have HO2 := hide ((KeepT.below hb2).ownI HO.out)
        have HW2 := hide (HW.out.trans (hb2.mono hwr))
        have hs2 := hb2.size
        have HOWN := hide hown
        have HHG := hide hge
        have HHS := hide hwr
        clear HO HW hown hb2 hcl
        go_wp2_with fail
        refine (delete_any wr.heap.size ge k ec j cs _ HOWN.out hjk).mono ?_
        rintro e w3 ⟨rfl, hown3, hg3⟩
        have HO3 := hide (HO2.out.kept hg3 (.inr (by simp [Value.ownBlock]; omega)))
        have HW3 := hide (HW2.out.grown hg3 (by have := HW2.out.size; omega) (fun q hq => by injection hq with hq; omega))
        have hs3 := hg3.size
        have hg3 : w.heap.size < w3.heap.size := by omega
        have hk1 : k - 1 = n := by have := HN.out; omega
        rw [hk1] at hown3 ⊢
        have HOW3 := hide hown3.sl
        clear HOWN HO2 HW2 hown3 hs2 hs3 hge hwr hk1 hg0 HHG HHS
        obtain ⟨sg, hsg⟩ : ∃ sg, CR.sgR Int j = sg := ⟨_, rfl⟩
        obtain ⟨sg2, hsg2⟩ : ∃ sg, CR.sgR Int (j + 1) = sg := ⟨_, rfl⟩
        have HSG : Hid (sg = 1 ∨ sg = -1) := hide (by rw [← hsg]; exact sgI_cases j)
        have HSG2 : Hid (IntKind.i64.wrap (-sg) = sg2) := hide (by
          rw [← hsg2, CR.sgR_succ, hsg, IntKind.wrap_i64]
          have := HSG.out
          omega)
        rw [hsg] at HST2 ⊢
        have HSN := hide hsg2
        clear hsg hsg2
        go_upto_region 9 with fail
        have hpl : 0 < pn → ∀ a, PB = some a → a.block ≠ w.heap.size := fun h a e => by have := HPS.out.inside h a e; omega
        obtain ⟨g3, o3, h3⟩ := cell_at_var HQ0.out
        have hq0 := HQ0.out
        have hq1 := HQ1.out
        rw [h3] at hq0 hq1
        have hlt3 : g3 < w.heap.size := cell_lt hq0
        have hxX : X < rm := hXN
        have hW3s := HW3.out.size
        refine wp_region_T (S := fun x => Below w3.heap.size w3 x) 12 (by kernel_rfl) (Below.refl _ _).drew (fun hS => ?_)
        have hto : ∀ x, Below w3.heap.size w3 x → Below w.heap.size w x := fun x hx => HW3.out.trans (hx.mono hW3s)
        refine wpT_tk 0 (v := .slice (some ⟨w.heap.size, 0, none⟩) L L) rfl (by kernel_rfl) (by kernel_rfl) (by kernel_rfl) (by kernel_rfl) (yi rfl fun x hx => gives_move (.inl rfl) rfl) hS ?_
        go_frame
        refine wpT_tk 1 (v := .int .i64 sg) rfl (by kernel_rfl) (by kernel_rfl) (by kernel_rfl) (by kernel_rfl) (yi rfl fun x hx => gives_move (.inl rfl) rfl) hS ?_
        go_frame
        refine wpT_tk 2 (v := .slice (some ad) k c) rfl (by kernel_rfl) (by kernel_rfl) (by kernel_rfl) (by kernel_rfl) (yi rfl fun x hx => gives_move (.inl rfl) rfl) hS ?_
        go_frame
        refine wpT_tk 3 (v := .pointer (some ad)) rfl (by kernel_rfl) (by kernel_rfl) (by kernel_rfl) (by kernel_rfl) (yi rfl fun x hx => gives_index0 rfl Try.underlying50 (fun w => by kernel_rfl) rfl rfl (by omega)) hS ?_
        go_frame
        refine wpT_tk 4 (v := .slice (some rb) rm rd) rfl (by kernel_rfl) (by kernel_rfl) (by kernel_rfl) (by kernel_rfl) (yi rfl fun x hx => gives_load1 rfl (by kernel_rfl) rfl (((hto x hx).cell (p := ad) hadl).trans HC0.out)) hS ?_
        go_frame
        refine wpT_tk 5 (v := .int .i64 X) rfl (by kernel_rfl) (by kernel_rfl) (by kernel_rfl) (by kernel_rfl) (yi rfl fun x hx => gives_move (.inl rfl) rfl) hS ?_
        go_frame
        refine wpT_tk 6 (v := .pointer (some (rb.add (X * 2)))) rfl (by kernel_rfl) (by kernel_rfl) (by kernel_rfl) (by kernel_rfl) (yi rfl fun x hx => gives_indexSlice rfl Try.underlying58 (fun w => by kernel_rfl) rfl rfl hxX) hS ?_
        go_frame
        rw [h3]
        refine wpT_tk 7 (v := PV lo PB pn pc) rfl (by kernel_rfl) (by kernel_rfl) (by kernel_rfl) (by kernel_rfl) (yi rfl fun x hx => gives_loadMid (cs := [.int .i64 lo, .slice PB pn pc]) rfl rfl (rangeAt_two (((hto x hx).cell (p := ⟨g3, o3, none⟩) hlt3).trans hq0) (((hto x hx).cell (p := ⟨g3, o3 + 1, none⟩) hlt3).trans hq1)) Try.underlying54 (by kernel_rfl) (by kernel_rfl)) hS ?_
        go_frame
        refine wpT_tk 8 (v := .slice (some ad) k c) rfl (by kernel_rfl) (by kernel_rfl) (by kernel_rfl) (by kernel_rfl) (yi rfl fun x hx => gives_move (.inl rfl) rfl) hS ?_
        go_frame
        refine wpT_tk 9 (v := .slice (cutA (some ad) 1 c) (k - 1) (c - 1)) rfl (by kernel_rfl) (by kernel_rfl) (by kernel_rfl) (by kernel_rfl) (yi rfl fun x hx => gives_cut_l rfl Try.underlying50 (by kernel_rfl) rfl rfl (by omega)) hS ?_
        go_frame
        refine wpT_tk 10 (v := .slice (some ⟨ge, 0, none⟩) n ec) rfl (by kernel_rfl) (by kernel_rfl) (by kernel_rfl) (by kernel_rfl) (yi rfl fun x hx => gives_move (.inl rfl) rfl) hS ?_
        go_frame
        have hk1 : k - 1 = n := by have := HN.out; omega
        refine wpT_1 11 rfl (by kernel_rfl) ?_
        rw [hk1]
        have hWd := hto _ hS
        refine wp_call [.slice (cutA (some ad) 1 c) n (c - 1), .slice (some ⟨ge, 0, none⟩) n ec] rfl rfl eExpand rfl ((IH.out (cutA (some ad) 1 c) (c - 1) prest (some ⟨ge, 0, none⟩) ec (without cs j) w3.drew (HTL.out.below hWd) (HOW3.out.below hS) (by have := HK4.out; omega) HRR.out (fun x hx => HCS.out x (without_mem hx))).mono ?_)
        rintro e w4 ⟨R, rd4, ys, rfl, hown4, hlp4, hb4⟩
        have hS4 : Below w3.heap.size w3 w4 := hS.trans (hb4.mono hS.size)
        refine ⟨_, rfl, fun _ => hS4, ?_⟩
        go_frame
        refine wpT_1 12 rfl (by kernel_rfl) ?_
        have hRb : 0 < 59 * n + 1 → ∀ a, R = some a → a.block ≠ w.heap.size := fun _ a e => by
          rcases hown4.own.2 with ⟨_, h0⟩ | ⟨g', cap, cur, hv, hg', _⟩
          · omega
          · injection hv with hv
            rw [e] at hv
            injection hv with hv
            rw [hv]
            show g' ≠ w.heap.size
            have h1 : w3.drew.heap.size ≤ g' := hg'
            have h2 : w3.drew.heap.size = w3.heap.size := rfl
            omega
        have CP := addP_any w.heap.size w.heap.size L L ts sg lo PB pn pc xs R (59 * n + 1) rd4 ys w4 (-20 * (n : Int)) ((KeepT.below hS4).ownI HO3.out) (HPS.out.below (hto _ hS4)) hown4.sl HSG.out HCO.out (by omega) (by omega) hpn20 (by have := HN.out; omega) (by omega) hpl hRb
        rw [show -20 * (n : Int) - 20 = -20 * (k : Int) by have := HN.out; omega] at CP
        refine wp_call [.slice (some ⟨w.heap.size, 0, none⟩) L L, .int .i64 sg, PV lo PB pn pc, .slice R (59 * n + 1) rd4] rfl rfl eAddP rfl (CP.mono ?_)
        rintro e w5 ⟨rfl, ts2, hl2, hlp2, hown5, hb5⟩
        refine ⟨_, rfl, fun h => absurd rfl h, ?_⟩
        go_frame
        refine wpT_done (by kernel_rfl) (noPanic_mk ?_) _
        have HT2 : Hid (LP.of (-20 * (k : Int)) ts2 = pmE (p0 :: prest) cs (j + 1) n) := hide (by rw [hlp2, HT.out, HST2.out _ hlp4])
        have HO5 := hide hown5
        have HW5 := hide ((hto _ hS4).trans hb5)
        have hjk := HJK.out
        have hsg2 := HSG2.out
        have HEND := HSN.out
        clear HT HO3 HW3 hlp2 hown5 hb5 hS hS4 hto hWd hown4 hlp4 hb4 hRb hpl CP hq0 hq1 h3 HOW3 HST2
        go_wp2_with fail
        go_roundw
        case rel => exact ⟨j + 1, ts2, by omega, by go_num, by rw [← HEND], HT2, HO5, HW5⟩
        case measure => simp [intOf]; omega
      · have hje : j = k := by omega
        subst hje
        go_wp2_with fail
        go_ret
        exact ⟨_, _, ts, rfl, HO.out, HT.out.trans HFULL.out, HW.out⟩
end Go.Proofs.Ytoaiblhlpdaeoaa
/- Package polymatrix: poly. -/
namespace Go.Proofs.Ytoaiblhlpdaeoaa
set_option linter.unusedVariables false
set_option linter.unusedSimpArgs false
open Go.RowKit

set_option maxRecDepth 100000 in
set_option maxHeartbeats 2000000 in
theorem pmIndex_any {fid : FuncId} {caps : List Value} (f : Int → Bool) (hfid : ∀ args w, (callFunc fid args).run Try.prog w = .ok (.enter fid args) w) (A : Option Addr) (n c : Nat) (xs : List Int) (w : World) (ha : IL w A n xs)
    (hf : ∀ x w, Calls Try.prog fid (.int .i64 x :: caps).toArray w fun e w' => e = .returned (.bool (f x)) ∧ w = w') :
    Calls Try.prog 117 #[.slice A n c, .func (.func fid) #[] caps.toArray] w fun e w' => ((e = .returned (.int .i64 (-1)) ∧ ∀ j, j < n → f (xs.getD j 0) = false) ∨ ∃ k : Nat, e = .returned (.int .i64 k) ∧ k < n ∧ f (xs.getD k 0) = true ∧ ∀ j, j < k → f (xs.getD j 0) = false) ∧ w = w' := by
  have hs := ha.small
  have HA := hide ha
  have HF := hide hf
  clear ha hf
  go_enter Try.func117, Try.ntmps117
  go_wp2
  go_loop [8] (fun i => ∃ k : Nat, k ≤ n ∧ i = .int .i64 k ∧ Hid (∀ j, j < k → f (xs.getD j 0) = false)) (fun i => n - (intOf i).toNat)
  case atStart => exact ⟨0, Nat.zero_le _, rfl, hide (fun j hj => absurd hj (by omega))⟩
  case round =>
    obtain ⟨k, hk, rfl, HN⟩ := hrel
    by_cases hlt : k < n
    · obtain ⟨ad, rfl, hc⟩ := HA.out.at_ hlt
      have HC := hide (HF.out (xs.getD k 0) w)
      by_cases hfk : f (xs.getD k 0) = true
      · have HY := hide hfk
        rw [hfk] at HC
        clear hfk
        go_wp2_with fail
        refine HC.out.mono ?_
        rintro e w1 ⟨rfl, rfl⟩
        go_wp2_with fail
        go_ret
        exact ⟨.inr ⟨k, rfl, hlt, HY.out, HN.out⟩, rfl⟩
      · have hfk' : f (xs.getD k 0) = false := by simpa using hfk
        have HN2 : Hid (∀ j, j < k + 1 → f (xs.getD j 0) = false) := hide (fun j hj => by
          by_cases e : j = k
          · rw [e]; exact hfk'
          · exact HN.out j (by omega))
        rw [hfk'] at HC
        clear hfk hfk'
        go_wp2_with fail
        refine HC.out.mono ?_
        rintro e w1 ⟨rfl, rfl⟩
        go_wp2_with fail
        go_round
        case rel => exact ⟨k + 1, by omega, by go_num, HN2⟩
        case measure => simp [intOf]; omega
    · go_wp2_with fail
      go_ret
      exact ⟨.inl ⟨rfl, fun j hj => HN.out j (by omega)⟩, rfl⟩
set_option maxHeartbeats 1000000 in
theorem pmClone_any (A : Option Addr) (n c : Nat) (xs : List Int) (w : World) (ha : IL w A n xs) (hc : A = none → n = 0 ∧ c = 0) :
    Calls Try.prog 118 #[.slice A n c] w (GivesOwn w xs) := by
  obtain ⟨i0, hi0, hz0, hz1, hz2⟩ := info_parts int_info
  rcases A with _ | ad
  · obtain ⟨rfl, rfl⟩ := hc rfl
    have hx : xs = [] := List.eq_nil_of_length_eq_zero ha.len
    subst hx
    have hnil := fun (W : World) => Lib.run_eql_slice_nil (P := Try.prog) W 87 3 none 0 0 0 0 Try.underlying87
    go_enter Try.func118, Try.ntmps118
    go_wp2
    go_ret
    exact ⟨none, 0, 0, rfl, OwnI.nil_ _ _, Below.refl _ _⟩
  · have hnil := fun (W : World) => Lib.run_eql_slice_nil (P := Try.prog) W 87 3 (some ad) n c 0 0 Try.underlying87
    have hsm := ha.small
    have hl0 : OwnI (w.alloc (.cells #[] 3)) w.heap.size (some ⟨w.heap.size, 0, none⟩) 0 0 [] := OwnI.lit w [] (Nat.le_refl _) (by simp) rfl rfl rfl
    have ha1 := ha.alloc (.cells #[] 3)
    have hb1 : Below w.heap.size w (w.alloc (.cells #[] 3)) := (Below.refl _ _).alloc (Nat.le_refl _) _
    go_enter Try.func118, Try.ntmps118
    go_wp2_with (at_builtin; refine wpList_append_int _ rfl (.tmp 5) (.tmp 6) 87 rfl w.heap.size i0 Try.underlying87 hi0 hz0 hz1 hz2 (some ⟨w.heap.size, 0, none⟩) 0 0 [] rfl hl0 (some ad) n c xs rfl ha1 (by omega) (by simp) ?_; intro A9 c9 w9 happ)
    go_ret
    have ho := happ.own
    rw [List.nil_append] at ho
    rw [Nat.zero_add] at ho
    refine ⟨_, _, _, rfl, ho, hb1.grown happ.grown (by simp) (fun g hg => by simp [Value.ownBlock] at hg; omega)⟩


/-- poly's closure: is there a term? -/
theorem isTerm_any (x : Int) (w : World) : Calls Try.prog 116 (.int .i64 x :: []).toArray w fun e w' => e = .returned (.bool (x != 0)) ∧ w = w' := by
  go_enter Try.func116, Try.ntmps116
  go_wp2_with fail
  go_ret
  exact ⟨rfl, rfl⟩
theorem eIsTerm : ∀ args w, (callFunc 116 args).run Try.prog w = .ok (.enter 116 args) w := enters (fn := Try.f116) (by kernel_rfl) (by kernel_rfl) (by kernel_rfl)

set_option maxRecDepth 100000 in
set_option maxHeartbeats 4000000 in
theorem pmPoly_any (A : Option Addr) (n c : Nat) (ys : List Int) (k : Nat) (w : World) (ha : SL w A n c ys) (hn : n = 59 * k + 1) (hk : k ≤ 4) :
    Calls Try.prog 83 #[.slice A n c] w (GivesP w (LP.canon (LP.of (-20 * (k : Int)) ys)).1 (LP.canon (LP.of (-20 * (k : Int)) ys)).2) := by
  have HL : Hid (ys.length = n) := hide ha.il.len
  have HCAN : Hid (∀ l cs, LP.Cano l cs → LP.of l cs = LP.of (-20 * (k : Int)) ys → LP.canon (LP.of (-20 * (k : Int)) ys) = (l, cs)) := hide (fun lo cs h1 h2 => LP.canon_eq h1 h2)
  have HTR : Hid (∀ {i m : Nat}, i + m ≤ ys.length → (∀ j, j < i → ys.getD j 0 = 0) → (∀ j, i + m ≤ j → j < ys.length → ys.getD j 0 = 0) → LP.of (-20 * (k : Int) + i) ((ys.drop i).take m) = LP.of (-20 * (k : Int)) ys) := hide (fun h1 h2 h3 => LP.of_trim _ h1 h2 h3)
  have HZR : Hid ((∀ j, j < ys.length → ys.getD j 0 = 0) → LP.of 0 [] = LP.of (-20 * (k : Int)) ys) := hide (fun h => (LP.of_zeros _ h))
  have HW0 : Hid (Below w.heap.size w (w.alloc (.cells #[.int .i64 0, .slice none 0 0] 54))) := hide ((Below.refl _ _).alloc (Nat.le_refl _) _)
  have HBK : Hid (Blk (w.alloc (.cells #[.int .i64 0, .slice none 0 0] 54)) w.heap.size 54 #[.int .i64 0, .slice none 0 0]) := hide (Blk.new _ _ _)
  have HSL := hide (ha.below HW0.out)
  have HIN := hide ha.inside
  have HNIL := hide ha.nil
  have hcap := ha.cap
  have hqn : (n : Int).tdiv 59 = (k : Int) := by
    rw [hn, Int.tdiv_eq_ediv_of_nonneg (by omega)]
    omega
  have hns : n ≤ 1000 := by omega
  obtain ⟨i0, hi0, hz0, hz1, hz2⟩ := info_parts int_info
  have HI0 := hide hi0
  have HZ1 := hide hz1
  have HQ : Hid (IntKind.i64.wrap ((n : Int).tdiv 59) = (k : Int)) := hide (by rw [hqn, IntKind.wrap_i64]; omega)
  have HNE := hide hn
  clear ha hi0 hz0 hz1 hz2 hqn hn
  generalize LP.canon (LP.of (-20 * (k : Int)) ys) = P at *
  go_enter Try.func83, Try.ntmps83
  go_upto_region 1 with fail
  obtain ⟨w0, hw0⟩ : ∃ x, w.alloc (.cells #[.int .i64 0, .slice none 0 0] 54) = x := ⟨_, rfl⟩
  rw [hw0] at HW0 HBK HSL ⊢
  clear hw0
  have hbw := HBK.out.lt
  go_wp2_with fail
  refine (pmIndex_any (fid := 116) (caps := []) (fun x => x != 0) eIsTerm A n c ys _ HSL.out.il isTerm_any).mono ?_
  rintro e w1 ⟨h, rfl⟩
  rcases h with ⟨rfl, hz⟩ | ⟨i, rfl, hin, hfi, hzb⟩
  · have HP : Hid (P = (0, [])) := hide (HCAN.out 0 [] (.inl ⟨rfl, rfl⟩) (HZR.out (fun j hj => by
      have := hz j (by rw [← HL.out]; exact hj)
      simpa using this)))
    have hf0 := HBK.out.frozen 0
    have hf1 := HBK.out.frozen 1
    have hc0 := HBK.out.cell 0
    have hc1 := HBK.out.cell 1
    simp at hc0 hc1
    clear hz
    go_wp2_with fail
    refine bodyPost_ret (results_poly rfl _ rfl ((HBK.out.set_ 0 (.int .i64 0)).set_ 1 (.slice none 0 0))) rfl ?_
    rw [HP.out]
    exact ⟨none, 0, 0, rfl, SL.nil_ _, fun h => absurd h (by omega), (HW0.out.setCell (p := ⟨w.heap.size, 0, none⟩) (Nat.le_refl _) _).setCell (p := ⟨w.heap.size, 1, none⟩) (Nat.le_refl _) _⟩
  · have HFI : Hid (ys.getD i 0 ≠ 0) := hide (by simpa using hfi)
    have HZB : Hid (∀ j, j < i → ys.getD j 0 = 0) := hide (fun j hj => by simpa using hzb j hj)
    clear hfi hzb
    go_wp2_with fail
    go_loop [5] (fun cv => ∃ E : Nat, cv = .int .i64 E ∧ i < E ∧ E ≤ n ∧ Hid (∀ j, E ≤ j → j < n → ys.getD j 0 = 0)) (fun cv => (intOf cv).toNat)
    case atStart => exact ⟨n, rfl, hin, Nat.le_refl _, hide (fun j h1 h2 => absurd h2 (by omega))⟩
    case round =>
      obtain ⟨E, rfl, hiE, hEn, HZT⟩ := hrel
      obtain ⟨ad, hA, hcl⟩ := HSL.out.il.at_ (k := E - 1) (by omega)
      subst hA
      obtain ⟨y, hy⟩ : ∃ y, ys.getD (E - 1) 0 = y := ⟨_, rfl⟩
      rw [hy] at hcl
      have HY := hide hy
      have hp2 : ((E : Int) - 1).toNat = E - 1 := by omega
      clear hy
      by_cases hy0 : y = 0
      · have hye : (y == 0) = true := by simp [hy0]
        have hiE2 : i < E - 1 := by
          by_cases h : E - 1 = i
          · exfalso
            have := HY.out
            rw [h] at this
            exact HFI.out (this.trans hy0)
          · omega
        have HZT2 : Hid (∀ j, E - 1 ≤ j → j < n → ys.getD j 0 = 0) := hide (fun j h1 h2 => by
          by_cases e : j = E - 1
          · subst e; rw [HY.out]; exact hy0
          · exact HZT.out j (by omega) h2)
        clear hy0 HY
        go_wp2_with fail
        go_round
        case rel => exact ⟨E - 1, by go_num, hiE2, by omega, HZT2⟩
        case measure => simp [intOf]; omega
      · have hye : (y == 0) = false := by simpa using hy0
        have HP : Hid (P = (-20 * (k : Int) + i, (ys.drop i).take (E - i))) := hide (HCAN.out _ _ (.inr ⟨fun e => by
          have h1 := congrArg List.length e
          simp at h1
          have := HL.out
          omega, by
          rw [show ((ys.drop i).take (E - i)).getD 0 0 = ys.getD i 0 by simp [List.getD, List.getElem?_take, List.getElem?_drop, show 0 < E - i by omega]]
          exact HFI.out, by
          have h1 : ((ys.drop i).take (E - i)).length = E - i := by simp; have := HL.out; omega
          rw [h1]
          rw [show ((ys.drop i).take (E - i)).getD (E - i - 1) 0 = ys.getD (E - 1) 0 by simp [List.getD, List.getElem?_take, List.getElem?_drop, show E - i - 1 < E - i by omega, show i + (E - i - 1) = E - 1 by omega], HY.out]
          exact hy0⟩) (HTR.out (by rw [HL.out]; omega) HZB.out (fun j h1 h2 => HZT.out j (by omega) (by rw [HL.out] at h2; exact h2))))
        have HCU := hide (HSL.out.il.cut (l := i) (h := E) (by omega) hEn hcap)
        have HCN : Hid (cutA (some ad) i c = none → E - i = 0 ∧ c - i = 0) := hide (fun e => cutA_none HNIL.out (by omega) hEn e)
        have HIE := hide hiE
        have hEc : E ≤ c := by omega
        clear hy0 HY HZT
        rw [show -20 * (k : Int) + i = (i : Int) - (k : Int) * 20 by omega] at HP
        go_upto_region 8 with fail
        go_upto_region 9 with ((with_reducible show wpList _ _ _ (Oper.mk _ (.binOp .quo _ _ _ _) _ _ _ _ :: _) _ _); refine wpList_gives rfl (gives_quo rfl rfl rfl (by decide) HQ.out) ?_)
        have hEi : i ≤ E := Nat.le_of_lt HIE.out
        go_wp2_with ((with_reducible show wpList _ _ _ (Oper.mk _ (.slice 87 _ _ _ _) _ _ _ _ :: _) _ _); refine wpList_gives rfl (v := .slice (cutA (some ad) i c) (E - i) (c - i)) (gives_cut_lh rfl Try.underlying87 (by rw [HI0.out]; exact congrArg some HZ1.out) rfl rfl rfl hEi hEc) ?_)
        refine (pmClone_any (cutA (some ad) i c) (E - i) (c - i) _ _ HCU.out HCN.out).mono ?_
        rintro e w2 ⟨R, rn, rc, rfl, hown, hb2⟩
        have hnw : 0 < rn → ∀ a, R = some a → w0.heap.size ≤ a.block := fun h a e => by
          rcases hown.own.2 with ⟨_, h0⟩ | ⟨g', cap, cur, hv, hg', _⟩
          · omega
          · injection hv with hv
            rw [e] at hv
            injection hv with hv
            rw [hv]
            exact hg'
        have HSL2 := hide hown.sl
        have HBK2 := hide (HBK.out.below hb2 hbw)
        have HW2 := hide (HW0.out.trans (hb2.mono HW0.out.size))
        have hf0 := HBK2.out.frozen 0
        have hf1 := HBK2.out.frozen 1
        have hc0 := HBK2.out.cell 0
        have hc1 := HBK2.out.cell 1
        simp at hc0 hc1
        have hlt2 := HBK2.out.lt
        have HNW := hide hnw
        clear hnw hown hb2 HCU HCN
        go_wp2_with fail
        refine bodyPost_ret (results_poly rfl _ rfl ((HBK2.out.set_ 0 (.int .i64 ((i : Int) - (k : Int) * 20))).set_ 1 (.slice R rn rc))) rfl ?_
        rw [HP.out]
        have hfar : 0 < rn → ∀ a, R = some a → a.block ≠ w.heap.size := fun h a e => by have := HNW.out h a e; omega
        exact ⟨R, rn, rc, rfl, (HSL2.out.setCell hfar 0 _).setCell hfar 1 _, fun h a e => by have := HNW.out h a e; omega, (HW2.out.setCell (p := ⟨w.heap.size, 0, none⟩) (Nat.le_refl _) _).setCell (p := ⟨w.heap.size, 1, none⟩) (Nat.le_refl _) _⟩
end Go.Proofs.Ytoaiblhlpdaeoaa
/- Package polymatrix: Det. -/
namespace Go.Proofs.Ytoaiblhlpdaeoaa
set_option linter.unusedVariables false
set_option linter.unusedSimpArgs false
open Go.RowKit

/-- The columns 0 to k - 1. -/
def colL (k : Nat) : List Int := (List.range k).map fun i : Nat => (i : Int)
theorem colL_succ (k : Nat) : colL (k + 1) = colL k ++ [(k : Int)] := by simp [colL, List.range_succ]
theorem colL_getD {k j : Nat} (h : j < k) : (colL k).getD j 0 = (j : Int) := by simp [colL, List.getD, h]
theorem colL_mem {k : Nat} {x : Int} (h : x ∈ colL k) : 0 ≤ x ∧ x < k := by
  unfold colL at h
  obtain ⟨i, hi, rfl⟩ := List.mem_map.1 h
  have := List.mem_range.1 hi
  omega
theorem pmM_colL (pss : List (List Po)) (n : Nat) : detR n (pmM pss (colL n)) = detR n (mP pss) := detR_congr fun i _ j hj => by
  unfold pmM mP
  rw [colL_getD hj, Int.toNat_natCast]
theorem fctP_le {n : Nat} (h : n ≤ 4) : LP.fctP n * 20000 ^ n ≤ 9223372036854775807 := by
  match n, h with
  | 0, _ => decide +kernel
  | 1, _ => decide +kernel
  | 2, _ => decide +kernel
  | 3, _ => decide +kernel
  | 4, _ => decide +kernel
theorem det_bound {pss : List (List Po)} (h : sqE pss = 0) (k : Int) : (LP.co (detR pss.length (mP pss)) k).natAbs ≤ 9223372036854775807 := by
  obtain ⟨h4, _⟩ := sqE_zero h
  refine Nat.le_trans ((LP.N1.detR (E := 40) (V := 20000) fun i hi j hj => ?_).co k) (fctP_le h4)
  obtain ⟨p, h1, h2⟩ := mP_entry h hi hj
  have := (poly_n1 h2).1
  unfold mP
  rw [h1]
  exact this

set_option maxRecDepth 100000 in
set_option maxHeartbeats 4000000 in
theorem pmdet_any (A : Option Addr) (n c : Nat) (pss : List (List Po)) (w : World) (ha : SPP w A n c pss) :
    Calls Try.prog 38 #[.slice A n c] w (GivesPE w (detPR pss)) := by
  have HLEN := hide ha.len
  have hns := ha.small
  have HW : Hid (Below w.heap.size w (w.alloc (.cells #[.int .i64 0, .slice none 0 0] 54))) := hide ((Below.refl _ _).alloc (Nat.le_refl _) _)
  have HBK : Hid (Blk (w.alloc (.cells #[.int .i64 0, .slice none 0 0] 54)) w.heap.size 54 #[.int .i64 0, .slice none 0 0]) := hide (Blk.new _ _ _)
  have HA := hide (ha.below HW.out)
  obtain ⟨T, hT⟩ : ∃ T, detPR pss = T := ⟨_, rfl⟩
  have HT := hide hT
  rw [hT]
  clear hT ha
  obtain ⟨i0, hi0, hz0, hz1, hz2⟩ := info_parts int_info
  go_enter Try.func38, Try.ntmps38
  go_upto_region 1 with fail
  obtain ⟨w0, hw0⟩ : ∃ x, w.alloc (.cells #[.int .i64 0, .slice none 0 0] 54) = x := ⟨_, rfl⟩
  rw [hw0] at HW HBK HA ⊢
  clear hw0
  go_wp2_with fail
  refine (pmcheck_any A n c pss _ HA.out).mono ?_
  rintro e w1 ⟨rfl, hb⟩
  replace HA := hide (HA.out.below hb)
  replace HW := hide (HW.out.trans (hb.mono HW.out.size))
  replace HBK := hide (HBK.out.below hb HBK.out.lt)
  clear hb
  obtain ⟨p, hp⟩ : ∃ p, sqE pss = p := ⟨_, rfl⟩
  rw [hp]
  have HP := hide hp
  clear hp
  by_cases hp0 : p = 0
  case neg =>
    have HTE : Hid (T = (p, 0, [])) := hide (by rw [← HT.out]; unfold detPR; rw [if_neg (by rw [HP.out]; exact hp0), HP.out])
    have hne : (p != 0) = true := by simpa using hp0
    have hf0 := HBK.out.frozen 0
    have hf1 := HBK.out.frozen 1
    have hr0 := HBK.out.cell 0
    have hr1 := HBK.out.cell 1
    simp at hr0 hr1
    have hlt := HBK.out.lt
    clear hp0
    go_wp2_with fail
    refine bodyPost_ret (results_pe rfl _ rfl rfl ((HBK.out.set_ 0 (.int .i64 0)).set_ 1 (.slice none 0 0))) rfl ?_
    rw [HTE.out]
    refine ⟨none, 0, 0, rfl, SL.nil_ _, fun h => absurd h (by omega), ?_⟩
    exact (HW.out.setCell (p := ⟨w.heap.size, 0, none⟩) (Nat.le_refl _) _).setCell (p := ⟨w.heap.size, 1, none⟩) (Nat.le_refl _) _
  subst hp0
  obtain ⟨h4, hrow⟩ := sqE_zero HP.out
  rw [HLEN.out] at h4
  have HROW : Hid (∀ r ∈ pss, r.length = n ∧ ∀ p ∈ r, polyE p = 0) := hide (fun r hr => ⟨by rw [(hrow r hr).1, HLEN.out], (hrow r hr).2⟩)
  have HTE : Hid (T = LP.fit (detR n (mP pss))) := hide (by rw [← HT.out]; unfold detPR; rw [if_pos HP.out, HLEN.out])
  have HDB : Hid (∀ k, (LP.co (detR n (mP pss)) k).natAbs ≤ 9223372036854775807) := hide (fun k => by have := det_bound HP.out k; rwa [HLEN.out] at this)
  have HMM := hide (pmM_colL pss n)
  have h4' := h4
  clear hrow HP HT
  go_upto_region 5 with fail
  go_wp2_with fail
  go_loopw [5, 16] (fun cv iv wx => ∃ (k : Nat) (C : Option Addr) (cc : Nat), k ≤ n ∧ iv = .int .i64 k ∧ cv = .slice C k cc ∧ Hid (OwnI wx w1.heap.size C k cc (colL k)) ∧ Hid (Below w1.heap.size w1 wx)) (fun _ iv _ => n - (intOf iv).toNat)
  case atStart => exact ⟨0, none, 0, Nat.zero_le _, rfl, rfl, hide (OwnI.nil_ _ _), hide (Below.refl _ _)⟩
  case round =>
    obtain ⟨k, C, cc, hk, rfl, rfl, HO, HW1⟩ := hrel
    by_cases hkn : k < n
    · have HS := hide (colL_succ k)
      have hszw := HW1.out.size
      have hok := HO.out
      go_wp2_with (first | (at_builtin; refine wpList_append_int _ rfl (.tmp 19) (.tmp 21) 22 rfl w1.heap.size i0 Try.underlying22 hi0 hz0 hz1 hz2 C k cc (colL k) rfl (hok.alloc _) (some ⟨wr.heap.size, 0, none⟩) 1 1 [(k : Int)] rfl (IL.lit wr [(k : Int)] (by simp) rfl rfl) (by omega) (Nat.le_trans hszw (by simp)) ?_; intro A9 c9 w9 happ))
      have ho := happ.own
      rw [← HS.out] at ho
      have HO9 := hide ho
      have hlies : ∀ g, (Value.slice C k cc).ownBlock = some g → w1.heap.size ≤ g := fun g hg => (hok.lt g hg).1
      have HW9 : Hid (Below w1.heap.size w1 w9) := hide ((HW1.out.alloc hszw _).grown happ.grown (Nat.le_trans hszw (by simp)) (fun g hg => hlies g (by rw [ownBlock_len C k (k + 1) cc cc]; exact hg)))
      clear happ ho hlies hok HO HW1
      go_wp2_with fail
      go_roundw
      case rel => exact ⟨k + 1, A9, c9, by omega, by go_num, rfl, HO9, HW9⟩
      case measure => simp [intOf]; omega
    · have hke : k = n := by omega
      subst hke
      replace HA := hide (HA.out.below HW1.out)
      replace HW := hide (HW.out.trans (HW1.out.mono HW.out.size))
      replace HBK := hide (HBK.out.below HW1.out HBK.out.lt)
      have HC := hide HO.out.sl
      clear HO
      go_wp2_with fail
      refine (expandP_any k k A c pss C cc (colL k) _ HA.out HC.out h4' HROW.out (fun x hx => colL_mem hx)).mono ?_
      rintro e w2 ⟨R, d, ys, rfl, hown, hlp, hb⟩
      rw [HMM.out] at hlp
      have hyl : ys.length = 59 * k + 1 := by have := hown.len; simpa using this
      have hym : ys.map wr64 = ys := map_wr64 fun y hy => by
        obtain ⟨j, hj, rfl⟩ := List.mem_iff_getElem.1 hy
        have h1 := HDB.out (-20 * (k : Int) + j)
        rw [← hlp, LP.co_of_at hj] at h1
        rwa [show ys.getD j 0 = ys[j] by simp [List.getD, List.getElem?_eq_getElem hj]] at h1
      rw [hym] at hown
      have HR := hide hown.sl
      have HLP := hide hlp
      replace HW := hide (HW.out.trans (hb.mono HW.out.size))
      replace HBK := hide (HBK.out.below hb HBK.out.lt)
      clear hown hlp hb hyl hym HC HA HMM HDB HROW
      go_wp2_with fail
      refine (pmPoly_any R (59 * k + 1) d ys k _ HR.out rfl h4').mono ?_
      rintro e w3 ⟨Q, qn, qc, rfl, hsq, hnw, hb⟩
      rw [HLP.out] at hsq ⊢
      obtain ⟨q, hq⟩ : ∃ q, LP.canon (detR k (mP pss)) = q := ⟨_, rfl⟩
      have HF : Hid (T = if LP.pfl q.1 q.2 = 0 then (0, q.1, q.2) else (2, 0, [])) := hide (by rw [HTE.out]; unfold LP.fit; rw [hq])
      rw [hq] at hsq ⊢
      obtain ⟨lo, xs⟩ := q
      dsimp only at hsq HF ⊢
      clear hq HLP HTE HR
      have hfar : 0 < qn → ∀ a, Q = some a → a.block ≠ w.heap.size ∧ w.heap.size ≤ a.block := fun h a e => by
        have h1 := hnw h a e
        have h2 := HBK.out.lt
        omega
      replace HW := hide (HW.out.trans (hb.mono HW.out.size))
      replace HBK := hide (HBK.out.below hb HBK.out.lt)
      have HSQ := hide hsq
      have HFAR := hide hfar
      clear hb hnw hsq hfar
      go_upto_region 11 with fail
      have hbk := HBK.out.lt
      have hb7 : Below w3.heap.size w3 (w3.alloc (.cells #[.int .i64 lo, .slice Q qn qc] 54)) := (Below.refl _ _).alloc (Nat.le_refl _) _
      have B7 := hide (Blk.new w3 54 #[.int .i64 lo, .slice Q qn qc])
      replace HSQ := hide (HSQ.out.below hb7)
      replace HW := hide (HW.out.trans (hb7.mono HW.out.size))
      replace HBK := hide (HBK.out.below hb7 hbk)
      have hne7 : w3.heap.size ≠ w.heap.size := by omega
      obtain ⟨b7, hb7e⟩ : ∃ q, w3.heap.size = q := ⟨_, rfl⟩
      obtain ⟨w4, hw4⟩ : ∃ q, w3.alloc (.cells #[.int .i64 lo, .slice Q qn qc] 54) = q := ⟨_, rfl⟩
      rw [hw4] at B7 HSQ HW HBK ⊢
      rw [hb7e] at B7 hne7 hbk ⊢
      clear hb7 hw4 hb7e
      have hz0 := B7.out.cell 0
      have hz1 := B7.out.cell 1
      simp at hz0 hz1
      go_wp2_with fail
      refine (lcheck_any lo Q qn qc xs _ HSQ.out).mono ?_
      rintro e w5 ⟨rfl, hb⟩
      replace HSQ := hide (HSQ.out.below hb)
      replace HW := hide (HW.out.trans (hb.mono HW.out.size))
      have hl7 := B7.out.lt
      replace HBK := hide (HBK.out.below hb (by omega))
      replace B7 := hide (B7.out.below hb hl7)
      clear hb hz0 hz1 hl7
      obtain ⟨f, hf⟩ : ∃ f, LP.pfl lo xs = f := ⟨_, rfl⟩
      rw [hf] at HF ⊢
      clear hf
      have hz0 := B7.out.cell 0
      have hz1 := B7.out.cell 1
      simp at hz0 hz1
      have hf0 := HBK.out.frozen 0
      have hf1 := HBK.out.frozen 1
      have hc0 := HBK.out.cell 0
      have hc1 := HBK.out.cell 1
      simp at hc0 hc1
      have hlt := HBK.out.lt
      by_cases hf : f = 0
      · subst hf
        rw [if_pos rfl] at HF
        have hfar : 0 < qn → ∀ a, Q = some a → a.block ≠ w.heap.size := fun h a e => (HFAR.out h a e).1
        have HFA := hide hfar
        clear hfar
        go_wp2_with fail
        refine bodyPost_ret (results_pe rfl _ rfl rfl ((HBK.out.set_ 0 (.int .i64 lo)).set_ 1 (.slice Q qn qc))) rfl ?_
        rw [HF.out]
        exact ⟨Q, qn, qc, rfl, (HSQ.out.setCell HFA.out 0 _).setCell HFA.out 1 _, fun h a e => (HFAR.out h a e).2, (HW.out.setCell (p := ⟨w.heap.size, 0, none⟩) (Nat.le_refl _) _).setCell (p := ⟨w.heap.size, 1, none⟩) (Nat.le_refl _) _⟩
      · have hne : (f != 0) = true := by simpa using hf
        rw [if_neg hf] at HF
        clear hf
        go_wp2_with fail
        refine bodyPost_ret (results_pe rfl _ rfl rfl ((HBK.out.set_ 0 (.int .i64 0)).set_ 1 (.slice none 0 0))) rfl ?_
        rw [HF.out]
        exact ⟨none, 0, 0, rfl, SL.nil_ _, fun h => absurd h (by omega), (HW.out.setCell (p := ⟨w.heap.size, 0, none⟩) (Nat.le_refl _) _).setCell (p := ⟨w.heap.size, 1, none⟩) (Nat.le_refl _) _⟩

theorem pmC : PmC where
  check := pmcheck_any
  det := pmdet_any
end Go.Proofs.Ytoaiblhlpdaeoaa
/- timbref1.Image. (Written by tools/gen_image.py.) -/
namespace Go.Proofs.Ytoaiblhlpdaeoaa
set_option linter.unusedVariables false
set_option linter.unusedSimpArgs false
open Go.RowKit

def bz (B : Nat) (u : List Int) : Prop := ∀ z ∈ u, z ≠ 0 ∧ z.natAbs ≤ B
theorem bz.nz {B : Nat} {u : List Int} (h : bz B u) : Proofs.Ytoaiblhlpdaeoaa.nz u := fun z hz => (h z hz).1
theorem bz.inv {B : Nat} {u : List Int} (h : bz B u) : bz B (invw u) := fun z hz => by
  have : ∃ x ∈ u, -x = z := by simpa [invw] using hz
  obtain ⟨x, hx, rfl⟩ := this
  have := h x hx
  omega
end Go.Proofs.Ytoaiblhlpdaeoaa
/- timbmake.Strands; timbkeep1.sides. -/
namespace Go.Proofs.Ytoaiblhlpdaeoaa
set_option linter.unusedVariables false
set_option linter.unusedSimpArgs false
open Go.RowKit

/-- Two words that are equal by a relation. -/
structure Side (N : Nat) (xs ys : List Int) : Prop where
  b : RelB xs ys
  e : RelE xs ys
  x : LP.expo xs = LP.expo ys
  ok1 : okB N xs
  ok2 : okB N ys
  l1 : xs.length ≤ 3
  l2 : ys.length ≤ 3
  a : RelA xs ys
end Go.Proofs.Ytoaiblhlpdaeoaa
/- GarsideSame. -/
namespace Go.Proofs.Ytoaiblhlpdaeoaa
set_option linter.unusedVariables false
set_option linter.unusedSimpArgs false
open Go.RowKit Gar

theorem word_okB {T : Nat} {us : List Int} (h : ∀ x ∈ us, x ≠ 0 ∧ x ≤ (T : Int) ∧ -(T : Int) ≤ x) : okB (T + 1) us := fun x hx => by have := h x hx; omega
theorem bf_ok {n : Nat} (h1 : 1 ≤ n) (h6 : n ≤ 6) {w : List Int} (hw : okB n w) (hl : w.length ≤ 30) : bfault (n : Int) w = 0 := bfault_ok (by omega) (by omega) hl fun x hx => by have := hw x hx; omega
theorem eq2_ok {n : Nat} {a b : List Int} (h1 : bfault (n : Int) a = 0) (h2 : bfault (n : Int) b = 0) : eq2E (n : Int) a b = 0 := by unfold eq2E; rw [if_neg (by rw [h1]; simp), h2]
open Classical in
theorem geq_yes {n : Nat} {a b : List Int} (h1 : bfault (n : Int) a = 0) (h2 : bfault (n : Int) b = 0) (e : gp n a = gp n b) : geqB (n : Int) a b = true := by
  unfold geqB
  rw [Int.toNat_natCast, decide_eq_true (eq2_ok h1 h2), decide_eq_true e]
  rfl
end Go.Proofs.Ytoaiblhlpdaeoaa
