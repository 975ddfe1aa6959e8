/- Package freegroup answers as it should. -/
import Derived.Test.YtbckgomidoelaaaFgPer
namespace Go.Proofs.Ytbckgomidoelaaa
set_option linter.unusedVariables false
set_option linter.unusedSimpArgs false
open Go.RowKit

theorem ffault_small {w : List Int} (h : ffault w = 0) : ∀ x ∈ w, -1000 ≤ x ∧ x ≤ 1000 := fun x hx => by
  have := (ffault_zero h).2 x hx
  omega

theorem freduce_ok (A : Option Addr) (n c : Nat) (xs : List Int) (w : World) (ha : SL w A n c xs) : Calls Try.prog 7 #[.slice A n c] w (GivesLE w (ffault xs) (redL xs)) := by
  have HC := hide (fcheck_any A n c xs w ha.il)
  by_cases h0 : ffault xs = 0
  · have hz := ffault_zero h0
    have HR := hide (fred_any A n c xs w ha.il (ffault_small h0) (by have := ha.il.len; omega))
    have HE : Hid (redL xs = nf xs) := hide (by unfold redL; rw [if_pos h0])
    have H0 := hide h0
    clear ha h0 hz
    go_enter Try.func7, Try.ntmps7
    go_wp2_with fail
    refine HC.out.mono ?_
    rintro e w1 ⟨rfl, rfl⟩
    rw [H0.out]
    go_wp2_with fail
    refine HR.out.mono ?_
    rintro e w2 ⟨R, rn, rc, rfl, ho, hb⟩
    go_wp2_with fail
    go_ret2
    rw [HE.out, H0.out]
    exact ⟨R, rn, rc, rfl, ho.sl, hb⟩
  · have HE : Hid (redL xs = []) := hide (by unfold redL; rw [if_neg h0])
    clear ha
    go_enter Try.func7, Try.ntmps7
    go_wp2_with fail
    refine HC.out.mono ?_
    rintro e w1 ⟨rfl, rfl⟩
    generalize ffault xs = er at *
    have hb : (er != 0) = true := by simpa using h0
    clear h0 HC
    go_wp2_with fail
    go_ret2
    rw [HE.out]
    exact ⟨none, 0, 0, rfl, SL.nil_ _, Below.refl _ _⟩

theorem finverse_ok (A : Option Addr) (n c : Nat) (xs : List Int) (w : World) (ha : SL w A n c xs) : Calls Try.prog 9 #[.slice A n c] w (GivesLE w (ffault xs) (invL xs)) := by
  have HC := hide (fcheck_any A n c xs w ha.il)
  by_cases h0 : ffault xs = 0
  · have hz := ffault_zero h0
    have HR := hide (fred_any A n c xs w ha.il (ffault_small h0) (by have := ha.il.len; omega))
    have HE : Hid (invL xs = invw (nf xs)) := hide (by unfold invL; rw [if_pos h0])
    have HM : Hid (∀ x ∈ nf xs, -1000 ≤ x ∧ x ≤ 1000) := hide (fun x hx => ffault_small h0 x (nf_mem hx))
    have H0 := hide h0
    clear ha h0 hz
    go_enter Try.func9, Try.ntmps9
    go_wp2_with fail
    refine HC.out.mono ?_
    rintro e w1 ⟨rfl, rfl⟩
    rw [H0.out]
    go_wp2_with fail
    refine HR.out.mono ?_
    rintro e w2 ⟨R, rn, rc, rfl, ho, hb⟩
    have HI := hide (finverse_any R rn rc _ w2 ho.il HM.out)
    have HB := hide hb
    clear ho hb
    go_wp2_with fail
    refine HI.out.mono ?_
    rintro e w3 ⟨V, vn, vc, rfl, ho3, hb3⟩
    have hb03 := HB.out.trans (hb3.mono HB.out.size)
    go_wp2_with fail
    go_ret2
    rw [HE.out, H0.out]
    exact ⟨V, vn, vc, rfl, ho3.sl, hb03⟩
  · have HE : Hid (invL xs = []) := hide (by unfold invL; rw [if_neg h0])
    clear ha
    go_enter Try.func9, Try.ntmps9
    go_wp2_with fail
    refine HC.out.mono ?_
    rintro e w1 ⟨rfl, rfl⟩
    generalize ffault xs = er at *
    have hb : (er != 0) = true := by simpa using h0
    clear h0 HC
    go_wp2_with fail
    go_ret2
    rw [HE.out]
    exact ⟨none, 0, 0, rfl, SL.nil_ _, Below.refl _ _⟩

theorem fproduct_ok (A B : Option Addr) (n c m d : Nat) (xs ys : List Int) (w : World) (ha : SL w A n c xs) (hb : SL w B m d ys) : Calls Try.prog 8 #[.slice A n c, .slice B m d] w (GivesLE w (prodE xs ys) (prodL xs ys)) := by
  have HC := hide (fboth_any A B n c m d xs ys w ha.il hb.il)
  by_cases h0 : bothE xs ys = 0
  · have hx0 : ffault xs = 0 := by
      unfold bothE at h0
      by_cases h : ffault xs = 0
      · exact h
      · rw [if_neg h] at h0; exact absurd h0 h
    have hy0 : ffault ys = 0 := by unfold bothE at h0; rw [if_pos hx0] at h0; exact h0
    have hla := ha.il.len
    have hlb := hb.il.len
    have hzx := ffault_zero hx0
    have hzy := ffault_zero hy0
    have HE : Hid (prodE xs ys = if 60 < (nf (xs ++ ys)).length then 2 else 0) := hide (by unfold prodE; rw [if_pos hx0, if_pos hy0])
    have HL : Hid (prodL xs ys = if prodE xs ys = 0 then nf (xs ++ ys) else []) := rfl
    have HM : Hid (∀ x ∈ xs ++ ys, -1000 ≤ x ∧ x ≤ 1000) := hide (fun x hx => by
      rcases List.mem_append.1 hx with h | h
      · exact ffault_small hx0 x h
      · exact ffault_small hy0 x h)
    have HILL : ILL (w.alloc (.cells #[.slice A n c, .slice B m d] 22)) (some ⟨w.heap.size, 0, none⟩) 2 [xs, ys] :=
      ILL.lit (vs := [.slice A n c, .slice B m d]) rfl (by simp) (fun j hj => by
        match j, hj with
        | 0, _ => exact ⟨_, _, _, rfl, ha.il⟩
        | 1, _ => exact ⟨_, _, _, rfl, hb.il⟩
        | j + 2, h => exact absurd h (by simp)) rfl rfl
    have HCC := hide (concat_any (some ⟨w.heap.size, 0, none⟩) 2 2 _ _ HILL (by
      simp only [List.flatten_cons, List.flatten_nil, List.length_append, List.length_nil]
      omega))
    have HB1 := hide ((Below.refl w.heap.size w).alloc (Nat.le_refl _) (.cells #[.slice A n c, .slice B m d] 22))
    have HLN : Hid (xs.length + ys.length ≤ 120) := hide (by omega)
    have H0 := hide h0
    clear ha hb h0 hx0 hy0 hla hlb hzx hzy HILL
    go_enter Try.func8, Try.ntmps8
    go_wp2_with fail
    refine HC.out.mono ?_
    rintro e w1 ⟨rfl, rfl⟩
    rw [H0.out]
    clear HC
    go_wp2_with fail
    refine HCC.out.mono ?_
    rintro e w2 ⟨T, tn, tc, rfl, ho2, hb2⟩
    have ho2' : OwnI w2 w.heap.size T tn tc (xs ++ ys) := by
      have h := ho2.mono (b' := w.heap.size) (by simp)
      simpa using h
    have hb02 := HB1.out.trans (hb2.mono HB1.out.size)
    have htn := ho2'.len
    rw [List.length_append] at htn
    have HR := hide (fred_any T tn tc _ w2 ho2'.il HM.out (by have := HLN.out; omega))
    have HB02 := hide hb02
    clear ho2 hb2 ho2' hb02 htn HCC HB1
    go_wp2_with fail
    refine HR.out.mono ?_
    rintro e w3 ⟨R, rn, rc, rfl, ho3, hb3⟩
    have hl3 := ho3.len
    have HO3 := hide ho3
    have HB03 := hide (HB02.out.trans (hb3.mono HB02.out.size))
    have hrs := ho3.small
    clear HR ho3 hb3 HB02
    by_cases h60 : 60 < rn
    · have HE2 : Hid (prodE xs ys = 2) := hide (by rw [HE.out, if_pos (by omega)])
      have HL2 : Hid (prodL xs ys = []) := hide (by rw [HL.out, HE2.out]; exact if_neg (by decide))
      clear hl3 HE HL
      go_wp2_with fail
      go_ret2
      rw [HE2.out, HL2.out]
      exact ⟨none, 0, 0, rfl, SL.nil_ _, HB03.out⟩
    · have HE2 : Hid (prodE xs ys = 0) := hide (by rw [HE.out, if_neg (by omega)])
      have HL2 : Hid (prodL xs ys = nf (xs ++ ys)) := hide (by rw [HL.out, HE2.out]; exact if_pos rfl)
      clear hl3 HE HL
      go_wp2_with fail
      go_ret2
      rw [HE2.out, HL2.out]
      exact ⟨R, rn, rc, rfl, HO3.out.sl, HB03.out⟩
  · have HE : Hid (prodE xs ys = bothE xs ys ∧ prodL xs ys = []) := hide (by
      have h1 : prodE xs ys = bothE xs ys := by
        unfold prodE bothE
        unfold bothE at h0
        by_cases hx : ffault xs = 0
        · rw [if_pos hx, if_pos hx]
          rw [if_pos hx] at h0
          rw [if_neg h0]
        · rw [if_neg hx, if_neg hx]
      refine ⟨h1, ?_⟩
      unfold prodL
      rw [h1, if_neg h0])
    clear ha hb
    go_enter Try.func8, Try.ntmps8
    go_wp2_with fail
    refine HC.out.mono ?_
    rintro e w1 ⟨rfl, rfl⟩
    generalize bothE xs ys = er at *
    have hb : (er != 0) = true := by simpa using h0
    clear h0 HC
    go_wp2_with fail
    go_ret2
    rw [HE.out.1, HE.out.2]
    exact ⟨none, 0, 0, rfl, SL.nil_ _, Below.refl _ _⟩

theorem fcyclic_ok (A : Option Addr) (n c : Nat) (xs : List Int) (w : World) (ha : SL w A n c xs) : Calls Try.prog 17 #[.slice A n c] w fun e w' => ∃ C cn cc U un uc, e = .returned (.tuple #[.slice C cn cc, .slice U un uc, .int .i64 (ffault xs)]) ∧ SL w' C cn cc (cycL xs) ∧ SL w' U un uc (cycU xs) ∧ Below w.heap.size w w' := by
  have HC := hide (fcheck_any A n c xs w ha.il)
  by_cases h0 : ffault xs = 0
  · have hz := ffault_zero h0
    have HR := hide (fcore_any A n c xs w ha.il (ffault_small h0) (by have := ha.il.len; omega))
    have HE : Hid (cycL xs = (core (nf xs)).1 ∧ cycU xs = (core (nf xs)).2) := hide (by unfold cycL cycU; rw [if_pos h0, if_pos h0]; exact ⟨rfl, rfl⟩)
    have H0 := hide h0
    clear ha h0 hz
    go_enter Try.func17, Try.ntmps17
    go_wp2_with fail
    refine HC.out.mono ?_
    rintro e w1 ⟨rfl, rfl⟩
    rw [H0.out]
    go_wp2_with fail
    refine HR.out.mono ?_
    rintro e w2 ⟨C, cn, cc, U, un, uc, rfl, ho, ho2, hb⟩
    go_wp2_with fail
    go_ret3
    rw [HE.out.1, HE.out.2, H0.out]
    exact ⟨C, cn, cc, U, un, uc, rfl, ho.sl, ho2.sl, hb⟩
  · have HE : Hid (cycL xs = [] ∧ cycU xs = []) := hide (by unfold cycL cycU; rw [if_neg h0, if_neg h0]; exact ⟨rfl, rfl⟩)
    clear ha
    go_enter Try.func17, Try.ntmps17
    go_wp2_with fail
    refine HC.out.mono ?_
    rintro e w1 ⟨rfl, rfl⟩
    obtain ⟨er, her⟩ : ∃ er, ffault xs = er := ⟨_, rfl⟩
    rw [her] at h0 ⊢
    have HER := hide her
    have hb : (er != 0) = true := by simpa using h0
    clear her
    clear h0 HC
    go_wp2_with fail
    go_ret3
    rw [HE.out.1, HE.out.2, HER.out]
    exact ⟨none, 0, 0, none, 0, 0, rfl, SL.nil_ _, SL.nil_ _, Below.refl _ _⟩

theorem fconjugate_ok (A B : Option Addr) (n c m d : Nat) (xs ys : List Int) (w : World) (ha : SL w A n c xs) (hb : SL w B m d ys) : Calls Try.prog 18 #[.slice A n c, .slice B m d] w fun e w' => e = .returned (.tuple #[.bool (conB xs ys), .int .i64 (bothE xs ys)]) ∧ Below w.heap.size w w' := by
  have HC := hide (fboth_any A B n c m d xs ys w ha.il hb.il)
  by_cases h0 : bothE xs ys = 0
  · have hx0 : ffault xs = 0 := by
      unfold bothE at h0
      by_cases h : ffault xs = 0
      · exact h
      · rw [if_neg h] at h0; exact absurd h0 h
    have hy0 : ffault ys = 0 := by unfold bothE at h0; rw [if_pos hx0] at h0; exact h0
    have hla := ha.il.len
    have hlb := hb.il.len
    have hzx := ffault_zero hx0
    have hzy := ffault_zero hy0
    have HE : Hid (conB xs ys = conjB (core (nf xs)).1 (core (nf ys)).1) := hide (by unfold conB; rw [if_pos h0])
    have hcx : (core (nf xs)).1.length ≤ 60 := by have := core_len (nf xs); have := nf_len_le xs; omega
    have hcy : (core (nf ys)).1.length ≤ 60 := by have := core_len (nf ys); have := nf_len_le ys; omega
    have HRX := hide (fcore_any A n c xs w ha.il (ffault_small hx0) (by omega))
    have HRY := hide (fun (w' : World) (h : SL w' B m d ys) => fcore_any B m d ys w' h.il (ffault_small hy0) (by omega))
    have HBS := hide hb
    have H0 := hide h0
    have HCX := hide hcx
    have HCY := hide hcy
    clear ha hb h0 hx0 hy0 hla hlb hzx hzy hcx hcy
    go_enter Try.func18, Try.ntmps18
    go_wp2_with fail
    refine HC.out.mono ?_
    rintro e w1 ⟨rfl, rfl⟩
    rw [H0.out]
    clear HC
    go_wp2_with fail
    refine HRX.out.mono ?_
    rintro e w2 ⟨C, cn, cc, U, un, uc, rfl, ho2, _, hb2⟩
    have HO2 := hide ho2
    have HB2 := hide hb2
    have HY := hide (HRY.out w2 (HBS.out.below hb2))
    clear ho2 hb2 HRX HRY
    go_wp2_with fail
    refine HY.out.mono ?_
    rintro e w3 ⟨D, dn, dc, V, vn, vc, rfl, ho3, _, hb3⟩
    have hl2 := HO2.out.len
    have hl3 := ho3.len
    have HR := hide (frot_any C D cn cc dn dc _ _ w3 (HO2.out.il.below hb3) ho3.il (by have := HCX.out; omega) (by have := HCY.out; omega))
    have HB3 := hide (HB2.out.trans (hb3.mono HB2.out.size))
    clear ho3 hb3 hl2 hl3 HY HB2
    go_wp2_with fail
    refine HR.out.mono ?_
    rintro e w4 ⟨rfl, hb4⟩
    have HB4 := hide (HB3.out.trans (hb4.mono HB3.out.size))
    clear hb4 HR HB3
    go_wp2_with fail
    go_ret2
    rw [HE.out, H0.out]
    exact ⟨rfl, HB4.out⟩
  · have HE : Hid (conB xs ys = false) := hide (by unfold conB; rw [if_neg h0])
    clear ha hb
    go_enter Try.func18, Try.ntmps18
    go_wp2_with fail
    refine HC.out.mono ?_
    rintro e w1 ⟨rfl, rfl⟩
    obtain ⟨er, her⟩ : ∃ er, bothE xs ys = er := ⟨_, rfl⟩
    rw [her] at h0 ⊢
    have HER := hide her
    have hb : (er != 0) = true := by simpa using h0
    clear her
    clear h0 HC
    go_wp2_with fail
    go_ret2
    rw [HE.out, HER.out]
    exact ⟨rfl, Below.refl _ _⟩
theorem eFInverse : ∀ args w, (callFunc 29 args).run Try.prog w = .ok (.enter 29 args) w := enters (fn := Try.f29) (by kernel_rfl) (by kernel_rfl) (by kernel_rfl)
theorem eFConcat : ∀ args w, (callFunc 13 args).run Try.prog w = .ok (.enter 13 args) w := enters (fn := Try.f13) (by kernel_rfl) (by kernel_rfl) (by kernel_rfl)
theorem ints_info : (Try.prog.info? 22).map (fun i => (i.zero, i.size, i.bytes)) = some (some (.slice none 0 0), 1, 24) := by kernel_rfl

set_option maxRecDepth 100000 in
set_option maxHeartbeats 2000000 in
theorem froot_ok (A : Option Addr) (n c : Nat) (xs : List Int) (w : World) (ha : SL w A n c xs) : Calls Try.prog 19 #[.slice A n c] w fun e w' => ∃ R rn rc rs k, e = .returned (.tuple #[.slice R rn rc, .int .i64 k, .int .i64 (rootE xs)]) ∧ SL w' R rn rc rs ∧ RootOf xs rs k ∧ Below w.heap.size w w' := by
  have HC := hide (fcheck_any A n c xs w ha.il)
  by_cases h0 : ffault xs = 0
  · have hz := ffault_zero h0
    have HR := hide (fcore_any A n c xs w ha.il (ffault_small h0) (by have := ha.il.len; omega))
    have HE : Hid (rootE xs = if nf xs = [] then 4 else 0) := hide (by unfold rootE; rw [if_pos h0])
    have HM : Hid (∀ x ∈ (core (nf xs)).2, -1000 ≤ x ∧ x ≤ 1000) := hide (fun x hx => ffault_small h0 x (nf_mem (core_mem2 hx)))
    have hlen := core_len (nf xs)
    have hnl := nf_len_le xs
    have hcx : (core (nf xs)).1.length ≤ 60 ∧ (core (nf xs)).2.length ≤ 60 := by omega
    have HCX := hide hcx
    have HNE : Hid (nf xs = [] ↔ (core (nf xs)).1 = []) := hide ⟨fun h => by rw [h]; rfl, fun h => Classical.byContradiction fun hh => core_ne (nf_red xs) hh h⟩
    have H0 := hide h0
    obtain ⟨i0, hi0, hz0, hz1, hz2⟩ := info_parts int_info
    have HI0 := hide hi0
    have HZ1 := hide hz1
    obtain ⟨i1, hi1, hy0, hy1, hy2⟩ := info_parts ints_info
    have HI1 := hide hi1
    have HY0 := hide hy0
    have HY1 := hide hy1
    clear ha h0 hz hlen hnl hcx hi0 hz0 hz1 hz2 hi1 hy0 hy1 hy2
    go_enter Try.func19, Try.ntmps19
    go_wp2_with fail
    refine HC.out.mono ?_
    rintro e w1 ⟨rfl, rfl⟩
    rw [H0.out]
    clear HC
    go_wp2_with fail
    refine HR.out.mono ?_
    rintro e w2 ⟨C, cn, cc, U, un, uc, rfl, ho, ho2, hb⟩
    have hlc := ho.len
    have hlu := ho2.len
    have hcn : cn ≤ 60 := by have := HCX.out.1; omega
    have hun : un ≤ 60 := by have := HCX.out.2; omega
    have HO := hide ho
    have HU := hide ho2
    have HB2 := hide hb
    have HLC := hide hlc
    have HLU := hide hlu
    have hcap := ho.cap
    clear ho ho2 hb hlc hlu HR
    by_cases hc0 : cn = 0
    · subst hc0
      have HE2 : Hid (rootE xs = 4) := hide (by
        rw [HE.out, if_pos (HNE.out.2 (List.eq_nil_of_length_eq_zero HLC.out))])
      go_wp2_with fail
      go_ret3
      refine ⟨none, 0, 0, [], 0, by rw [HE2.out]; exact rfl, SL.nil_ _, ⟨fun h => ?_, fun _ => ⟨rfl, rfl⟩⟩, HB2.out⟩
      rw [HE2.out] at h
      cases h
    · have HE2 : Hid (rootE xs = 0) := hide (by
        rw [HE.out, if_neg (fun h => hc0 (by have := HLC.out; rw [HNE.out.1 h] at this; simpa using this.symm))])
      have hcpos : 0 < cn := by omega
      have hbc : ((cn : Int) == 0) = false := by simp; omega
      have HP := hide (fperiod_any C cn cc _ w2 HO.out.il (by omega) hcpos hcap)
      go_wp2_with fail
      refine HP.out.mono ?_
      rintro e w3 ⟨p, rfl, hp0, hpn, hpd, hroot, hb3⟩
      have HB3 := hide (HB2.out.trans (hb3.mono HB2.out.size))
      have HC3 := hide (HO.out.below hb3)
      have HU3 := hide (HU.out.below hb3)
      have HROOT := hide hroot
      have hpc : p ≤ cc := by omega
      have HPZ : Hid ((p : Int) ≠ 0) := hide (by omega)
      have HQ : Hid (IntKind.i64.wrap ((cn : Int).tdiv (p : Int)) = ((cn / p : Nat) : Int)) := hide (by
        have h1 : (cn : Int).tdiv (p : Int) = ((cn / p : Nat) : Int) := by
          rw [Int.tdiv_eq_ediv_of_nonneg (by omega)]
          exact_mod_cast rfl
        have h2 : cn / p ≤ cn := Nat.div_le_self _ _
        rw [h1]
        generalize cn / p = q at *
        rw [IntKind.wrap_i64]
        omega)
      clear hb3 hroot HP HO HU HB2 hbc
      have HCUT := hide (HC3.out.il.cut (c := cc) (l := 0) (h := p) (Nat.zero_le _) hpn hcap)
      rw [List.drop_zero, Nat.sub_zero] at HCUT
      have HINV := hide (fun (w' : World) (h : Below w3.heap.size w3 w') => finverse_any U un uc _ w' (HU3.out.il.below h) HM.out)
      have hu3l := HU3.out.len
      go_upto_region 8 with fail
      refine wp_region_noPanic ?_
      refine wp_region_held_drew (S := fun w' => Below w3.heap.size w3 w') (by kernel_rfl) (Below.refl _ _).drew (fun hS => ?_)
      refine wpAnyH_tk 0 (v := .slice U un uc) rfl (by kernel_rfl) (by kernel_rfl) (by kernel_rfl) (yi rfl fun w' hw' => gives_move (.inl rfl) rfl) hS ?_
      go_frame
      refine wpAnyH_tk 1 (v := .slice C cn cc) rfl (by kernel_rfl) (by kernel_rfl) (by kernel_rfl) (yi rfl fun w' hw' => gives_move (.inl rfl) rfl) hS ?_
      go_frame
      refine wpAnyH_tk 2 (v := .int .i64 p) rfl (by kernel_rfl) (by kernel_rfl) (by kernel_rfl) (yi rfl fun w' hw' => gives_move (.inl rfl) rfl) hS ?_
      go_frame
      refine wpAnyH_tk 3 (v := .slice (cutA C 0 cc) (p - 0) (cc - 0)) rfl (by kernel_rfl) (by kernel_rfl) (by kernel_rfl) (yi rfl fun w' hw' => gives_cut_h rfl Try.underlying22 (by rw [HI0.out]; exact congrArg some HZ1.out) rfl rfl hpc) hS ?_
      go_frame
      refine wpAnyH_tk 4 (v := .slice U un uc) rfl (by kernel_rfl) (by kernel_rfl) (by kernel_rfl) (yi rfl fun w' hw' => gives_move (.inl rfl) rfl) hS ?_
      go_frame
      refine wpAnyH_tk 8 (v := .slice C cn cc) rfl (by kernel_rfl) (by kernel_rfl) (by kernel_rfl) (yi rfl fun w' hw' => gives_move (.inl rfl) rfl) hS ?_
      go_frame
      refine wpAnyH_tk 9 (v := .int .i64 cn) rfl (by kernel_rfl) (by kernel_rfl) (by kernel_rfl) (yi rfl fun w' hw' => gives_len rfl Try.underlying22 rfl) hS ?_
      go_frame
      refine wpAnyH_tk 10 (v := .int .i64 p) rfl (by kernel_rfl) (by kernel_rfl) (by kernel_rfl) (yi rfl fun w' hw' => gives_move (.inl rfl) rfl) hS ?_
      go_frame
      refine wpAnyH_tk 11 (v := .int .i64 ((cn / p : Nat) : Int)) rfl (by kernel_rfl) (by kernel_rfl) (by kernel_rfl) (yi rfl fun w' hw' => gives_quo rfl rfl rfl HPZ.out HQ.out) hS ?_
      go_frame
      refine wpAnyH_1 5 rfl (by kernel_rfl) ?_
      refine wp_call [.slice U un uc] rfl rfl eFInverse rfl ((HINV.out _ hS).mono ?_)
      rintro e w6 ⟨V, vn, vc, rfl, ho6, hb6⟩
      have hb6' : Below w3.heap.size w3 w6 := hS.trans (hb6.mono hS.size)
      have hvl := ho6.len
      rw [invw_length, hu3l] at hvl
      refine ⟨_, rfl, hb6', ?_⟩
      go_frame
      refine wpAnyH_1 6 rfl (by kernel_rfl) ?_
      refine wp_buildSlice_at (cells := #[.slice U un uc, .slice (cutA C 0 cc) (p - 0) (cc - 0), .slice V vn vc]) (l := [(0, .tmp 24), (1, .tmp 27), (2, .tmp 29)]) i1 _ 1 [(0, .slice U un uc), (1, .slice (cutA C 0 cc) (p - 0) (cc - 0)), (2, .slice V vn vc)] rfl Try.underlying49 HI1.out HY0.out HY1.out (by decide) (by decide) rfl (by simp [Instr.fill, Value.cells, show Array.range (3 * 1) = #[0, 1, 2] from rfl]) ?_
      have hb7 := hb6'.alloc hb6'.size (.cells #[.slice U un uc, .slice (cutA C 0 cc) (p - 0) (cc - 0), .slice V vn vc] 22)
      refine ⟨hb7, ?_⟩
      go_frame
      have HILL : ILL (w6.alloc (.cells #[.slice U un uc, .slice (cutA C 0 cc) (p - 0) (cc - 0), .slice V vn vc] 22)) (some ⟨w6.heap.size, 0, none⟩) 3 [(core (nf xs)).2, (core (nf xs)).1.take p, invw (core (nf xs)).2] :=
        ILL.lit (vs := [.slice U un uc, .slice (cutA C 0 cc) (p - 0) (cc - 0), .slice V vn vc]) rfl (by simp) (fun j hj => by
          match j, hj with
          | 0, _ => exact ⟨_, _, _, rfl, HU3.out.il.below hb6'⟩
          | 1, _ => exact ⟨_, _, _, rfl, HCUT.out.below hb6'⟩
          | 2, _ => exact ⟨_, _, _, rfl, ho6.il⟩
          | j + 3, h => exact absurd h (by simp)) rfl rfl
      refine wpAnyH_1 7 rfl (by kernel_rfl) ?_
      refine wp_call [.slice (some ⟨w6.heap.size, 0, none⟩) 3 3] rfl rfl eFConcat rfl ((concat_any _ 3 3 _ _ HILL (by
        simp only [List.flatten_cons, List.flatten_nil, List.length_append, List.length_nil, invw_length, List.length_take]
        have := HCX.out
        omega)).mono ?_)
      rintro e w8 ⟨R, rn, rc, rfl, ho8, hb8⟩
      have hb8' : Below w3.heap.size w3 w8 := hb7.trans (hb8.mono hb7.size)
      refine ⟨_, rfl, hb8', ?_⟩
      go_frame
      refine wpAnyH_tk 12 (v := .slice R rn rc) rfl (by kernel_rfl) (by kernel_rfl) (by kernel_rfl) (yi rfl fun w' hw' => gives_move (.inr rfl) rfl) hb8' ?_
      go_frame
      refine wpAnyH_tk 13 (v := .int .i64 ((cn / p : Nat) : Int)) rfl (by kernel_rfl) (by kernel_rfl) (by kernel_rfl) (yi rfl fun w' hw' => gives_move (.inr rfl) rfl) hb8' ?_
      go_frame
      refine wpAnyH_tk 14 (v := .int .i64 0) rfl (by kernel_rfl) (by kernel_rfl) (by kernel_rfl) (yi rfl fun w' hw' => gives_move (.inr rfl) rfl) hb8' ?_
      go_frame
      refine wpAnyH_done (by kernel_rfl) (noPanic_mk ?_) _
      have HB8 := hide (HB3.out.trans (hb8'.mono HB3.out.size))
      have HSL := hide ho8.sl
      clear ho8 hb8 hb8' hb7 hb6 hb6' ho6 hS HILL
      go_wp2_with fail
      go_ret3
      refine ⟨R, rn, rc, _, ((cn / p : Nat) : Int), by rw [HE2.out]; exact rfl, HSL.out, ⟨fun _ => ⟨(core (nf xs)).1.take p, cn / p, HROOT.out, ?_, rfl⟩, fun h => absurd HE2.out h⟩, HB8.out⟩
      simp
  · have HE : Hid (rootE xs = ffault xs) := hide (by unfold rootE; rw [if_neg h0])
    clear ha
    go_enter Try.func19, Try.ntmps19
    go_wp2_with fail
    refine HC.out.mono ?_
    rintro e w1 ⟨rfl, rfl⟩
    obtain ⟨er, her⟩ : ∃ er, ffault xs = er := ⟨_, rfl⟩
    rw [her] at h0 ⊢
    have HER := hide her
    have hb : (er != 0) = true := by simpa using h0
    clear her
    have H0 := hide h0
    clear h0 HC
    go_wp2_with fail
    go_ret3
    refine ⟨none, 0, 0, [], 0, by rw [HE.out, HER.out]; exact rfl, SL.nil_ _, ⟨fun h => ?_, fun _ => ⟨rfl, rfl⟩⟩, Below.refl _ _⟩
    rw [HE.out, HER.out] at h
    exact absurd h H0.out

theorem freeC : FreeC where
  check A n c xs w h := (fcheck_any A n c xs w h.il).mono (by rintro e w' ⟨rfl, rfl⟩; exact ⟨rfl, Below.refl _ _⟩)
  reduce := freduce_ok
  product := fproduct_ok
  inverse := finverse_ok
  cyclic := fcyclic_ok
  conjugate := fconjugate_ok
  root := froot_ok
end Go.Proofs.Ytbckgomidoelaaa
