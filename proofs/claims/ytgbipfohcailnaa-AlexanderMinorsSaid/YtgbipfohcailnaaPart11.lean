/- Several texts in one. -/
import Derived.Test.YtgbipfohcailnaaPart10
import Derived.Test.YtgbipfohcailnaaPart9
import Derived.Test.YtgbipfohcailnaaBase1
import Derived.Test.YtgbipfohcailnaaPart8
/- timbref1.Burau for any word: by halves. (Written by tools/gen_burau2.py.) -/
namespace Go.Proofs.Ytgbipfohcailnaa
set_option linter.unusedVariables false
set_option linter.unusedSimpArgs false
open Go.RowKit Go.Maps

theorem SL.cutH_ {w : World} {A : Option Addr} {n c h : Nat} {xs : List Int} (ha : SL w A n c xs) (h2 : h ≤ n) : SL w (cutA A 0 c) (h - 0) (c - 0) (xs.take h) :=
  ⟨by have := ha.il.cut (Nat.zero_le h) h2 ha.cap; rwa [List.drop_zero] at this, fun e => cutA_none ha.nil (Nat.zero_le h) h2 e, by have := ha.cap; omega⟩
theorem SL.cutL_ {w : World} {A : Option Addr} {n c h : Nat} {xs : List Int} (ha : SL w A n c xs) (h2 : h ≤ n) : SL w (cutA A h c) (n - h) (c - h) (xs.drop h) :=
  ⟨by
    have := ha.il.cut h2 (Nat.le_refl n) ha.cap
    rwa [List.take_of_length_le (by rw [List.length_drop, ha.il.len]; exact Nat.le_refl _)] at this, fun e => cutA_none ha.nil h2 (Nat.le_refl n) e, by have := ha.cap; omega⟩
theorem MatO.of_eq {base go n E : Nat} {w : World} {gr : Nat → Option Nat} {mb : Nat → Nat → Option Nat} {X Y : Mtx LP} (h : MatO base w go n gr mb X E) (he : EqM n X Y) : MatO base w go n gr mb Y E :=
  h.congr (fun _ _ => rfl) (fun _ _ _ _ => rfl) (fun i hi j hj _ _ => he i hi j hj)
theorem MatO.base_ {base b' go n E : Nat} {w : World} {gr : Nat → Option Nat} {mb : Nat → Nat → Option Nat} {X : Mtx LP} (h : MatO base w go n gr mb X E) (hb : b' ≤ base) : MatO b' w go n gr mb X E :=
  ⟨h.out.mono hb, fun i hi g hg => (h.row i hi g hg).mono hb, h.ne, h.inj, fun i hi j hj b hm => ⟨Nat.le_trans hb (h.map i hi j hj b hm).1, (h.map i hi j hj b hm).2⟩⟩
theorem eBurau : ∀ args w, (callFunc 24 args).run Try.prog w = .ok (.enter 24 args) w := enters (fn := Try.f24) (by kernel_rfl) (by kernel_rfl) (by kernel_rfl)
theorem eProduct : ∀ args w, (callFunc 39 args).run Try.prog w = .ok (.enter 39 args) w := enters (fn := Try.f39) (by kernel_rfl) (by kernel_rfl) (by kernel_rfl)
/-- What Burau answers for words of at most m letters. -/
def BurOK (N m : Nat) : Prop := ∀ (A : Option Addr) (n c : Nat) (xs : List Int) (w : World), SL w A n c xs → n ≤ m → n ≤ 16 → okB N xs →
  Calls Try.prog 24 #[.int .i64 N, .slice A n c] w (GivesMO w N (bu N xs) (max n 1))
theorem bur_le {a b : Nat} (h : a + b ≤ 16) : (2 * max a 1 + 1) * (3 ^ a * 3 ^ b) ≤ 4000000000000000000 := by
  have h1 : 3 ^ a * 3 ^ b ≤ 43046721 := by rw [← Nat.pow_add]; exact pow3 h
  have h2 : 2 * max a 1 + 1 ≤ 33 := by omega
  exact Nat.le_trans (Nat.mul_le_mul h2 h1) (by omega)

set_option maxRecDepth 100000 in
set_option maxHeartbeats 8000000 in
theorem burau_more (N m : Nat) (hN : N ≤ 1000) (ih : BurOK N m) (A : Option Addr) (n c : Nat) (xs : List Int) (w : World) (ha : SL w A n c xs) (h2 : 2 ≤ n) (hnm : n ≤ m + 1) (hn : n ≤ 16) (hx : okB N xs) :
    Calls Try.prog 24 #[.int .i64 N, .slice A n c] w (GivesMO w N (bu N xs) (max n 1)) := by
  obtain ⟨i0, hi0, hz0, hz1, hz2⟩ := info_parts int_info
  have HI0 := hide hi0
  have HZ1 := hide hz1
  have hlen := ha.il.len
  have hcap := ha.cap
  obtain ⟨h, hh⟩ : ∃ h : Nat, h = n / 2 := ⟨_, rfl⟩
  have hq : IntKind.i64.wrap ((n : Int).tdiv 2) = (h : Int) := by
    rw [Int.tdiv_eq_ediv_of_nonneg (by omega), IntKind.wrap_i64]
    omega
  have hha : h ≤ n := by omega
  have hhc : h ≤ c := by omega
  have hhm : h - 0 ≤ m ∧ h - 0 ≤ 16 ∧ n - h ≤ m ∧ n - h ≤ 16 := by omega
  have hhx : max (h - 0) 1 + max (n - h) 1 = max n 1 := by omega
  have HQ := hide hq
  have HH := hide hhm
  have HHN := hide hha
  have HHC := hide hhc
  have HHX := hide hhx
  have C1 := hide (ha.cutH_ hha)
  have C2 := hide (ha.cutL_ hha)
  have L1 : Hid ((xs.take h).length = h - 0) := hide (by rw [List.length_take]; omega)
  have L2 : Hid ((xs.drop h).length = n - h) := hide (by rw [List.length_drop]; omega)
  have X1 : Hid (okB N (xs.take h)) := hide (fun x hx1 => hx x (List.mem_of_mem_take hx1))
  have X2 : Hid (okB N (xs.drop h)) := hide (fun x hx1 => hx x (List.mem_of_mem_drop hx1))
  have HF : Hid (EqM N (mulM N (bu N (xs.take h)) (bu N (xs.drop h))) (bu N xs)) := hide (by
    have e := bu_append N (xs.take h) (xs.drop h)
    rw [List.take_append_drop] at e
    exact e.symm)
  have HV : Hid ((2 * max (h - 0) 1 + 1) * (3 ^ (h - 0) * 3 ^ (n - h)) ≤ 4000000000000000000) := hide (bur_le (by omega))
  have HN := hide hN
  have IH := hide ih
  have t0 : decide ((1 : Int) < (n : Int)) = true := by simp; omega
  have t1 : decide (1 < n) = true := by simp; omega
  clear ih ha hx hi0 hz0 hz1 hz2 hlen hcap hq hha hhc hhm hhx hh hnm hN
  go_enter Try.func24, Try.ntmps24
  go_upto_region 2 with fail
  clear t0 t1
  refine wp_region_noPanic ?_
  refine wp_region_held_drew (S := fun x => Below w.heap.size w.drew x) (by kernel_rfl) (Below.refl _ _) (fun hS0 => ?_)
  refine wpAnyH_tk 0 (v := .int .i64 N) rfl (by kernel_rfl) (by kernel_rfl) (by kernel_rfl) (yi rfl fun w' hw' => gives_move (.inl rfl) rfl) hS0 ?_
  go_frame
  refine wpAnyH_tk 1 (v := .slice A n c) rfl (by kernel_rfl) (by kernel_rfl) (by kernel_rfl) (yi rfl fun w' hw' => gives_move (.inl rfl) rfl) hS0 ?_
  go_frame
  refine wpAnyH_tk 2 (v := .slice A n c) rfl (by kernel_rfl) (by kernel_rfl) (by kernel_rfl) (yi rfl fun w' hw' => gives_move (.inl rfl) rfl) hS0 ?_
  go_frame
  refine wpAnyH_tk 3 (v := .int .i64 n) rfl (by kernel_rfl) (by kernel_rfl) (by kernel_rfl) (yi rfl fun w' hw' => gives_len rfl Try.underlying22 rfl) hS0 ?_
  go_frame
  refine wpAnyH_tk 4 (v := .int .i64 h) rfl (by kernel_rfl) (by kernel_rfl) (by kernel_rfl) (yi rfl fun w' hw' => gives_quo rfl rfl rfl (by decide) HQ.out) hS0 ?_
  go_frame
  refine wpAnyH_tk 5 (v := .slice (cutA A 0 c) (h - 0) (c - 0)) rfl (by kernel_rfl) (by kernel_rfl) (by kernel_rfl) (yi rfl fun w' hw' => gives_cut_h rfl Try.underlying22 (by rw [HI0.out]; exact congrArg some HZ1.out) rfl rfl HHC.out) hS0 ?_
  go_frame
  refine wpAnyH_tk 7 (v := .int .i64 N) rfl (by kernel_rfl) (by kernel_rfl) (by kernel_rfl) (yi rfl fun w' hw' => gives_move (.inl rfl) rfl) hS0 ?_
  go_frame
  refine wpAnyH_tk 8 (v := .slice A n c) rfl (by kernel_rfl) (by kernel_rfl) (by kernel_rfl) (yi rfl fun w' hw' => gives_move (.inl rfl) rfl) hS0 ?_
  go_frame
  refine wpAnyH_tk 9 (v := .slice A n c) rfl (by kernel_rfl) (by kernel_rfl) (by kernel_rfl) (yi rfl fun w' hw' => gives_move (.inl rfl) rfl) hS0 ?_
  go_frame
  refine wpAnyH_tk 10 (v := .int .i64 n) rfl (by kernel_rfl) (by kernel_rfl) (by kernel_rfl) (yi rfl fun w' hw' => gives_len rfl Try.underlying22 rfl) hS0 ?_
  go_frame
  refine wpAnyH_tk 11 (v := .int .i64 h) rfl (by kernel_rfl) (by kernel_rfl) (by kernel_rfl) (yi rfl fun w' hw' => gives_quo rfl rfl rfl (by decide) HQ.out) hS0 ?_
  go_frame
  refine wpAnyH_tk 12 (v := .slice (cutA A h c) (n - h) (c - h)) rfl (by kernel_rfl) (by kernel_rfl) (by kernel_rfl) (yi rfl fun w' hw' => gives_cut_l rfl Try.underlying22 (by rw [HI0.out]; exact congrArg some HZ1.out) rfl rfl HHN.out) hS0 ?_
  go_frame
  refine wpAnyH_1 6 rfl (by kernel_rfl) ?_
  refine wp_call [.int .i64 N, .slice (cutA A 0 c) (h - 0) (c - 0)] rfl rfl eBurau rfl ((IH.out _ _ _ _ _ (C1.out.below (Below.refl _ _).drew) HH.out.1 HH.out.2.1 X1.out).mono ?_)
  rintro e v1 ⟨go1, gr1, mb1, rfl, hM1, hG1, hB1, hb1⟩
  have hS1 : Below w.heap.size w.drew v1 := hb1
  have M1 := hide (hM1.rdM hG1 hB1)
  clear hM1 hG1 hB1
  refine ⟨_, rfl, hS1, ?_⟩
  go_frame
  refine wpAnyH_1 13 rfl (by kernel_rfl) ?_
  refine wp_call [.int .i64 N, .slice (cutA A h c) (n - h) (c - h)] rfl rfl eBurau rfl ((IH.out _ _ _ _ _ (C2.out.below ((Below.refl _ _).drew.trans hS1)) HH.out.2.2.1 HH.out.2.2.2 X2.out).mono ?_)
  rintro e v2 ⟨go2, gr2, mb2, rfl, hM2, hG2, hB2, hb2⟩
  have hS2 : Below w.heap.size w.drew v2 := hS1.trans (hb2.mono hS1.size)
  replace M1 := hide (M1.out.below hb2)
  have M2 := hide (hM2.rdM hG2 hB2)
  clear hM2 hG2 hB2
  refine ⟨_, rfl, hS2, ?_⟩
  go_frame
  refine wpAnyH_1 14 rfl (by kernel_rfl) ?_
  refine wp_call [.slice (some ⟨go1, 0, none⟩) N N, .slice (some ⟨go2, 0, none⟩) N N] rfl rfl eProduct rfl ((product_any _ _ N N N _ _ _ _ _ _ _ M1.out M2.out ((bu_rn (n := N) (xs.take h)).mono (by rw [L1.out]; omega) (Nat.le_refl _)) ((bu_rn (n := N) (xs.drop h)).mono (by rw [L2.out]; omega) (Nat.le_refl _)) HN.out (by have := HH.out; omega) (by rw [L1.out, L2.out]; exact HV.out)).mono ?_)
  rintro e v3 ⟨go3, gr3, mb3, rfl, hM3, hG3, hB3, hb3⟩
  have hS3 : Below w.heap.size w.drew v3 := hS2.trans (hb3.mono hS2.size)
  rw [HHX.out] at hM3
  have R := hide (show MatO w.heap.size v3 go3 N gr3 mb3 (bu N xs) (max n 1) ∧ _ ∧ _ ∧ _ from ⟨(hM3.of_eq HF.out).base_ hS2.size, hG3, hB3, (Below.refl _ _).drew.trans hS3⟩)
  clear hM3 hG3 hB3 M1 M2
  refine ⟨_, rfl, hS3, ?_⟩
  go_frame
  refine wpAnyH_tk 15 (v := .slice (some ⟨go3, 0, none⟩) N N) rfl (by kernel_rfl) (by kernel_rfl) (by kernel_rfl) (yi rfl fun w' hw' => gives_move (.inr rfl) rfl) hS3 ?_
  go_frame
  refine wpAnyH_done (by kernel_rfl) (noPanic_mk ?_) _
  clear IH
  go_wp2_with fail
  go_ret
  exact ⟨go3, gr3, mb3, rfl, R.out.1, R.out.2.1, R.out.2.2.1, R.out.2.2.2⟩

theorem burau_any (N : Nat) (hN : N ≤ 1000) : ∀ m : Nat, BurOK N m
  | 0 => fun A n c xs w ha hm hn hx => by
    rw [show max n 1 = 1 by omega]
    exact burauS_any N A n c xs w ha (by omega) hN hx
  | m + 1 => fun A n c xs w ha hm hn hx => by
    by_cases h1 : n ≤ 1
    · rw [show max n 1 = 1 by omega]
      exact burauS_any N A n c xs w ha h1 hN hx
    · exact burau_more N m hN (burau_any N hN m) A n c xs w ha (by omega) hm hn hx
end Go.Proofs.Ytgbipfohcailnaa
/- timbref1.Minor. (Written by tools/gen_minor.py.) -/
namespace Go.Proofs.Ytgbipfohcailnaa
set_option linter.unusedVariables false
set_option linter.unusedSimpArgs false
open Go.RowKit

theorem addr_z (g i : Nat) : (⟨g, 0, none⟩ : Addr).add i = ⟨g, i, none⟩ := by cases i <;> simp [Addr.add]
theorem ePlusM : ∀ args w, (callFunc 23 args).run Try.prog w = .ok (.enter 23 args) w := enters (fn := Try.f23) (by kernel_rfl) (by kernel_rfl) (by kernel_rfl)
theorem tv_minus {w : World} {a b : Nat} {x y : LP} {E : Nat} (hx : TV w a x E) (hy : TV w b y E) (hcx : CB x 4000000000000000000) (hcy : CB y 4000000000000000000) (hE : E ≤ 400000) : Calls Try.prog 23 #[.map (some a), .map (some b), .int .i64 (-1)] w (GivesV w (x + -y) E) := by
  obtain ⟨ta, h1, rfl, h3⟩ := hx
  obtain ⟨tb, k1, rfl, k3⟩ := hy
  have h := (plus_any a b ta tb (-1) (.inr rfl) E hE w h1 k1 h3 k3 (TV.vals h1 hcx) (TV.vals k1 hcy))
  rw [show LP.term 0 (-1) * LP.mk tb = -LP.mk tb from LP.ext fun k => by rw [LP.co_term_mul, LP.co_neg, Int.sub_zero]; omega] at h
  exact h.mono fun e w' hh => hh.v
theorem MatO.base {base base' : Nat} {w : World} {go n E : Nat} {gr : Nat → Option Nat} {mb : Nat → Nat → Option Nat} {X : Mtx LP} (h : MatO base w go n gr mb X E) (hb : base' ≤ base) : MatO base' w go n gr mb X E :=
  ⟨h.out.mono hb, fun i hi g hg => (h.row i hi g hg).mono hb, h.ne, h.inj, fun i hi j hj b hbb => ⟨Nat.le_trans hb (h.map i hi j hj b hbb).1, (h.map i hi j hj b hbb).2⟩⟩
/-- The identity less the first rows and columns of the Burau matrix. -/
noncomputable def aM (n : Nat) (w : List Int) : Mtx LP := fun i j => oneM i j + -(bu n w i j)
noncomputable def aX (n : Nat) (w : List Int) (i k : Nat) : Mtx LP := fun a c => if a < i ∨ (a = i ∧ c < k) then aM n w a c else oneM a c
theorem bu_cb16 {n : Nat} {w : List Int} (hw : okB n w) (hl : w.length ≤ 16) {i j : Nat} (hi : i < n) (hj : j < n) : CB (bu n w i j) 43046721 := fun k => by
  have h := ((bu_rn w).entry hi hj).co k
  have := Nat.pow_le_pow_right (show 0 < 3 by omega) hl
  omega
theorem one_cb (i j : Nat) : CB ((oneM : Mtx LP) i j) 1 := fun k => by
  unfold oneM
  split
  · rw [LP.co_one]; split <;> decide
  · rw [LP.co_zero]; decide

set_option maxRecDepth 100000 in
set_option maxHeartbeats 8000000 in
theorem minor_any (N : Nat) (hN1 : 1 ≤ N) (hN : N ≤ 6) (A : Option Addr) (l c : Nat) (xs : List Int) (w : World) (ha : SL w A l c xs) (hl : l ≤ 16) (hx : okB N xs) :
    Calls Try.prog 10 #[.int .i64 N, .slice A l c] w (GivesMO w (N - 1) (aM N xs) (max l 1)) := by
  have HBU := hide (burau_any N (by omega) 16 A l c xs w ha hl hl hx)
  have hlen : xs.length ≤ 16 := by rw [ha.il.len]; exact hl
  have HCB := hide (fun (i j : Nat) (hi : i < N) (hj : j < N) => (fun q => Nat.le_trans (bu_cb16 hx hlen hi hj q) (by decide) : CB (bu N xs i j) 4000000000000000000))
  obtain ⟨n, rfl⟩ : ∃ n, N = n + 1 := ⟨N - 1, by omega⟩
  have hw1 : IntKind.i64.wrap (n : Int) = (n : Int) := by rw [IntKind.wrap_i64]; omega
  have hs1 : ((n + 1 : Nat) : Int) - 1 = (n : Int) := by omega
  have hE : max l 1 ≤ 400000 := by omega
  obtain ⟨E, hEE⟩ : ∃ E, max l 1 = E := ⟨_, rfl⟩
  rw [hEE] at hE HBU ⊢
  rw [show n + 1 - 1 = n by omega]
  clear ha hlen hEE
  go_enter Try.func10, Try.ntmps10
  go_wp2_with fail
  refine HBU.out.mono ?_
  rintro e w1 ⟨bo, br, bb, rfl, hB, hbr, hbb, hb⟩
  have HB := hide hB
  have HBR := hide hbr
  have HBB := hide hbb
  have HW := hide hb
  clear hB hbr hbb hb HBU
  go_wp2_with fail
  refine (unit_any n w1 (by omega)).mono ?_
  rintro e w2 ⟨go, gr, mb, rfl, hM, hG, hb1, hb⟩
  have HG := hide hG
  have HM1 := hide ((hM.mono (Nat.zero_le E)).congr (X' := aX (n + 1) xs 0 0) (fun _ _ => rfl) (fun _ _ _ _ => rfl) (fun i hi j hj b hb => by unfold aX; rw [if_neg (by omega)]))
  have HS1 := hide hb1
  have HW1 := hide hb
  have hgo : w1.heap.size ≤ go := (hM.out.lt go rfl).1
  have HGO := hide hgo
  clear hM hG hb1 hb hgo
  go_wp2_with fail
  go_loopw [7, 8, 17] (fun _ _ iv wr => ∃ (i : Nat) (mb : Nat → Nat → Option Nat), iv = .int .i64 i ∧ i ≤ n ∧ Hid (MatO w1.heap.size wr go n gr mb (aX (n + 1) xs i 0) E) ∧ Hid (∀ a, a < n → ∀ c, c < n → ∃ b, mb a c = some b) ∧ Hid (Below w1.heap.size w1 wr)) (fun _ _ iv _ => n - (intOf iv).toNat)
  case atStart => exact ⟨0, _, rfl, Nat.zero_le _, HM1, HS1, HW1⟩
  case round =>
    clear HM1 HS1 HW1
    obtain ⟨i, mb1, rfl, hi, HM1, HS1, HW1⟩ := hrel
    by_cases hin : i < n
    · have HI := hide hi
      have HIN := hide hin
      clear hi
      go_wp2_with fail
      go_loopw [8, 22] (fun _ kv wr => ∃ (k : Nat) (mb : Nat → Nat → Option Nat), kv = .int .i64 k ∧ k ≤ n ∧ Hid (MatO w1.heap.size wr go n gr mb (aX (n + 1) xs i k) E) ∧ Hid (∀ a, a < n → ∀ c, c < n → ∃ b, mb a c = some b) ∧ Hid (Below w1.heap.size w1 wr)) (fun _ kv _ => n - (intOf kv).toNat)
      case atStart => exact ⟨0, _, rfl, Nat.zero_le _, HM1, HS1, HW1⟩
      case round =>
        clear HM1 HS1 HW1
        obtain ⟨k, mb2, rfl, hk, HM2, HS2, HW2⟩ := hrel
        by_cases hkn : k < n
        · have HK := hide hk
          have HKN := hide hkn
          clear hk
          obtain ⟨g, hg⟩ := HG.out i HIN.out
          obtain ⟨g2, hg2⟩ := HBR.out i (by omega)
          obtain ⟨b1, hb1⟩ := HS2.out i HIN.out k HKN.out
          obtain ⟨b2, hb2⟩ := HBB.out i (by omega) k (by omega)
          have HB2 := hide (HB.out.to HW2.out)
          have hc1 := HM2.out.outCell HIN.out
          rw [hg] at hc1
          change _ = some (Value.slice (some ⟨g, 0, none⟩) n n) at hc1
          have hc2 := HM2.out.rowCell (j := k) HIN.out HKN.out hg
          rw [hb1] at hc2
          have hc3 := HB2.out.outCell (i := i) (by omega)
          rw [hg2] at hc3
          change _ = some (Value.slice (some ⟨g2, 0, none⟩) (n + 1) (n + 1)) at hc3
          have hc4 := HB2.out.rowCell (j := k) (i := i) (by omega) (by omega) hg2
          rw [hb2] at hc4
          have hv1 := (HM2.out.map i HIN.out k HKN.out b1 hb1).2
          have hv2 := (HB2.out.map i (by omega) k (by omega) b2 hb2).2
          rw [show aX (n + 1) xs i k i k = (oneM : Mtx LP) i k from if_neg (by omega)] at hv1
          have hin := HIN.out
          have hkn := HKN.out
          have HCM := hide (fun (v : World) (hv : Below wr.heap.size wr v) => tv_minus (hv1.below hv) (hv2.below hv) (fun q => Nat.le_trans (one_cb i k q) (by decide)) (HCB.out i k (by omega) (by omega)) hE)
          have hl1 : go < wr.heap.size := (HM2.out.out.lt go rfl).2
          have hl2 : g < wr.heap.size := (HM2.out.rowLt HIN.out hg).2
          have hl3 : bo < wr.heap.size := (HB2.out.out.lt bo rfl).2
          have hl4 : g2 < wr.heap.size := (HB2.out.rowLt (i := i) (by omega) hg2).2
          have H1 : Hid (wr.cell? ((⟨go, 0, none⟩ : Addr).add i) = some (.slice (some ⟨g, 0, none⟩) n n)) := hide (by rw [addr_z]; exact hc1)
          have H2 : Hid (wr.cell? ((⟨g, 0, none⟩ : Addr).add k) = some (.map (some b1))) := hide (by rw [addr_z]; exact hc2)
          have H3 : Hid (wr.cell? ((⟨bo, 0, none⟩ : Addr).add i) = some (.slice (some ⟨g2, 0, none⟩) (n + 1) (n + 1))) := hide (by rw [addr_z]; exact hc3)
          have H4 : Hid (wr.cell? ((⟨g2, 0, none⟩ : Addr).add k) = some (.map (some b2))) := hide (by rw [addr_z]; exact hc4)
          have hin1 : i < n + 1 := by omega
          have hkn1 : k < n + 1 := by omega
          clear hc1 hc2 hc3 hc4 hv1 hv2 hb1 hb2 hg2 HB2
          have HGG := hide hg
          clear hg
          go_upto_region 9 with fail
          refine wp_region_T (S := fun z => Below wr.heap.size wr z) 21 (by kernel_rfl) (Below.refl _ _).drew (fun hT0 => ?_)
          refine wpT_tk 0 (v := .slice (some ⟨go, 0, none⟩) n n) rfl (by kernel_rfl) (by kernel_rfl) (by kernel_rfl) (by kernel_rfl) (yi rfl fun w' hw' => gives_move (.inl rfl) rfl) hT0 ?_
          go_frame
          refine wpT_tk 1 (v := .int .i64 i) rfl (by kernel_rfl) (by kernel_rfl) (by kernel_rfl) (by kernel_rfl) (yi rfl fun w' hw' => gives_move (.inl rfl) rfl) hT0 ?_
          go_frame
          refine wpT_tk 2 (v := .pointer (some ((⟨go, 0, none⟩ : Addr).add i))) rfl (by kernel_rfl) (by kernel_rfl) (by kernel_rfl) (by kernel_rfl) (yi rfl fun w' hw' => gives_indexA rfl Try.underlying36 (fun w => by kernel_rfl) rfl rfl hin) hT0 ?_
          go_frame
          refine wpT_tk 3 (v := .slice (some ⟨g, 0, none⟩) n n) rfl (by kernel_rfl) (by kernel_rfl) (by kernel_rfl) (by kernel_rfl) (yi rfl fun w' hw' => gives_load1 rfl (by kernel_rfl) rfl ((hw'.cell (p := (⟨go, 0, none⟩ : Addr).add i) (by rw [addr_z]; exact hl1)).trans H1.out)) hT0 ?_
          go_frame
          refine wpT_tk 4 (v := .int .i64 k) rfl (by kernel_rfl) (by kernel_rfl) (by kernel_rfl) (by kernel_rfl) (yi rfl fun w' hw' => gives_move (.inl rfl) rfl) hT0 ?_
          go_frame
          refine wpT_tk 5 (v := .slice (some ⟨go, 0, none⟩) n n) rfl (by kernel_rfl) (by kernel_rfl) (by kernel_rfl) (by kernel_rfl) (yi rfl fun w' hw' => gives_move (.inl rfl) rfl) hT0 ?_
          go_frame
          refine wpT_tk 6 (v := .int .i64 i) rfl (by kernel_rfl) (by kernel_rfl) (by kernel_rfl) (by kernel_rfl) (yi rfl fun w' hw' => gives_move (.inl rfl) rfl) hT0 ?_
          go_frame
          refine wpT_tk 7 (v := .pointer (some ((⟨go, 0, none⟩ : Addr).add i))) rfl (by kernel_rfl) (by kernel_rfl) (by kernel_rfl) (by kernel_rfl) (yi rfl fun w' hw' => gives_indexA rfl Try.underlying36 (fun w => by kernel_rfl) rfl rfl hin) hT0 ?_
          go_frame
          refine wpT_tk 8 (v := .slice (some ⟨g, 0, none⟩) n n) rfl (by kernel_rfl) (by kernel_rfl) (by kernel_rfl) (by kernel_rfl) (yi rfl fun w' hw' => gives_load1 rfl (by kernel_rfl) rfl ((hw'.cell (p := (⟨go, 0, none⟩ : Addr).add i) (by rw [addr_z]; exact hl1)).trans H1.out)) hT0 ?_
          go_frame
          refine wpT_tk 9 (v := .int .i64 k) rfl (by kernel_rfl) (by kernel_rfl) (by kernel_rfl) (by kernel_rfl) (yi rfl fun w' hw' => gives_move (.inl rfl) rfl) hT0 ?_
          go_frame
          refine wpT_tk 10 (v := .pointer (some ((⟨g, 0, none⟩ : Addr).add k))) rfl (by kernel_rfl) (by kernel_rfl) (by kernel_rfl) (by kernel_rfl) (yi rfl fun w' hw' => gives_indexA rfl Try.underlying50 (fun w => by kernel_rfl) rfl rfl hkn) hT0 ?_
          go_frame
          refine wpT_tk 11 (v := .map (some b1)) rfl (by kernel_rfl) (by kernel_rfl) (by kernel_rfl) (by kernel_rfl) (yi rfl fun w' hw' => gives_load1 rfl (by kernel_rfl) rfl ((hw'.cell (p := (⟨g, 0, none⟩ : Addr).add k) (by rw [addr_z]; exact hl2)).trans H2.out)) hT0 ?_
          go_frame
          refine wpT_tk 12 (v := .slice (some ⟨bo, 0, none⟩) (n + 1) (n + 1)) rfl (by kernel_rfl) (by kernel_rfl) (by kernel_rfl) (by kernel_rfl) (yi rfl fun w' hw' => gives_move (.inl rfl) rfl) hT0 ?_
          go_frame
          refine wpT_tk 13 (v := .int .i64 i) rfl (by kernel_rfl) (by kernel_rfl) (by kernel_rfl) (by kernel_rfl) (yi rfl fun w' hw' => gives_move (.inl rfl) rfl) hT0 ?_
          go_frame
          refine wpT_tk 14 (v := .pointer (some ((⟨bo, 0, none⟩ : Addr).add i))) rfl (by kernel_rfl) (by kernel_rfl) (by kernel_rfl) (by kernel_rfl) (yi rfl fun w' hw' => gives_indexA rfl Try.underlying36 (fun w => by kernel_rfl) rfl rfl hin1) hT0 ?_
          go_frame
          refine wpT_tk 15 (v := .slice (some ⟨g2, 0, none⟩) (n + 1) (n + 1)) rfl (by kernel_rfl) (by kernel_rfl) (by kernel_rfl) (by kernel_rfl) (yi rfl fun w' hw' => gives_load1 rfl (by kernel_rfl) rfl ((hw'.cell (p := (⟨bo, 0, none⟩ : Addr).add i) (by rw [addr_z]; exact hl3)).trans H3.out)) hT0 ?_
          go_frame
          refine wpT_tk 16 (v := .int .i64 k) rfl (by kernel_rfl) (by kernel_rfl) (by kernel_rfl) (by kernel_rfl) (yi rfl fun w' hw' => gives_move (.inl rfl) rfl) hT0 ?_
          go_frame
          refine wpT_tk 17 (v := .pointer (some ((⟨g2, 0, none⟩ : Addr).add k))) rfl (by kernel_rfl) (by kernel_rfl) (by kernel_rfl) (by kernel_rfl) (yi rfl fun w' hw' => gives_indexA rfl Try.underlying50 (fun w => by kernel_rfl) rfl rfl hkn1) hT0 ?_
          go_frame
          refine wpT_tk 18 (v := .map (some b2)) rfl (by kernel_rfl) (by kernel_rfl) (by kernel_rfl) (by kernel_rfl) (yi rfl fun w' hw' => gives_load1 rfl (by kernel_rfl) rfl ((hw'.cell (p := (⟨g2, 0, none⟩ : Addr).add k) (by rw [addr_z]; exact hl4)).trans H4.out)) hT0 ?_
          go_frame
          refine wpT_1 19 rfl (by kernel_rfl) ?_
          refine wp_call [.map (some b1), .map (some b2), .int .i64 (-1)] rfl rfl ePlusM rfl ((HCM.out _ hT0).mono ?_)
          rintro e x1 ⟨b3, rfl, hb3, ht3, hb⟩
          have hT1 : Below wr.heap.size wr x1 := hT0.trans (hb.mono hT0.size)
          have hb9 : w1.heap.size ≤ b3 := by have := hT0.size; have := HW2.out.size; omega
          clear hb hb3
          refine ⟨_, rfl, fun _ => hT1, ?_⟩
          go_frame
          refine wpT_tk 20 (v := .pointer (some ((⟨g, 0, none⟩ : Addr).add k))) rfl (by kernel_rfl) (by kernel_rfl) (by kernel_rfl) (by kernel_rfl) (yi rfl fun w' hw' => gives_indexA rfl Try.underlying50 (fun w => by kernel_rfl) rfl rfl hkn) hT1 ?_
          go_frame
          have hM3 := HM2.out.to hT1
          have hrc := hM3.rowCell (j := k) HIN.out HKN.out HGG.out
          have hrf := hM3.rowFrozen (j := k) HIN.out HGG.out
          have hgl := (hM3.rowLt HIN.out HGG.out).1
          have hN := (hM3.set_ HIN.out HKN.out HGG.out hb9 ht3).congr (X' := aX (n + 1) xs i (k + 1)) (mb' := fun a c => if a = i ∧ c = k then some b3 else mb2 a c) (fun _ _ => rfl) (fun _ _ _ _ => rfl) (fun a ha c hc b hb => by
            show (if a = i ∧ c = k then (oneM : Mtx LP) i k + -(bu (n + 1) xs i k) else aX (n + 1) xs i k a c) = aX (n + 1) xs i (k + 1) a c
            unfold aX aM
            by_cases e : a = i ∧ c = k
            · rw [if_pos e, if_pos (by omega), e.1, e.2]
            · rw [if_neg e]
              by_cases e2 : a < i ∨ (a = i ∧ c < k)
              · rw [if_pos e2, if_pos (by omega)]
              · rw [if_neg e2, if_neg (by omega)])
          have HN := hide hN
          have HBN := hide ((HW2.out.trans (hT1.mono HW2.out.size)).setCell (p := ⟨g, k, none⟩) hgl (.map (some b3)))
          clear hM3 hN ht3
          refine wpT_1 21 rfl (by kernel_rfl) ?_
          refine wp_storeM (ad := (⟨g, 0, none⟩ : Addr).add k) rfl (by kernel_rfl) (by kernel_rfl) rfl rfl (by rw [addr_z]; exact hrc) (by rw [addr_z]; exact hrf) ?_
          refine ⟨fun h => absurd rfl h, ?_⟩
          go_frame
          rw [addr_z]
          refine wpT_done (by kernel_rfl) (noPanic_mk ?_) _
          clear hT0 hT1 hl1 hl2 hl3 hl4 hin hkn hrc hrf hgl hin1 hkn1
          go_wp2_with fail
          go_roundw
          case rel =>
            refine ⟨k + 1, _, by go_num, by omega, HN, hide (fun a ha c hc => ?_), HBN⟩
            show ∃ b', (if a = i ∧ c = k then some b3 else mb2 a c) = some b'
            split
            · exact ⟨_, rfl⟩
            · exact HS2.out a ha c hc
          case measure => simp [intOf]; omega
        · have hkn2 : k = n := by omega
          have HM3 := hide (HM2.out.congr (X' := aX (n + 1) xs (i + 1) 0) (fun _ _ => rfl) (fun _ _ _ _ => rfl) (fun a ha c hc b hb => by
            unfold aX
            by_cases e : a < i ∨ (a = i ∧ c < k)
            · rw [if_pos e, if_pos (by omega)]
            · rw [if_neg e, if_neg (by omega)]))
          have hin := HIN.out
          clear hkn2 HM2 hk
          go_wp2_with fail
          go_roundw
          case rel => exact ⟨i + 1, mb2, by go_num, by omega, HM3, HS2, HW2⟩
          case measure => simp [intOf]; omega
    · have hin2 : i = n := by omega
      have HM3 := hide (HM1.out.congr (X' := aM (n + 1) xs) (fun _ _ => rfl) (fun _ _ _ _ => rfl) (fun a ha c hc b hb => by
        unfold aX
        rw [if_pos (by omega)]))
      have HWW := hide (HW.out.trans (HW1.out.mono HW.out.size))
      have hw1s := HW.out.size
      clear hin2 HM1 hi
      go_wp2_with fail
      go_ret
      exact ⟨go, gr, mb1, rfl, HM3.out.base hw1s, HG.out, HS1.out, HWW.out⟩
end Go.Proofs.Ytgbipfohcailnaa
/- Closures that visit lists of numbers, as long as a measure of the state is not beyond a limit; timbref1.Permutations. -/
namespace Go.Proofs.Ytgbipfohcailnaa
set_option linter.unusedVariables false
set_option linter.unusedSimpArgs false
open Go.RowKit

/-- As Visit, but the call is asked for only where the next state is within the limit. -/
structure VisitL (P : Program) (fid : FuncId) (caps : List Value) (g : Nat) (σ : Type) (J : σ → World → Prop) (good : List Nat → Prop) (lim : σ → Prop) (step : σ → List Nat → σ) : Prop where
  keep : ∀ s w w', J s w → Below w.heap.size w w' → J s w'
  lt : ∀ s w, J s w → g < w.heap.size
  mono : ∀ s p, lim (step s p) → lim s
  call : ∀ (p : List Nat) (A : Option Addr) (n c : Nat) (s : σ) (w : World), SL w A n c (zs p) → (∀ ad, A = some ad → ad.block ≠ g) → good p → J s w → lim (step s p) →
    Calls P fid (.slice A n c :: caps).toArray w fun e w' => e = .returned (.tuple #[]) ∧ J (step s p) w' ∧ w.grownBy w' (some g)
theorem VisitL.lim_fold {P : Program} {fid : FuncId} {caps : List Value} {g : Nat} {σ : Type} {J : σ → World → Prop} {good : List Nat → Prop} {lim : σ → Prop} {step : σ → List Nat → σ} (V : VisitL P fid caps g σ J good lim step) : ∀ (l : List (List Nat)) (s : σ), lim (l.foldl step s) → lim s
  | [], _, h => h
  | p :: l, s, h => V.mono s p (V.lim_fold l _ h)
theorem complTo_pre {n k : Nat} {p : List Nat} {i : Nat} : ∀ (j : Nat), i ≤ j → ∃ r, complTo n k p j = complTo n k p i ++ r
  | 0, h => ⟨[], by rw [show i = 0 by omega, List.append_nil]⟩
  | j + 1, h => by
    by_cases e : i = j + 1
    · exact ⟨[], by rw [e, List.append_nil]⟩
    obtain ⟨r, hr⟩ := complTo_pre (n := n) (k := k) (p := p) (i := i) j (by omega)
    cases hp : p.contains j with
    | true => exact ⟨r, by rw [complTo_old hp, hr]⟩
    | false => exact ⟨r ++ compl n k (p ++ [j]), by rw [complTo_new hp, hr, List.append_assoc]⟩

section
variable {fid : FuncId} {caps : List Value} {g : Nat} {σ : Type} {J : σ → World → Prop} {lim : σ → Prop} {step : σ → List Nat → σ} {n : Nat}
set_option maxRecDepth 100000 in
set_option maxHeartbeats 2000000 in
theorem extendL_any (V : VisitL Try.prog fid caps g σ J (fun p => p.Perm (List.range n)) lim step) (hfid : ∀ args w, (callFunc fid args).run Try.prog w = .ok (.enter fid args) w) (hn : n ≤ 1000) (bn bf be : Nat) (h1 : bn ≠ g) (h2 : bf ≠ g) (h3 : be ≠ g) :
    ∀ (k : Nat) (p : List Nat) (A : Option Addr) (m c : Nat) (s : σ) (w : World), p.length + k = n → p.Nodup → (∀ x ∈ p, x < n) → SL w A m c (zs p) → (∀ ad, A = some ad → ad.block ≠ g) →
      Blk w bn 3 #[.int .i64 n] → Blk w bf 52 #[.func (.func fid) #[] caps.toArray] → Blk w be 52 #[.func (.func 36) #[] #[.pointer (some ⟨bn, 0, none⟩), .pointer (some ⟨bf, 0, none⟩), .pointer (some ⟨be, 0, none⟩)]] → J s w → lim ((compl n k p).foldl step s) →
      Calls Try.prog 36 #[.slice A m c, .pointer (some ⟨bn, 0, none⟩), .pointer (some ⟨bf, 0, none⟩), .pointer (some ⟨be, 0, none⟩)] w fun e w' => e = .returned (.tuple #[]) ∧ J ((compl n k p).foldl step s) w' ∧ w.grownBy w' (some g) := by
  intro k
  induction k with
  | zero =>
    intro p A m c s w hpl hpn hpx ha hA hbn hbf hbe hJ hlim
    have hlen := ha.il.len
    rw [zs_length] at hlen
    obtain rfl : m = n := by omega
    have hperm : p.Perm (List.range m) := (List.perm_ext_iff_of_nodup hpn List.nodup_range).2 fun x => by
      have hP : isP p := ⟨fun x hx => by rw [hlen]; exact hpx x hx, hpn⟩
      constructor
      · intro hx; exact List.mem_range.2 (hpx x hx)
      · intro hx; exact hP.mem (by rw [hlen]; exact List.mem_range.1 hx)
    have HC := hide (V.call p A m c s w ha hA hperm hJ hlim)
    clear hlim
    have hcn := hbn.cell 0
    have hcf := hbf.cell 0
    simp at hcn hcf
    clear V ha hA hbn hbf hbe hJ hperm hpn hpx hpl hlen
    go_enter Try.func36, Try.ntmps36
    go_wp2_with fail
    refine HC.out.mono ?_
    rintro e w1 ⟨rfl, hJ1, hg1⟩
    go_wp2_with fail
    go_returns
    exact ⟨rfl, hJ1, hg1⟩
  | succ k ih =>
    intro p A m c s w hpl hpn hpx ha hA hbn hbf hbe hJ hlim
    have hlen := ha.il.len
    rw [zs_length] at hlen
    obtain ⟨i0, hi0, hz0, hz1, hz2⟩ := info_parts int_info
    have HI0 := hide hi0
    have HZ0 := hide hz0
    have HZ1 := hide hz1
    have HZ2 := hide hz2
    have hms := ha.il.small
    have hcn := hbn.cell 0
    simp at hcn
    have hmn : ((m : Int) == (n : Int)) = false := by simp; omega
    have HIH := hide ih
    have HA := hide ha
    have HAA := hide hA
    have HBN := hide hbn
    have HBF := hide hbf
    have HBE := hide hbe
    have HPN := hide hpn
    have HPX := hide hpx
    have HPL := hide hpl
    have HLEN := hide hlen
    have HJ := hide hJ
    have HV := hide V
    have HLIM := hide hlim
    clear hlim
    have hmm : m ≤ n := by omega
    have HPL2 : Hid (∀ i : Nat, (p ++ [i]).length + k = n) := hide (fun i => by rw [List.length_append]; simp; omega)
    clear ih V ha hA hbn hbf hbe hJ hpn hpx hpl hlen hi0 hz0 hz1 hz2
    go_enter Try.func36, Try.ntmps36
    go_wp2_with fail
    go_loopw [14] (fun iv wr => ∃ i : Nat, iv = .int .i64 i ∧ i ≤ n ∧ J ((complTo n k p i).foldl step s) wr ∧ w.grownBy wr (some g)) (fun iv _ => n - (intOf iv).toNat)
    case atStart => exact ⟨0, rfl, Nat.zero_le _, HJ.out, World.grownBy.refl _ _⟩
    case round =>
      obtain ⟨i, rfl, hi, hJ, hg⟩ := hrel
      have HJr := hide hJ
      have HG := hide hg
      clear hJ hg
      by_cases hlt : i < n
      · have HAr : Hid (SL wr A m c (zs p)) := hide ⟨HA.out.il.kept HG.out HAA.out, HA.out.nil, HA.out.cap⟩
        have HBNr := hide (HBN.out.kept HG.out h1)
        have HBFr := hide (HBF.out.kept HG.out h2)
        have HBEr := hide (HBE.out.kept HG.out h3)
        have HCON := hide (contains_any A m c p i wr HAr.out.il)
        by_cases hip : p.contains i = true
        · have HO := hide (complTo_old (n := n) (k := k) hip)
          have HIP := hide hip
          clear hip
          go_wp2_with fail
          refine HCON.out.mono ?_
          rintro e w1 ⟨rfl, rfl⟩
          rw [HIP.out]
          clear HCON
          go_wp2_with fail
          refine ⟨⟨i + 1, by go_num, by omega, by rw [HO.out]; exact HJr.out, HG.out⟩, ?_⟩
          simp [intOf]
          omega
        · have hip' : p.contains i = false := by simpa using hip
          have HO := hide (complTo_new (n := n) (k := k) hip')
          have HIP := hide hip'
          have HNI : Hid (i ∉ p) := hide (by simpa using hip')
          have HPN2 : Hid ((p ++ [i]).Nodup) := hide (by
            rw [List.nodup_append]
            exact ⟨HPN.out, by simp, fun a ha b hb e => HNI.out (by rw [List.mem_singleton.1 hb] at e; rw [← e]; exact ha)⟩)
          have HPX2 : Hid (∀ x ∈ p ++ [i], x < n) := hide (fun x hx => by
            rcases List.mem_append.1 hx with h | h
            · exact HPX.out x h
            · rw [List.mem_singleton.1 h]; exact hlt)
          have HLI : Hid (lim ((compl n k (p ++ [i])).foldl step ((complTo n k p i).foldl step s))) := hide (by
            rw [← List.foldl_append, ← HO.out]
            obtain ⟨r, hr⟩ := complTo_pre (n := n) (k := k) (p := p) n (show i + 1 ≤ n from hlt)
            have h := HLIM.out
            rw [show compl n (k + 1) p = complTo n k p n from rfl, hr, List.foldl_append] at h
            exact HV.out.lim_fold _ _ h)
          clear hip hip'
          go_wp2_with fail
          refine HCON.out.mono ?_
          rintro e w1 ⟨rfl, rfl⟩
          rw [HIP.out]
          clear HCON
          go_upto_region 6 with fail
          refine wp_region_noPanic ?_
          refine wp_region_held_drew (S := fun w' => wr.grownBy w' (some g)) (by kernel_rfl) ((World.grownBy.refl _ _).trans (grownBy_of_below (Below.refl _ _).drew _)) (fun hS => ?_)
          refine wpAnyH_tk 0 (v := .func (.func 36) #[] #[.pointer (some ⟨bn, 0, none⟩), .pointer (some ⟨bf, 0, none⟩), .pointer (some ⟨be, 0, none⟩)]) rfl (by kernel_rfl) (by kernel_rfl) (by kernel_rfl) (yi rfl fun w' hw' => gives_load1 rfl (by kernel_rfl) rfl (by have h := (HBEr.out.kept hw' h3).cell 0; simpa using h)) hS ?_
          go_frame
          refine wpAnyH_tk 1 (v := .slice A m c) rfl (by kernel_rfl) (by kernel_rfl) (by kernel_rfl) (yi rfl fun w' hw' => gives_move (.inl rfl) rfl) hS ?_
          go_frame
          refine wpAnyH_tk 3 (v := .int .i64 i) rfl (by kernel_rfl) (by kernel_rfl) (by kernel_rfl) (yi rfl fun w' hw' => gives_move (.inl rfl) rfl) hS ?_
          go_frame
          have hbd : Below wr.heap.size wr wr.drew := (Below.refl _ _).drew
          refine wpAnyH_2 2 4 rfl rfl (by kernel_rfl) ?_ ?_
          · refine wp_call [.slice A m c] rfl rfl ePermClone rfl ((clone_any A m c _ _ (HAr.out.il.below hbd) HAr.out.nil).mono ?_)
            rintro e w6 ⟨A6, n6, c6, rfl, ho6, hb6⟩
            have hn6 : n6 = m := by rw [← ho6.len]; exact HAr.out.il.len
            subst hn6
            have hb6' : Below wr.heap.size wr w6 := hbd.trans (hb6.mono hbd.size)
            have ho6' := ho6.mono hbd.size
            refine ⟨_, rfl, grownBy_of_below hb6' _, ?_⟩
            go_frame
            refine wpAnyH_1 4 rfl (by kernel_rfl) ?_
            refine wp_lit_int rfl Try.underlying22 i0 HI0.out HZ0.out HZ1.out (v := (i : Int)) rfl ?_
            have hb7 := hb6'.alloc hb6'.size (.cells #[.int .i64 (i : Int)] 3)
            refine ⟨grownBy_of_below hb7 _, ?_⟩
            go_frame
            refine wpAnyH_1 5 rfl (by kernel_rfl) ?_
            refine wp_append_int _ (.tmp 23) (.tmp 25) 22 rfl wr.heap.size i0 Try.underlying22 HI0.out HZ0.out HZ1.out HZ2.out A6 n6 c6 _ rfl (ho6'.alloc _) (some ⟨w6.heap.size, 0, none⟩) 1 1 [(i : Int)] rfl (IL.lit w6 [(i : Int)] (by simp) rfl rfl) (by omega) hb7.size ?_
            intro A8 c8 w8 hap
            have hb8 : Below wr.heap.size wr w8 := hb7.grown hap.grown hb7.size (fun j hj => (ho6'.lt j (by rw [ownBlock_len A6 n6 (n6 + 1) c6 c6]; exact hj)).1)
            have hown : OwnI w8 wr.heap.size A8 (n6 + 1) c8 (zs (p ++ [i])) := by
              have h := hap.own
              rw [show zs (p ++ [i]) = zs p ++ [(i : Int)] by simp [zs]]
              exact h
            have hA8 : ∀ ad, A8 = some ad → ad.block ≠ g := fun ad he e => by
              have h1 := (hown.lt ad.block (by rw [he]; exact rfl)).1
              have h2 := HV.out.lt _ _ HJr.out
              omega
            have hg8 : wr.grownBy w8 (some g) := grownBy_of_below hb8 _
            refine ⟨hg8, ?_⟩
            go_frame
            refine wpAnyH_1 6 rfl (by kernel_rfl) ?_
            refine wp_callV (cap := [.pointer (some ⟨bn, 0, none⟩), .pointer (some ⟨bf, 0, none⟩), .pointer (some ⟨be, 0, none⟩)]) [.slice A8 (n6 + 1) c8] rfl rfl ePermX rfl ((HIH.out (p ++ [i]) A8 (n6 + 1) c8 _ w8 (HPL2.out i) HPN2.out HPX2.out hown.sl hA8 (HBNr.out.kept hg8 h1) (HBFr.out.kept hg8 h2) (HBEr.out.kept hg8 h3) (HV.out.keep _ _ _ HJr.out hb8) HLI.out).mono ?_)
            rintro e w9 ⟨rfl, hJ9, hg9⟩
            have hg09 := hg8.trans hg9
            refine ⟨_, rfl, hg09, ?_⟩
            go_frame
            refine wpAnyH_done (by kernel_rfl) (noPanic_mk ?_) _
            have HG9 := hide (HG.out.trans hg09)
            have HJ9 : Hid (J ((complTo n k p (i + 1)).foldl step s) w9) := hide (by rw [HO.out, List.foldl_append]; exact hJ9)
            clear hg09 hg9 hJ9 hg8 hb8 hap hown hA8
            go_wp2_with fail
            refine ⟨⟨i + 1, by go_num, by omega, HJ9.out, HG9.out⟩, ?_⟩
            simp [intOf]
            omega
          · refine wp_lit_int rfl Try.underlying22 i0 HI0.out HZ0.out HZ1.out (v := (i : Int)) rfl ?_
            have hb6 : Below wr.heap.size wr (wr.drew.alloc (.cells #[.int .i64 (i : Int)] 3)) := hbd.alloc hbd.size _
            have hlit : IL (wr.drew.alloc (.cells #[.int .i64 (i : Int)] 3)) (some ⟨wr.drew.heap.size, 0, none⟩) 1 [(i : Int)] := IL.lit wr.drew [(i : Int)] (by simp) rfl rfl
            refine ⟨grownBy_of_below hb6 _, ?_⟩
            go_frame
            refine wpAnyH_1 2 rfl (by kernel_rfl) ?_
            refine wp_call [.slice A m c] rfl rfl ePermClone rfl ((clone_any A m c _ _ (HAr.out.il.below hb6) HAr.out.nil).mono ?_)
            rintro e w6 ⟨A6, n6, c6, rfl, ho6, hb7⟩
            have hn6 : n6 = m := by rw [← ho6.len]; exact HAr.out.il.len
            subst hn6
            have hb7' : Below wr.heap.size wr w6 := hb6.trans (hb7.mono hb6.size)
            have ho6' := ho6.mono hb6.size
            refine ⟨_, rfl, grownBy_of_below hb7' _, ?_⟩
            go_frame
            refine wpAnyH_1 5 rfl (by kernel_rfl) ?_
            refine wp_append_int _ (.tmp 23) (.tmp 25) 22 rfl wr.heap.size i0 Try.underlying22 HI0.out HZ0.out HZ1.out HZ2.out A6 n6 c6 _ rfl ho6' (some ⟨wr.drew.heap.size, 0, none⟩) 1 1 [(i : Int)] rfl (hlit.below hb7) (by omega) hb7'.size ?_
            intro A8 c8 w8 hap
            have hb8 : Below wr.heap.size wr w8 := hb7'.grown hap.grown hb7'.size (fun j hj => (ho6'.lt j (by rw [ownBlock_len A6 n6 (n6 + 1) c6 c6]; exact hj)).1)
            have hown : OwnI w8 wr.heap.size A8 (n6 + 1) c8 (zs (p ++ [i])) := by
              have h := hap.own
              rw [show zs (p ++ [i]) = zs p ++ [(i : Int)] by simp [zs]]
              exact h
            have hA8 : ∀ ad, A8 = some ad → ad.block ≠ g := fun ad he e => by
              have h1 := (hown.lt ad.block (by rw [he]; exact rfl)).1
              have h2 := HV.out.lt _ _ HJr.out
              omega
            have hg8 : wr.grownBy w8 (some g) := grownBy_of_below hb8 _
            refine ⟨hg8, ?_⟩
            go_frame
            refine wpAnyH_1 6 rfl (by kernel_rfl) ?_
            refine wp_callV (cap := [.pointer (some ⟨bn, 0, none⟩), .pointer (some ⟨bf, 0, none⟩), .pointer (some ⟨be, 0, none⟩)]) [.slice A8 (n6 + 1) c8] rfl rfl ePermX rfl ((HIH.out (p ++ [i]) A8 (n6 + 1) c8 _ w8 (HPL2.out i) HPN2.out HPX2.out hown.sl hA8 (HBNr.out.kept hg8 h1) (HBFr.out.kept hg8 h2) (HBEr.out.kept hg8 h3) (HV.out.keep _ _ _ HJr.out hb8) HLI.out).mono ?_)
            rintro e w9 ⟨rfl, hJ9, hg9⟩
            have hg09 := hg8.trans hg9
            refine ⟨_, rfl, hg09, ?_⟩
            go_frame
            refine wpAnyH_done (by kernel_rfl) (noPanic_mk ?_) _
            have HG9 := hide (HG.out.trans hg09)
            have HJ9 : Hid (J ((complTo n k p (i + 1)).foldl step s) w9) := hide (by rw [HO.out, List.foldl_append]; exact hJ9)
            clear hg09 hg9 hJ9 hg8 hb8 hap hown hA8
            go_wp2_with fail
            refine ⟨⟨i + 1, by go_num, by omega, HJ9.out, HG9.out⟩, ?_⟩
            simp [intOf]
            omega
      · have hin : i = n := by omega
        have HE : Hid (complTo n k p i = compl n (k + 1) p) := hide (by rw [hin]; exact (compl_succ n k p).symm)
        rw [HE.out] at HJr
        clear HE
        go_wp2_with fail
        go_end0
        exact ⟨rfl, HJr.out, HG.out⟩
set_option maxRecDepth 100000 in
set_option maxHeartbeats 2000000 in
theorem permutationsL_any (V : VisitL Try.prog fid caps g σ J (fun p => p.Perm (List.range n)) lim step) (hfid : ∀ args w, (callFunc fid args).run Try.prog w = .ok (.enter fid args) w) (hn : n ≤ 1000) (s : σ) (w : World) (hJ : J s w) (hlim : lim ((permsN n).foldl step s)) :
    Calls Try.prog 19 #[.int .i64 n, .func (.func fid) #[] caps.toArray] w fun e w' => e = .returned (.tuple #[]) ∧ J ((permsN n).foldl step s) w' ∧ w.grownBy w' (some g) := by
  have hlt := V.lt s w hJ
  have HLIM := hide hlim
  clear hlim
  have hmf : ∀ (fn : Fn) (first cap : Array Value) (w : World), (Instr.makeFunc fn first cap).run Try.prog w = .ok (.func fn first cap) w := fun _ _ _ _ => rfl
  obtain ⟨fv, hfv⟩ : ∃ fv : Value, fv = (.func (.func 36) #[] #[.pointer (some ⟨w.heap.size, 0, none⟩), .pointer (some ⟨w.heap.size + 1, 0, none⟩), .pointer (some ⟨w.heap.size + 1 + 1, 0, none⟩)]) := ⟨_, rfl⟩
  have HB2 : Hid (Blk (((w.alloc (.cells #[.int .i64 n] 3)).alloc (.cells #[.func (.func fid) #[] caps.toArray] 52)).alloc (.cells #[fv] 52)) (w.heap.size + 1 + 1) 52 #[fv]) := hide (by
    have := Blk.new ((w.alloc (.cells #[.int .i64 n] 3)).alloc (.cells #[.func (.func fid) #[] caps.toArray] 52)) 52 #[fv]
    simpa using this)
  have HB1 : Hid (Blk (((w.alloc (.cells #[.int .i64 n] 3)).alloc (.cells #[.func (.func fid) #[] caps.toArray] 52)).alloc (.cells #[fv] 52)) (w.heap.size + 1) 52 #[.func (.func fid) #[] caps.toArray]) := hide (by
    have := (Blk.new (w.alloc (.cells #[.int .i64 n] 3)) 52 #[.func (.func fid) #[] caps.toArray]).alloc (.cells #[fv] 52)
    simpa using this)
  have HB0 : Hid (Blk (((w.alloc (.cells #[.int .i64 n] 3)).alloc (.cells #[.func (.func fid) #[] caps.toArray] 52)).alloc (.cells #[fv] 52)) w.heap.size 3 #[.int .i64 n]) :=
    hide (((Blk.new w 3 #[.int .i64 n]).alloc _).alloc _)
  have hb4 : Below w.heap.size w (((w.alloc (.cells #[.int .i64 n] 3)).alloc (.cells #[.func (.func fid) #[] caps.toArray] 52)).alloc (.cells #[fv] 52)) :=
    (((Below.refl _ _).alloc (Nat.le_refl _) _).alloc (by simp) _).alloc (by simp; omega) _
  have HE := hide (extendL_any V hfid hn w.heap.size (w.heap.size + 1) (w.heap.size + 1 + 1) (by omega) (by omega) (by omega) n [] none 0 0 s)
  have HJ := hide (V.keep _ _ _ hJ hb4)
  have HB4 := hide hb4
  subst hfv
  clear V hJ hb4
  go_enter Try.func19, Try.ntmps19
  go_wp2_with fail
  refine (HE.out _ (by simp) (by simp) (by simp) (SL.nil_ _) (fun ad h => by cases h) HB0.out HB1.out HB2.out HJ.out (by rw [compl_all]; exact HLIM.out)).mono ?_
  rintro e w5 ⟨rfl, hJ5, hg5⟩
  rw [compl_all] at hJ5
  have hg05 := (grownBy_of_below HB4.out (some g)).trans hg5
  clear HE HB0 HB1 HB2 HB4 HJ
  go_wp2_with fail
  go_returns
  exact ⟨rfl, hJ5, hg05⟩
end
end Go.Proofs.Ytgbipfohcailnaa
