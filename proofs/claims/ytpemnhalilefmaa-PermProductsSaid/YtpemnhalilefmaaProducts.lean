/- timblaw1.PermProducts. -/
import Derived.Test.YtpemnhalilefmaaTimes
import Derived.Test.YtpemnhalilefmaaChecks
import Derived.Test.YtpemnhalilefmaaPower
import Derived.Test.YtpemnhalilefmaaInv
import Derived.Test.YtpemnhalilefmaaGroup
namespace Go.Proofs.Ytpemnhalilefmaa
open Go.RowKit

theorem compose_il (A B : Option Addr) (n m c d : Nat) (a b : List Nat) (w : World) (ha : IL w A n (zs a)) (hb : IL w B m (zs b)) (pa : isP a) (pb : isP b) (hl : a.length = b.length) (h9 : a.length ≤ 9) :
    Calls Try.prog 14 #[.slice A n c, .slice B m d] w fun e w' => ∃ (C : Option Addr) (l f : Nat), e = .returned (.tuple #[.slice C l f, .int .i64 0]) ∧ IL w' C l (zs (comp a b)) ∧ Below w.heap.size w w' :=
  (compose_ok A B n m c d a b w ha hb pa pb hl h9).mono fun _ _ ⟨C, l, f, he, ho, hb⟩ => ⟨C, l, f, he, ho.il, hb⟩
theorem inverse_il (A : Option Addr) (n c : Nat) (a : List Nat) (w : World) (ha : IL w A n (zs a)) (pa : isP a) (h9 : a.length ≤ 9) :
    Calls Try.prog 15 #[.slice A n c] w fun e w' => ∃ (C : Option Addr) (l f : Nat), e = .returned (.tuple #[.slice C l f, .int .i64 0]) ∧ IL w' C l (zs (inv a)) ∧ Below w.heap.size w w' :=
  (inverse_ok A n c a w ha pa h9).mono fun _ _ ⟨C, l, f, he, ho, hb⟩ => ⟨C, l, f, he, ho.il, hb⟩
theorem power_il' (A : Option Addr) (n c : Nat) (a : List Nat) (k : Int) (w : World) (ha : IL w A n (zs a)) (pa : isP a) (h9 : a.length ≤ 9) :
    Calls Try.prog 16 #[.slice A n c, .int .i64 k] w fun e w' => ∃ (B : Option Addr) (m d : Nat), e = .returned (.tuple #[.slice B m d, .int .i64 0]) ∧ IL w' B m (zs (powZ a k)) ∧ Below w.heap.size w w' :=
  (power_ok A n c a k w ha pa h9).mono fun _ _ ⟨B, m, d, he, ho, hb⟩ => ⟨B, m, d, he, ho.il, hb⟩
theorem back_il (A : Option Addr) (n c : Nat) (a : List Nat) (w : World) (ha : IL w A n (zs a)) (pa : isP a) :
    Calls Try.prog 17 #[.slice A n c] w fun e w' => ∃ (B : Option Addr) (m d : Nat), e = .returned (.slice B m d) ∧ IL w' B m (zs (inv a)) ∧ Below w.heap.size w w' :=
  (back_any A n c a w ha pa).mono fun _ _ ⟨B, m, d, he, ho, hb⟩ => ⟨B, m, d, he, ho.il, hb⟩
theorem times_il (A : Option Addr) (n c : Nat) (a : List Nat) (k : Int) (w : World) (ha : IL w A n (zs a)) (pa : isP a) (h9 : a.length ≤ 9) (hk : (Lit.int .i64 k).wf = true) :
    Calls Try.prog 18 #[.slice A n c, .int .i64 k] w fun e w' => ∃ (B : Option Addr) (m d : Nat), e = .returned (.slice B m d) ∧ IL w' B m (zs (powZ a k)) ∧ Below w.heap.size w w' :=
  (times_ok A n c a k w ha pa h9 (ord_pos pa h9).1 hk).mono fun _ _ ⟨B, m, d, he, ho, hb⟩ => ⟨B, m, d, he, ho.il, hb⟩

theorem after_il2 (A B : Option Addr) (n m c d : Nat) (a b : List Nat) (w : World) (ha : IL w A n (zs a)) (hb : IL w B m (zs b)) (hab : ∀ x ∈ a, x < b.length) :
    Calls Try.prog 19 #[.slice A n c, .slice B m d] w fun e w' => ∃ (C : Option Addr) (l f : Nat), e = .returned (.slice C l f) ∧ IL w' C l (zs (comp a b)) ∧ Below w.heap.size w w' :=
  (after_any A B n m c d a b w ha hb hab).mono fun _ _ ⟨C, l, f, he, ho, hb⟩ => ⟨C, l, f, he, ho.il, hb⟩

set_option maxHeartbeats 4000000 in
theorem products_a (A B : Option Addr) (la lb ca cb : Nat) (k : Int) (w : World) (hk : (Lit.int .i64 k).wf = true) (xs ys : List Int) (ha : IL w A la xs) (hb : IL w B lb ys) (hf : pf xs ≠ 0) :
    Calls Try.prog 4 #[.slice A la ca, .slice B lb cb, .int .i64 k] w fun e w' => e = .returned (.bool true) ∧ Below w.heap.size w w' := by
  have HF := hide hf
  have hfb : (pf xs == 0) = false := by simpa using hf
  have HC : Hid (cfault xs ys = pf xs) := by unfold cfault; rw [if_pos hf]; exact rfl
  have HCN : Hid (cfault xs ys ≠ 0) := by rw [HC.out]; exact hf
  clear hf
  go_enter Try.func4, Try.ntmps4
  have hb0 : Below w.heap.size w w := Below.refl _ _
  have H0 := hide hb0
  clear hb0
  go_wp2_with fail
  refine (compose_err A B la lb ca cb xs ys _ ha hb HCN.out).mono ?_
  rw [HC.out]
  rintro e w1 ⟨rfl, hq⟩
  replace ha := ha.below hq
  replace hb := hb.below hq
  have H1 := hide (H0.out.trans (hq.mono H0.out.size))
  clear hq
  go_wp2_with fail
  refine (inverse_err A la ca xs _ ha HF.out).mono ?_
  rintro e w2 ⟨rfl, hq⟩
  replace ha := ha.below hq
  replace hb := hb.below hq
  have H2 := hide (H1.out.trans (hq.mono H1.out.size))
  clear hq
  go_wp2_with fail
  refine (power_err A la ca xs k _ ha HF.out).mono ?_
  rintro e w3 ⟨rfl, hq⟩
  replace ha := ha.below hq
  replace hb := hb.below hq
  have H3 := hide (H2.out.trans (hq.mono H2.out.size))
  clear hq
  go_wp2_with fail
  refine (fault_any A la ca xs _ ha).mono ?_
  generalize pf xs = f at *
  rintro e w4 ⟨rfl, hq⟩
  replace ha := ha.below hq
  replace hb := hb.below hq
  have H4 := hide (H3.out.trans (hq.mono H3.out.size))
  clear hq
  go_wp2_with fail
  refine (lpermuted_any _).mono ?_
  rintro e w5 ⟨rfl, hq⟩
  replace ha := ha.below hq
  replace hb := hb.below hq
  have H5 := hide (H4.out.trans (hq.mono H4.out.size))
  clear hq
  go_wp2_with fail
  refine (equal_yes none none 0 0 0 0 [] [] _ (IL.nil_ _) (IL.nil_ _) rfl).mono ?_
  rintro e w6 ⟨rfl, hq⟩
  replace ha := ha.below hq
  replace hb := hb.below hq
  have H6 := hide (H5.out.trans (hq.mono H5.out.size))
  clear hq
  go_wp2_with fail
  refine (equal_yes none none 0 0 0 0 [] [] _ (IL.nil_ _) (IL.nil_ _) rfl).mono ?_
  rintro e w7 ⟨rfl, hq⟩
  replace ha := ha.below hq
  replace hb := hb.below hq
  have H7 := hide (H6.out.trans (hq.mono H6.out.size))
  clear hq
  go_wp2_with fail
  refine (equal_yes none none 0 0 0 0 [] [] _ (IL.nil_ _) (IL.nil_ _) rfl).mono ?_
  rintro e w8 ⟨rfl, hq⟩
  replace ha := ha.below hq
  replace hb := hb.below hq
  have H8 := hide (H7.out.trans (hq.mono H7.out.size))
  clear hq
  go_wp2
  go_ret
  exact ⟨rfl, H8.out⟩

set_option maxHeartbeats 4000000 in
theorem products_b (A B : Option Addr) (la lb ca cb : Nat) (k : Int) (w : World) (hk : (Lit.int .i64 k).wf = true) (a : List Nat) (ys : List Int) (ha : IL w A la (zs a)) (hb : IL w B lb ys) (pa : isP a) (h9 : a.length ≤ 9) (hf : pf ys ≠ 0) :
    Calls Try.prog 4 #[.slice A la ca, .slice B lb cb, .int .i64 k] w fun e w' => e = .returned (.bool true) ∧ Below w.heap.size w w' := by
  have HA := hide (pa.pf h9)
  have HP := hide (And.intro pa h9)
  have HF := hide hf
  have HK := hide hk
  have hfb : (pf ys == 0) = false := by simpa using hf
  have HC : Hid (cfault (zs a) ys = pf ys) := by unfold cfault; rw [if_neg (by simp [HA.out]), if_pos hf]; exact rfl
  have HCN : Hid (cfault (zs a) ys ≠ 0) := by rw [HC.out]; exact hf
  clear hf pa h9 hk
  go_enter Try.func4, Try.ntmps4
  have hb0 : Below w.heap.size w w := Below.refl _ _
  have H0 := hide hb0
  clear hb0
  go_wp2_with fail
  refine (compose_err A B la lb ca cb (zs a) ys _ ha hb HCN.out).mono ?_
  rw [HC.out]
  rintro e w1 ⟨rfl, hq⟩
  replace ha := ha.below hq
  replace hb := hb.below hq
  have H1 := hide (H0.out.trans (hq.mono H0.out.size))
  clear hq
  go_wp2_with fail
  refine (inverse_il A la ca a _ ha HP.out.1 HP.out.2).mono ?_
  rintro e w2 ⟨Shi, lhi, fhi, rfl, hi, hq⟩
  replace ha := ha.below hq
  replace hb := hb.below hq
  have H2 := hide (H1.out.trans (hq.mono H1.out.size))
  clear hq
  go_wp2_with fail
  refine (power_il' A la ca a k _ ha HP.out.1 HP.out.2).mono ?_
  rintro e w3 ⟨Shp, lhp, fhp, rfl, hp, hq⟩
  replace ha := ha.below hq
  replace hb := hb.below hq
  replace hi := hi.below hq
  have H3 := hide (H2.out.trans (hq.mono H2.out.size))
  clear hq
  go_wp2_with fail
  refine (fault_any A la ca (zs a) _ ha).mono ?_
  rw [HA.out]
  rintro e w4 ⟨rfl, hq⟩
  replace ha := ha.below hq
  replace hb := hb.below hq
  replace hi := hi.below hq
  replace hp := hp.below hq
  have H4 := hide (H3.out.trans (hq.mono H3.out.size))
  clear hq
  go_wp2_with fail
  refine (fault_any B lb cb ys _ hb).mono ?_
  generalize pf ys = f at *
  rintro e w5 ⟨rfl, hq⟩
  replace ha := ha.below hq
  replace hb := hb.below hq
  replace hi := hi.below hq
  replace hp := hp.below hq
  have H5 := hide (H4.out.trans (hq.mono H4.out.size))
  clear hq
  go_wp2_with fail
  refine (back_il A la ca a _ ha HP.out.1).mono ?_
  rintro e w6 ⟨Shbk, lhbk, fhbk, rfl, hbk, hq⟩
  replace ha := ha.below hq
  replace hb := hb.below hq
  replace hi := hi.below hq
  replace hp := hp.below hq
  have H6 := hide (H5.out.trans (hq.mono H5.out.size))
  clear hq
  go_wp2_with fail
  refine (times_il A la ca a k _ ha HP.out.1 HP.out.2 HK.out).mono ?_
  rintro e w7 ⟨Shtm, lhtm, fhtm, rfl, htm, hq⟩
  replace ha := ha.below hq
  replace hb := hb.below hq
  replace hi := hi.below hq
  replace hp := hp.below hq
  replace hbk := hbk.below hq
  have H7 := hide (H6.out.trans (hq.mono H6.out.size))
  clear hq
  go_wp2_with fail
  refine (lpermuted_any _).mono ?_
  rintro e w8 ⟨rfl, hq⟩
  replace ha := ha.below hq
  replace hb := hb.below hq
  replace hi := hi.below hq
  replace hp := hp.below hq
  replace hbk := hbk.below hq
  replace htm := htm.below hq
  have H8 := hide (H7.out.trans (hq.mono H7.out.size))
  clear hq
  go_wp2_with fail
  refine (equal_yes none none 0 0 0 0 [] [] _ (IL.nil_ _) (IL.nil_ _) rfl).mono ?_
  rintro e w9 ⟨rfl, hq⟩
  replace ha := ha.below hq
  replace hb := hb.below hq
  replace hi := hi.below hq
  replace hp := hp.below hq
  replace hbk := hbk.below hq
  replace htm := htm.below hq
  have H9 := hide (H8.out.trans (hq.mono H8.out.size))
  clear hq
  go_wp2_with fail
  refine (equal_yes _ _ _ _ _ _ _ _ _ hi hbk rfl).mono ?_
  rintro e w10 ⟨rfl, hq⟩
  replace ha := ha.below hq
  replace hb := hb.below hq
  replace hi := hi.below hq
  replace hp := hp.below hq
  replace hbk := hbk.below hq
  replace htm := htm.below hq
  have H10 := hide (H9.out.trans (hq.mono H9.out.size))
  clear hq
  go_wp2_with fail
  refine (equal_yes _ _ _ _ _ _ _ _ _ hp htm rfl).mono ?_
  rintro e w11 ⟨rfl, hq⟩
  replace ha := ha.below hq
  replace hb := hb.below hq
  replace hi := hi.below hq
  replace hp := hp.below hq
  replace hbk := hbk.below hq
  replace htm := htm.below hq
  have H11 := hide (H10.out.trans (hq.mono H10.out.size))
  clear hq
  go_wp2
  go_ret
  exact ⟨rfl, H11.out⟩

set_option maxHeartbeats 4000000 in
theorem products_l (A B : Option Addr) (la lb ca cb : Nat) (k : Int) (w : World) (hk : (Lit.int .i64 k).wf = true) (a b : List Nat) (ha : IL w A la (zs a)) (hb : IL w B lb (zs b)) (pa : isP a) (h9 : a.length ≤ 9) (pb : isP b) (h9b : b.length ≤ 9) (hne : a.length ≠ b.length) :
    Calls Try.prog 4 #[.slice A la ca, .slice B lb cb, .int .i64 k] w fun e w' => e = .returned (.bool true) ∧ Below w.heap.size w w' := by
  have HA := hide (pa.pf h9)
  have HBB := hide (pb.pf h9b)
  have HP := hide (And.intro pa h9)
  have HK := hide hk
  have hla : a.length = la := by have := ha.len; rwa [zs_length] at this
  have hlb : b.length = lb := by have := hb.len; rwa [zs_length] at this
  have HC : Hid (cfault (zs a) (zs b) = 3) := by unfold cfault; rw [if_neg (by simp [HA.out]), if_neg (by simp [HBB.out]), if_pos (by rw [zs_length, zs_length]; exact hne)]; exact rfl
  have HCN : Hid (cfault (zs a) (zs b) ≠ 0) := by rw [HC.out]; exact (by decide : (3 : Int) ≠ 0)
  have hbn : ((la : Int) != (lb : Int)) = true := by simp; omega
  clear hne pa h9 pb h9b hk hla hlb
  go_enter Try.func4, Try.ntmps4
  have hb0 : Below w.heap.size w w := Below.refl _ _
  have H0 := hide hb0
  clear hb0
  go_wp2_with fail
  refine (compose_err A B la lb ca cb (zs a) (zs b) _ ha hb HCN.out).mono ?_
  rw [HC.out]
  rintro e w1 ⟨rfl, hq⟩
  replace ha := ha.below hq
  replace hb := hb.below hq
  have H1 := hide (H0.out.trans (hq.mono H0.out.size))
  clear hq
  go_wp2_with fail
  refine (inverse_il A la ca a _ ha HP.out.1 HP.out.2).mono ?_
  rintro e w2 ⟨Shi, lhi, fhi, rfl, hi, hq⟩
  replace ha := ha.below hq
  replace hb := hb.below hq
  have H2 := hide (H1.out.trans (hq.mono H1.out.size))
  clear hq
  go_wp2_with fail
  refine (power_il' A la ca a k _ ha HP.out.1 HP.out.2).mono ?_
  rintro e w3 ⟨Shp, lhp, fhp, rfl, hp, hq⟩
  replace ha := ha.below hq
  replace hb := hb.below hq
  replace hi := hi.below hq
  have H3 := hide (H2.out.trans (hq.mono H2.out.size))
  clear hq
  go_wp2_with fail
  refine (fault_any A la ca (zs a) _ ha).mono ?_
  rw [HA.out]
  rintro e w4 ⟨rfl, hq⟩
  replace ha := ha.below hq
  replace hb := hb.below hq
  replace hi := hi.below hq
  replace hp := hp.below hq
  have H4 := hide (H3.out.trans (hq.mono H3.out.size))
  clear hq
  go_wp2_with fail
  refine (fault_any B lb cb (zs b) _ hb).mono ?_
  rw [HBB.out]
  rintro e w5 ⟨rfl, hq⟩
  replace ha := ha.below hq
  replace hb := hb.below hq
  replace hi := hi.below hq
  replace hp := hp.below hq
  have H5 := hide (H4.out.trans (hq.mono H4.out.size))
  clear hq
  go_wp2_with fail
  refine (back_il A la ca a _ ha HP.out.1).mono ?_
  rintro e w6 ⟨Shbk, lhbk, fhbk, rfl, hbk, hq⟩
  replace ha := ha.below hq
  replace hb := hb.below hq
  replace hi := hi.below hq
  replace hp := hp.below hq
  have H6 := hide (H5.out.trans (hq.mono H5.out.size))
  clear hq
  go_wp2_with fail
  refine (times_il A la ca a k _ ha HP.out.1 HP.out.2 HK.out).mono ?_
  rintro e w7 ⟨Shtm, lhtm, fhtm, rfl, htm, hq⟩
  replace ha := ha.below hq
  replace hb := hb.below hq
  replace hi := hi.below hq
  replace hp := hp.below hq
  replace hbk := hbk.below hq
  have H7 := hide (H6.out.trans (hq.mono H6.out.size))
  clear hq
  go_wp2_with fail
  refine (lpermuted_any _).mono ?_
  rintro e w8 ⟨rfl, hq⟩
  replace ha := ha.below hq
  replace hb := hb.below hq
  replace hi := hi.below hq
  replace hp := hp.below hq
  replace hbk := hbk.below hq
  replace htm := htm.below hq
  have H8 := hide (H7.out.trans (hq.mono H7.out.size))
  clear hq
  go_wp2_with fail
  refine (equal_yes none none 0 0 0 0 [] [] _ (IL.nil_ _) (IL.nil_ _) rfl).mono ?_
  rintro e w9 ⟨rfl, hq⟩
  replace ha := ha.below hq
  replace hb := hb.below hq
  replace hi := hi.below hq
  replace hp := hp.below hq
  replace hbk := hbk.below hq
  replace htm := htm.below hq
  have H9 := hide (H8.out.trans (hq.mono H8.out.size))
  clear hq
  go_wp2_with fail
  refine (equal_yes _ _ _ _ _ _ _ _ _ hi hbk rfl).mono ?_
  rintro e w10 ⟨rfl, hq⟩
  replace ha := ha.below hq
  replace hb := hb.below hq
  replace hi := hi.below hq
  replace hp := hp.below hq
  replace hbk := hbk.below hq
  replace htm := htm.below hq
  have H10 := hide (H9.out.trans (hq.mono H9.out.size))
  clear hq
  go_wp2_with fail
  refine (equal_yes _ _ _ _ _ _ _ _ _ hp htm rfl).mono ?_
  rintro e w11 ⟨rfl, hq⟩
  replace ha := ha.below hq
  replace hb := hb.below hq
  replace hi := hi.below hq
  replace hp := hp.below hq
  replace hbk := hbk.below hq
  replace htm := htm.below hq
  have H11 := hide (H10.out.trans (hq.mono H10.out.size))
  clear hq
  go_wp2
  go_ret
  exact ⟨rfl, H11.out⟩

set_option maxHeartbeats 4000000 in
theorem products_ok (A B : Option Addr) (la lb ca cb : Nat) (k : Int) (w : World) (hk : (Lit.int .i64 k).wf = true) (a b : List Nat) (ha : IL w A la (zs a)) (hb : IL w B lb (zs b)) (pa : isP a) (h9 : a.length ≤ 9) (pb : isP b) (hl : a.length = b.length) :
    Calls Try.prog 4 #[.slice A la ca, .slice B lb cb, .int .i64 k] w fun e w' => e = .returned (.bool true) ∧ Below w.heap.size w w' := by
  have HA := hide (pa.pf h9)
  have HBB := hide (pb.pf (by omega))
  have HP := hide (And.intro pa h9)
  have HPB := hide (And.intro pb hl)
  have HK := hide hk
  have hll : la = lb := by
    have h1 := ha.len
    have h2 := hb.len
    rw [zs_length] at h1 h2
    omega
  subst hll
  have HAB : Hid (∀ x ∈ a, x < b.length) := fun x hx => by have := pa.1 x hx; omega
  clear pa h9 pb hl hk
  go_enter Try.func4, Try.ntmps4
  have hb0 : Below w.heap.size w w := Below.refl _ _
  have H0 := hide hb0
  clear hb0
  go_wp2_with fail
  refine (compose_il A B la la ca cb a b _ ha hb HP.out.1 HPB.out.1 HPB.out.2 HP.out.2).mono ?_
  rintro e w1 ⟨Shc, lhc, fhc, rfl, hc, hq⟩
  replace ha := ha.below hq
  replace hb := hb.below hq
  have H1 := hide (H0.out.trans (hq.mono H0.out.size))
  clear hq
  go_wp2_with fail
  refine (inverse_il A la ca a _ ha HP.out.1 HP.out.2).mono ?_
  rintro e w2 ⟨Shi, lhi, fhi, rfl, hi, hq⟩
  replace ha := ha.below hq
  replace hb := hb.below hq
  replace hc := hc.below hq
  have H2 := hide (H1.out.trans (hq.mono H1.out.size))
  clear hq
  go_wp2_with fail
  refine (power_il' A la ca a k _ ha HP.out.1 HP.out.2).mono ?_
  rintro e w3 ⟨Shp, lhp, fhp, rfl, hp, hq⟩
  replace ha := ha.below hq
  replace hb := hb.below hq
  replace hc := hc.below hq
  replace hi := hi.below hq
  have H3 := hide (H2.out.trans (hq.mono H2.out.size))
  clear hq
  go_wp2_with fail
  refine (fault_any A la ca (zs a) _ ha).mono ?_
  rw [HA.out]
  rintro e w4 ⟨rfl, hq⟩
  replace ha := ha.below hq
  replace hb := hb.below hq
  replace hc := hc.below hq
  replace hi := hi.below hq
  replace hp := hp.below hq
  have H4 := hide (H3.out.trans (hq.mono H3.out.size))
  clear hq
  go_wp2_with fail
  refine (fault_any B la cb (zs b) _ hb).mono ?_
  rw [HBB.out]
  rintro e w5 ⟨rfl, hq⟩
  replace ha := ha.below hq
  replace hb := hb.below hq
  replace hc := hc.below hq
  replace hi := hi.below hq
  replace hp := hp.below hq
  have H5 := hide (H4.out.trans (hq.mono H4.out.size))
  clear hq
  go_wp2_with fail
  refine (back_il A la ca a _ ha HP.out.1).mono ?_
  rintro e w6 ⟨Shbk, lhbk, fhbk, rfl, hbk, hq⟩
  replace ha := ha.below hq
  replace hb := hb.below hq
  replace hc := hc.below hq
  replace hi := hi.below hq
  replace hp := hp.below hq
  have H6 := hide (H5.out.trans (hq.mono H5.out.size))
  clear hq
  go_wp2_with fail
  refine (times_il A la ca a k _ ha HP.out.1 HP.out.2 HK.out).mono ?_
  rintro e w7 ⟨Shtm, lhtm, fhtm, rfl, htm, hq⟩
  replace ha := ha.below hq
  replace hb := hb.below hq
  replace hc := hc.below hq
  replace hi := hi.below hq
  replace hp := hp.below hq
  replace hbk := hbk.below hq
  have H7 := hide (H6.out.trans (hq.mono H6.out.size))
  clear hq
  go_wp2_with fail
  refine (after_il2 A B la la ca cb a b _ ha hb HAB.out).mono ?_
  rintro e w8 ⟨Shaf, lhaf, fhaf, rfl, haf, hq⟩
  replace ha := ha.below hq
  replace hb := hb.below hq
  replace hc := hc.below hq
  replace hi := hi.below hq
  replace hp := hp.below hq
  replace hbk := hbk.below hq
  replace htm := htm.below hq
  have H8 := hide (H7.out.trans (hq.mono H7.out.size))
  clear hq
  go_wp2_with fail
  refine (lpermuted_any _).mono ?_
  rintro e w9 ⟨rfl, hq⟩
  replace ha := ha.below hq
  replace hb := hb.below hq
  replace hc := hc.below hq
  replace hi := hi.below hq
  replace hp := hp.below hq
  replace hbk := hbk.below hq
  replace htm := htm.below hq
  replace haf := haf.below hq
  have H9 := hide (H8.out.trans (hq.mono H8.out.size))
  clear hq
  go_wp2_with fail
  refine (equal_yes _ _ _ _ _ _ _ _ _ hc haf rfl).mono ?_
  rintro e w10 ⟨rfl, hq⟩
  replace ha := ha.below hq
  replace hb := hb.below hq
  replace hc := hc.below hq
  replace hi := hi.below hq
  replace hp := hp.below hq
  replace hbk := hbk.below hq
  replace htm := htm.below hq
  replace haf := haf.below hq
  have H10 := hide (H9.out.trans (hq.mono H9.out.size))
  clear hq
  go_wp2_with fail
  refine (equal_yes _ _ _ _ _ _ _ _ _ hi hbk rfl).mono ?_
  rintro e w11 ⟨rfl, hq⟩
  replace ha := ha.below hq
  replace hb := hb.below hq
  replace hc := hc.below hq
  replace hi := hi.below hq
  replace hp := hp.below hq
  replace hbk := hbk.below hq
  replace htm := htm.below hq
  replace haf := haf.below hq
  have H11 := hide (H10.out.trans (hq.mono H10.out.size))
  clear hq
  go_wp2_with fail
  refine (equal_yes _ _ _ _ _ _ _ _ _ hp htm rfl).mono ?_
  rintro e w12 ⟨rfl, hq⟩
  replace ha := ha.below hq
  replace hb := hb.below hq
  replace hc := hc.below hq
  replace hi := hi.below hq
  replace hp := hp.below hq
  replace hbk := hbk.below hq
  replace htm := htm.below hq
  replace haf := haf.below hq
  have H12 := hide (H11.out.trans (hq.mono H11.out.size))
  clear hq
  go_wp2
  go_ret
  exact ⟨rfl, H12.out⟩

theorem permProducts_any (A B : Option Addr) (la lb ca cb : Nat) (xs ys : List Int) (k : Int) (w : World) (ha : IL w A la xs) (hb : IL w B lb ys) (hk : (Lit.int .i64 k).wf = true) :
    Calls Try.prog 4 #[.slice A la ca, .slice B lb cb, .int .i64 k] w fun e w' => e = .returned (.bool true) ∧ Below w.heap.size w w' := by
  by_cases h1 : pf xs = 0
  · obtain ⟨h9, a, rfl, pa⟩ := (pf_zero xs).1 h1
    rw [zs_length] at h9
    by_cases h2 : pf ys = 0
    · obtain ⟨h9b, b, rfl, pb⟩ := (pf_zero ys).1 h2
      rw [zs_length] at h9b
      by_cases hl : a.length = b.length
      · exact products_ok A B la lb ca cb k w hk a b ha hb pa h9 pb hl
      · exact products_l A B la lb ca cb k w hk a b ha hb pa h9 pb h9b hl
    · exact products_b A B la lb ca cb k w hk a ys ha hb pa h9 h2
  · exact products_a A B la lb ca cb k w hk xs ys ha hb h1
end Go.Proofs.Ytpemnhalilefmaa
