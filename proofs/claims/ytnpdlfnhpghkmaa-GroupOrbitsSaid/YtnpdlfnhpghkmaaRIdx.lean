/- timblaw1.GroupOrbits: the function that looks for a list; slices.IndexFunc; lists. -/
import Derived.Test.YtnpdlfnhpghkmaaRJoin
import Derived.Deep.QuietTactic
import Derived.BigQuiet
namespace Go.Proofs.Ytnpdlfnhpghkmaa
open Go.RowKit Go.Maps
set_option linter.unusedVariables false
set_option linter.unusedSimpArgs false

theorem quiet_left {P : Program} {f : FuncId} {args : Array Value} {w : World} {n : Nat} {v : Value}
    (h : Calls P f args (w.drewN n) fun e w' => e = .returned v ∧ w.drewN n = w') : Calls P f args (w.drewN n) fun e w'' => e = .returned v ∧ ∃ m, w'' = w.drewN m :=
  h.mono fun _ _ ⟨he, hm⟩ => ⟨he, n, hm.symm⟩
set_option maxHeartbeats 2000000 in
theorem clos_any (gj gi n m c om oc i : Nat) (A B : Option Addr) (gl : List (List Nat)) (j o : List Nat) (w : World) (hbj : Blk w gj 42 #[.slice A m c]) (hbi : Blk w gi 3 #[.int .i64 i]) (hj : IL w A m (zs j)) (hu : UF n gl j) (ho : IL w B om (zs o)) (hne : o ≠ []) (hh : hd o < n) (hi : i < n) :
    Calls Try.prog 22 #[.slice B om oc, .pointer (some ⟨gj, 0, none⟩), .pointer (some ⟨gi, 0, none⟩)] w fun e w' => ∃ b k, (b = true ↔ Same j (hd o) i) ∧ e = .returned (.bool b) ∧ w' = w.drewN k := by
  obtain ⟨k1, r1, h1, hr1⟩ := hu.tot _ hh
  obtain ⟨k2, r2, h2, hr2⟩ := hu.tot _ hi
  have hol : 0 < om := by
    have := ho.len
    rw [zs_length] at this
    have := List.length_pos_iff.2 hne
    omega
  obtain ⟨ad, rfl, hcl⟩ := ho.at_ hol
  rw [zs_getD] at hcl
  have hcl' : w.cell? ad = some (.int .i64 (hd o : Nat)) := by
    have : ad.add 0 = ad := by unfold Addr.add; simp
    rw [this] at hcl; exact hcl
  have HC1 : Hid (∀ k, Calls Try.prog 23 #[.slice A m c, .int .i64 (hd o : Nat)] (w.drewN k) fun e w' => e = .returned (.int .i64 (r1 : Nat)) ∧ w.drewN k = w') := hide fun k => at_any A n m c gl j _ k1 r1 _ (hj.drewN k) hu hh h1
  have HC2 : Hid (∀ k, Calls Try.prog 23 #[.slice A m c, .int .i64 i] (w.drewN k) fun e w' => e = .returned (.int .i64 (r2 : Nat)) ∧ w.drewN k = w') := hide fun k => at_any A n m c gl j _ k2 r2 _ (hj.drewN k) hu hi h2
  have hcj : w.cell? ⟨gj, 0, none⟩ = some (.slice A m c) := hbj.cell 0
  have hci : w.cell? ⟨gi, 0, none⟩ = some (.int .i64 i) := hbi.cell 0
  have HS : Hid ((r1 = r2) ↔ Same j (hd o) i) := hide ⟨fun e => ⟨k1, k2, r1, h1, by rw [e]; exact h2⟩, fun ⟨_, _, r, h3, h4⟩ => (h1.unique h3).trans (h2.unique h4).symm⟩
  generalize hd o = h at *
  clear hu ho hj hbj hbi h1 h2 hne
  go_enter Try.func22, Try.ntmps22
  go_wp2_with fail
  go_quiet ((first | (go_at_call_of 23 (Value.int .i64 (h : Nat)); exact quiet_left (HC1.out _)) | (go_at_call 23; exact quiet_left (HC2.out _))))
  go_wp2
  go_ret
  refine ⟨_, nq, ?_, rfl, rfl⟩
  rw [← HS.out]
  simp
  omega

theorem ILL.drewN {w : World} {A : Option Addr} {n : Nat} {xss : List (List Int)} (h : ILL w A n xss) (k : Nat) : ILL (w.drewN k) A n xss := h.below (below_drewN (Below.refl _ _) k)
/-- What IndexFunc yields. -/
def IdxR (j : List Nat) (i : Nat) (want : List (List Nat)) (w : World) (e : Ending) (w' : World) : Prop :=
  ∃ k, w' = w.drewN k ∧ ((e = .returned (.int .i64 (-1)) ∧ ∀ o ∈ want, ¬ Same j (hd o) i) ∨ ∃ a : Nat, a < want.length ∧ Same j (hd (want.getD a [])) i ∧ e = .returned (.int .i64 a))
set_option maxHeartbeats 2000000 in
theorem index_func_any (gj gi n m c q d i : Nat) (A W : Option Addr) (gl want : List (List Nat)) (j : List Nat) (w : World) (hbj : Blk w gj 42 #[.slice A m c]) (hbi : Blk w gi 3 #[.int .i64 i]) (hj : IL w A m (zs j)) (hu : UF n gl j) (hW : ILL w W q (zss want)) (hw : ∀ o ∈ want, o ≠ [] ∧ hd o < n) (hi : i < n) :
    Calls Try.prog 21 #[.slice W q d, .func (.func 22) #[] #[.pointer (some ⟨gj, 0, none⟩), .pointer (some ⟨gi, 0, none⟩)]] w (IdxR j i want w) := by
  have hql : want.length = q := by have := hW.len; simpa [zss] using this
  have HQL := hide hql
  have HWW := hide hw
  have HW := hide hW
  have HBJ := hide hbj
  have HBI := hide hbi
  have HJ := hide hj
  have HU := hide hu
  have hqs := hW.small
  have HN : Hid (∀ a, a < 0 → ¬ Same j (hd (want.getD a [])) i) := hide (fun a h => by omega)
  clear hql hw hW hbj hbi hj hu
  go_enter Try.func21, Try.ntmps21
  go_wp2_with fail
  go_loopw [8] (fun iv wr => ∃ a k : Nat, a ≤ q ∧ iv = .int .i64 a ∧ wr = w.drewN k ∧ Hid (∀ b, b < a → ¬ Same j (hd (want.getD b [])) i)) (fun iv _ => q - (intOf iv).toNat)
  case atStart => exact ⟨0, 0, Nat.zero_le _, rfl, rfl, HN.out⟩
  case round =>
    obtain ⟨a, k, ha, rfl, rfl, HA⟩ := hrel
    by_cases hlt : a < q
    · have haw : a < want.length := by rw [HQL.out]; exact hlt
      obtain ⟨ad, B, om, oc, rfl, hcl, hil⟩ := (HW.out.drewN k).at_ hlt
      rw [zss_getD haw] at hil
      have hmem : want.getD a [] ∈ want := getD_mem'' haw
      obtain ⟨hne, hhl⟩ := HWW.out _ hmem
      have HCL := hide (clos_any gj gi n m c om oc i A B gl j _ (w.drewN k) (HBJ.out.drewN k) (HBI.out.drewN k) (HJ.out.drewN k) HU.out hil hne hhl hi)
      clear hil hmem hne hhl
      go_wp2_with fail
      refine HCL.out.mono ?_
      rintro e w2 ⟨b, k2, hb, rfl, rfl⟩
      cases hbc : b with
      | true =>
        have hs := hb.1 hbc
        have HS := hide (And.intro haw hs)
        clear hb hs hbc hcl
        go_wp2
        go_ret
        refine ⟨k + k2, ?_, .inr ⟨a, HS.out.1, HS.out.2, rfl⟩⟩
        first | rfl | rw [World.drewN_drewN]
      | false =>
        have hs : ¬ Same j (hd (want.getD a [])) i := fun h => by have := hb.2 h; rw [hbc] at this; cases this
        have HS : Hid (∀ b, b < a + 1 → ¬ Same j (hd (want.getD b [])) i) := hide (fun b' hb' => by
          by_cases e : b' = a
          · rw [e]; exact hs
          · exact HA.out b' (by omega))
        clear hb hs hbc hcl
        go_wp2
        go_roundw
        case rel => exact ⟨a + 1, k + k2, by omega, by go_num, by first | rfl | rw [World.drewN_drewN], HS.out⟩
        case measure => simp [intOf]; omega
    · have HS : Hid (∀ o ∈ want, ¬ Same j (hd o) i) := hide (fun o ho => by
        obtain ⟨p, hp, rfl⟩ := List.mem_iff_getElem.1 ho
        have := HA.out p (by have := HQL.out; omega)
        rwa [show want.getD p [] = want[p] by simp [List.getD, List.getElem?_eq_getElem hp]] at this)
      go_wp2
      go_ret
      exact ⟨k, rfl, .inl ⟨rfl, HS.out⟩⟩

theorem same_lists (A B : Option Addr) (n m c d : Nat) (xs : List Int) (w : World) (ha : IL w A n xs) (hb : IL w B m xs) :
    Calls Try.prog 50 #[.slice A n c, .slice B m d] w fun e w' => e = .returned (.bool true) ∧ Below w.heap.size w w' := by
  have H := hide (equal_any A B n m c d xs xs w ha hb)
  rw [eqB_true rfl] at H
  clear ha hb
  go_enter Try.func50, Try.ntmps50
  go_wp2_with fail
  refine H.out.mono ?_
  rintro e w1 ⟨rfl, hb⟩
  go_wp2
  go_ret
  exact ⟨rfl, hb⟩
set_option maxHeartbeats 2000000 in
theorem equal_func_same (A B : Option Addr) (n m c d : Nat) (xss : List (List Int)) (w : World) (ha : ILL w A n xss) (hb : ILL w B m xss) :
    Calls Try.prog 49 #[.slice A n c, .slice B m d, .func (.func 50) #[] #[]] w fun e w' => e = .returned (.bool true) ∧ Below w.heap.size w w' := by
  have hnm : n = m := by have h1 := ha.len; have h2 := hb.len; omega
  subst hnm
  have HA := hide ha
  have HB := hide hb
  have hns := ha.small
  have hbb : ((n : Int) != (n : Int)) = false := by simp
  clear ha hb
  go_enter Try.func49, Try.ntmps49
  go_wp2_with fail
  go_loopw [17] (fun iv wr => ∃ i : Nat, i ≤ n ∧ iv = .int .i64 i ∧ Below w.heap.size w wr) (fun iv _ => n - (intOf iv).toNat)
  case atStart => exact ⟨0, Nat.zero_le _, rfl, Below.refl _ _⟩
  case round =>
    obtain ⟨i, hi, rfl, hb⟩ := hrel
    by_cases hlt : i < n
    · obtain ⟨ad, P, pn, pc, rfl, hca, hia⟩ := (HA.out.below hb).at_ hlt
      obtain ⟨bd, Q2, qn, qc, rfl, hcb, hib⟩ := (HB.out.below hb).at_ hlt
      have HC := hide (same_lists P Q2 pn qn pc qc _ wr hia hib)
      clear hia hib
      go_wp2_with fail
      refine HC.out.mono ?_
      rintro e w2 ⟨rfl, hb2⟩
      have hb3 := hb.trans (hb2.mono hb.size)
      clear hb hb2 hca hcb
      go_wp2
      go_roundw
      case rel => exact ⟨i + 1, by omega, by go_num, hb3⟩
      case measure => simp [intOf]; omega
    · go_wp2
      go_ret
      exact ⟨rfl, hb⟩
theorem lists_same (A B : Option Addr) (n m c d : Nat) (xss : List (List Int)) (w : World) (ha : ILL w A n xss) (hb : ILL w B m xss) :
    Calls Try.prog 24 #[.slice A n c, .slice B m d] w fun e w' => e = .returned (.bool true) ∧ Below w.heap.size w w' := by
  have H := hide (equal_func_same A B n m c d xss w ha hb)
  clear ha hb
  go_enter Try.func24, Try.ntmps24
  go_wp2_with fail
  refine H.out.mono ?_
  rintro e w1 ⟨rfl, hb⟩
  go_wp2
  go_ret
  exact ⟨rfl, hb⟩
end Go.Proofs.Ytnpdlfnhpghkmaa
