/- timbkeep1.permuted and timbkeep1.PermGroup. -/
import Derived.Test.YtpemnhalilefmaaRank
import Derived.Test.YtpemnhalilefmaaMperm
import Derived.Test.YtpemnhalilefmaaEqual
namespace Go.Proofs.Ytpemnhalilefmaa
open Go.RowKit

theorem equal_yes (A B : Option Addr) (n m c d : Nat) (xs ys : List Int) (w : World) (ha : IL w A n xs) (hb : IL w B m ys) (h : xs = ys) :
    Calls Try.prog 20 #[.slice A n c, .slice B m d] w fun e w' => e = .returned (.bool true) ∧ Below w.heap.size w w' := by
  have := equal_any A B n m c d xs ys w ha hb
  rw [eqB_true h] at this
  exact this

instance (a : List Nat) : Decidable (isP a) := by unfold isP; infer_instance

set_option maxHeartbeats 1000000 in
theorem kpermuted_any (w : World) : Calls Try.prog 33 #[] w fun e w' => e = .returned (.bool true) ∧ Below w.heap.size w w' := by
  go_enter Try.func33, Try.ntmps33
  go_wp2_with fail
  have hb0 : Below w.heap.size w ((w.alloc (.cells #[.int .i64 1, .int .i64 2, .int .i64 0] 3)).alloc (.cells #[.int .i64 1, .int .i64 0, .int .i64 2] 3)) := ((Below.refl _ _).alloc (Nat.le_refl _) _).alloc (by simp) _
  have i1 : IL ((w.alloc (.cells #[.int .i64 1, .int .i64 2, .int .i64 0] 3)).alloc (.cells #[.int .i64 1, .int .i64 0, .int .i64 2] 3)) (some ⟨w.heap.size, 0, none⟩) 3 (zs [1, 2, 0]) := (IL.lit w (zs [1, 2, 0]) (by decide) rfl rfl).alloc _
  have i2 : IL ((w.alloc (.cells #[.int .i64 1, .int .i64 2, .int .i64 0] 3)).alloc (.cells #[.int .i64 1, .int .i64 0, .int .i64 2] 3)) (some ⟨w.heap.size + 1, 0, none⟩) 3 (zs [1, 0, 2]) := by
    have := IL.lit (w.alloc (.cells #[.int .i64 1, .int .i64 2, .int .i64 0] 3)) (zs [1, 0, 2]) (cs := #[.int .i64 1, .int .i64 0, .int .i64 2]) (m := 3) (by decide) rfl rfl
    rw [World.size_alloc] at this
    exact this
  refine (compose_ok _ _ _ _ _ _ [1, 2, 0] [1, 0, 2] _ i1 i2 (by decide) (by decide) rfl (by decide)).mono ?_
  rintro e w1 ⟨A1, n1, c1, rfl, hown1, hb1⟩
  have hb01 := hb0.trans (hb1.mono hb0.size)
  have hl1 := hown1.il
  clear hown1 hb0 hb1
  have hsz1 := hb01.size
  go_wp2_with fail
  refine (rank_ok _ 3 3 [2, 0, 1] _ (IL.lit w1 (zs [2, 0, 1]) (by decide) rfl rfl) (by omega) (by decide) (by decide)).mono ?_
  rintro e w2 ⟨rfl, hb2⟩
  have hb02 := (hb01.alloc hsz1 (.cells #[.int .i64 2, .int .i64 0, .int .i64 1] 3)).trans (hb2.mono (by simp; omega))
  have hl2 := (hl1.alloc (.cells #[.int .i64 2, .int .i64 0, .int .i64 1] 3)).below hb2
  clear hl1 hb01 hb2 hsz1
  rw [show rankN [2, 0, 1] = 4 from by decide]
  have hsz2 := hb02.size
  go_wp2_with fail
  refine (equal_yes _ _ _ _ _ _ _ (zs [0, 2, 1]) _ (hl2.alloc _) (IL.lit w2 (zs [0, 2, 1]) (by decide) rfl rfl) (by decide)).mono ?_
  rintro e w3 ⟨rfl, hb3⟩
  go_wp2
  go_ret
  exact ⟨rfl, (hb02.alloc hsz2 _).trans (hb3.mono (by simp; omega))⟩
theorem below_zero {n : Int} {m : Nat} (h0 : 0 < m) : ∃ k : Nat, k < m ∧ n % (m : Int) = (k : Int) := by
  have h1 := Int.emod_nonneg n (show (m : Int) ≠ 0 by omega)
  have h2 := Int.emod_lt_of_pos n (show (0 : Int) < m by omega)
  exact ⟨(n % (m : Int)).toNat, by omega, by omega⟩

/-- M.Perm, whatever the raw numbers. -/
theorem mperm_below (n : Nat) (A : Option Addr) (r c : Nat) (raws : List Int) (w : World) (hr : IL w A r raws) (hn : n ≤ 1000) :
    Calls Try.prog 32 #[.int .i64 n, .slice A r c] w fun e w' => ∃ (a : List Nat) (B : Option Addr) (m d : Nat), e = .returned (.slice B m d) ∧ IL w' B m (zs a) ∧ m ≤ d ∧ isP a ∧ a.length = n ∧ (raws = [] → a = List.range n) ∧ Below w.heap.size w w' :=
  (mperm_any n A r c raws w hr hn).mono fun _ _ ⟨a, h1, h2, h3, B, m, d, he, ho, hb⟩ => ⟨a, B, m, d, he, ho.il, ho.cap, h1, h2, h3, hb⟩

/-- A permutation of degree k. -/
def PN (k : Nat) (a : List Nat) : Prop := isP a ∧ a.length = k
theorem PN.comp {k : Nat} {a b : List Nat} (ha : PN k a) (hb : PN k b) : PN k (comp a b) := ⟨comp_isP ha.1 hb.1 (ha.2.trans hb.2.symm), by rw [comp_length]; exact ha.2⟩
theorem PN.inv {k : Nat} {a : List Nat} (ha : PN k a) : PN k (inv a) := ⟨inv_isP ha.1, by rw [inv_length]; exact ha.2⟩
theorem PN.range (k : Nat) : PN k (List.range k) := ⟨range_isP k, by simp⟩
theorem PN.assoc {k : Nat} {a b c : List Nat} (ha : PN k a) (hb : PN k b) : Go.Proofs.Ytpemnhalilefmaa.comp (Go.Proofs.Ytpemnhalilefmaa.comp a b) c = Go.Proofs.Ytpemnhalilefmaa.comp a (Go.Proofs.Ytpemnhalilefmaa.comp b c) :=
  comp_assoc fun x hx => by have := ha.1.1 x hx; have := ha.2; have := hb.2; omega

/-- The law's compose, of permutations of one degree. -/
theorem kcompose_il (k : Nat) (A B : Option Addr) (n m c d : Nat) (a b : List Nat) (w : World) (ha : IL w A n (zs a)) (hb : IL w B m (zs b)) (pa : PN k a) (pb : PN k b) (hk : k ≤ 9) :
    Calls Try.prog 34 #[.slice A n c, .slice B m d] w fun e w' => ∃ (C : Option Addr) (l f : Nat), e = .returned (.slice C l f) ∧ IL w' C l (zs (comp a b)) ∧ l ≤ f ∧ Below w.heap.size w w' :=
  (kcompose_ok A B n m c d a b w ha hb pa.1 pb.1 (pa.2.trans pb.2.symm) (by rw [pa.2]; exact hk)).mono fun _ _ ⟨C, l, f, he, ho, hb⟩ => ⟨C, l, f, he, ho.il, ho.cap, hb⟩

set_option maxHeartbeats 2000000 in
theorem permGroup_any (n : Int) (A B C : Option Addr) (la lb lc ca cb cc : Nat) (ra rb rc : List Int) (w : World) (ha : IL w A la ra) (hb : IL w B lb rb) (hc : IL w C lc rc) :
    Calls Try.prog 7 #[.int .i64 n, .slice A la ca, .slice B lb cb, .slice C lc cc] w fun e w' => e = .returned (.bool true) ∧ Below w.heap.size w w' := by
  obtain ⟨k, hk, hnk⟩ := below_zero (n := n) (m := 10) (by omega)
  have HM : Hid (∀ w, Calls Try.prog 31 #[.int .i64 n, .int .i64 10] w fun e w' => e = .returned (.int .i64 k) ∧ w = w') := fun w => by
    have := mbelow_any n 10 w (by omega) (by omega)
    rw [hnk] at this
    exact this
  clear hnk
  go_enter Try.func7, Try.ntmps7
  go_wp2_with fail
  refine (HM.out _).mono ?_
  rintro e w0 ⟨rfl, rfl⟩
  go_wp2_with fail
  refine (mperm_below k A la ca ra _ ha (by omega)).mono ?_
  rintro e w1 ⟨x, A1, n1, c1, rfl, hx, -, px, lx, -, hb1⟩
  have hb := hb.below hb1
  have hc := hc.below hb1
  go_wp2_with fail
  refine (mperm_below k B lb cb rb _ hb (by omega)).mono ?_
  rintro e w2 ⟨y, A2, n2, c2, rfl, hy, -, py, ly, -, hb2⟩
  have hc := hc.below hb2
  have hx := hx.below hb2
  have hb02 := hb1.trans (hb2.mono hb1.size)
  clear hb1 hb2
  go_wp2_with fail
  refine (mperm_below k C lc cc rc _ hc (by omega)).mono ?_
  rintro e w3 ⟨z, A3, n3, c3, rfl, hz, -, pz, lz, -, hb3⟩
  have hx := hx.below hb3
  have hy := hy.below hb3
  have hb03 := hb02.trans (hb3.mono hb02.size)
  clear hb02 hb3 hc hb ha
  have HX : Hid (PN k x) := ⟨px, lx⟩
  have HY : Hid (PN k y) := ⟨py, ly⟩
  have HZ : Hid (PN k z) := ⟨pz, lz⟩
  have hk9 : k ≤ 9 := by omega
  clear px py pz lx ly lz
  go_wp2_with fail
  refine (inverse_ok A1 n1 c1 x _ hx HX.out.1 (by rw [HX.out.2]; exact hk9)).mono ?_
  rintro e w4 ⟨A4, n4, c4, rfl, hi, hb4⟩
  have hi := hi.il
  have hx := hx.below hb4
  have hy := hy.below hb4
  have hz := hz.below hb4
  have hb04 := hb03.trans (hb4.mono hb03.size)
  clear hb03 hb4
  go_wp2_with fail
  refine (mperm_below k none 0 0 [] _ (IL.nil_ _) (by omega)).mono ?_
  rintro e w5 ⟨o, A5, n5, c5, rfl, ho, -, -, -, hone, hb5⟩
  have HO := hide (hone rfl)
  clear hone
  have hi := hi.below hb5
  have hx := hx.below hb5
  have hy := hy.below hb5
  have hz := hz.below hb5
  have hb05 := hb04.trans (hb5.mono hb04.size)
  clear hb04 hb5
  go_wp2_with fail
  refine (kpermuted_any _).mono ?_
  rintro e w6 ⟨rfl, hb6⟩
  have hi := hi.below hb6
  have hx := hx.below hb6
  have hy := hy.below hb6
  have hz := hz.below hb6
  have ho := ho.below hb6
  have hb06 := hb05.trans (hb6.mono hb05.size)
  clear hb05 hb6
  go_wp2_with fail
  refine (kcompose_il k _ _ _ _ _ _ _ _ _ hx hy HX.out HY.out hk9).mono ?_
  rintro e w7 ⟨Bp, mp, dp, rfl, hp, -, hq⟩
  have hi := hi.below hq
  have hx := hx.below hq
  have hy := hy.below hq
  have hz := hz.below hq
  have ho := ho.below hq
  have hb07 := hb06.trans (hq.mono hb06.size)
  clear hb06 hq
  go_wp2_with fail
  refine (kcompose_il k _ _ _ _ _ _ _ _ _ hp hz (HX.out.comp HY.out) HZ.out hk9).mono ?_
  rintro e w8 ⟨Bq1, mq1, dq1, rfl, hq1, -, hq⟩
  have hi := hi.below hq
  have hx := hx.below hq
  have hy := hy.below hq
  have hz := hz.below hq
  have ho := ho.below hq
  have hp := hp.below hq
  have hb08 := hb07.trans (hq.mono hb07.size)
  clear hb07 hq
  go_wp2_with fail
  refine (kcompose_il k _ _ _ _ _ _ _ _ _ hy hz HY.out HZ.out hk9).mono ?_
  rintro e w9 ⟨Br, mr, dr, rfl, hr, -, hq⟩
  have hi := hi.below hq
  have hx := hx.below hq
  have hy := hy.below hq
  have hz := hz.below hq
  have ho := ho.below hq
  have hp := hp.below hq
  have hq1 := hq1.below hq
  have hb09 := hb08.trans (hq.mono hb08.size)
  clear hb08 hq
  go_wp2_with fail
  refine (kcompose_il k _ _ _ _ _ _ _ _ _ hx hr HX.out (HY.out.comp HZ.out) hk9).mono ?_
  rintro e w10 ⟨Bs, ms, ds, rfl, hs, -, hq⟩
  have hi := hi.below hq
  have hx := hx.below hq
  have hy := hy.below hq
  have hz := hz.below hq
  have ho := ho.below hq
  have hp := hp.below hq
  have hq1 := hq1.below hq
  have hr := hr.below hq
  have hb010 := hb09.trans (hq.mono hb09.size)
  clear hb09 hq
  go_wp2_with fail
  refine (equal_yes _ _ _ _ _ _ _ _ _ hq1 hs (by rw [HX.out.assoc HY.out])).mono ?_
  rintro e w11 ⟨rfl, hq⟩
  have hi := hi.below hq
  have hx := hx.below hq
  have hy := hy.below hq
  have hz := hz.below hq
  have ho := ho.below hq
  have hp := hp.below hq
  have hq1 := hq1.below hq
  have hr := hr.below hq
  have hs := hs.below hq
  have hb011 := hb010.trans (hq.mono hb010.size)
  clear hb010 hq
  go_wp2_with fail
  refine (kcompose_il k _ _ _ _ _ _ _ _ _ hx hi HX.out HX.out.inv hk9).mono ?_
  rintro e w12 ⟨Bu, mu, du, rfl, hu, -, hq⟩
  have hi := hi.below hq
  have hx := hx.below hq
  have hy := hy.below hq
  have hz := hz.below hq
  have ho := ho.below hq
  have hp := hp.below hq
  have hq1 := hq1.below hq
  have hr := hr.below hq
  have hs := hs.below hq
  have hb012 := hb011.trans (hq.mono hb011.size)
  clear hb011 hq
  go_wp2_with fail
  refine (equal_yes _ _ _ _ _ _ _ _ _ hu ho (by rw [comp_inv HX.out.1, HX.out.2, HO.out])).mono ?_
  rintro e w13 ⟨rfl, hq⟩
  have hi := hi.below hq
  have hx := hx.below hq
  have hy := hy.below hq
  have hz := hz.below hq
  have ho := ho.below hq
  have hp := hp.below hq
  have hq1 := hq1.below hq
  have hr := hr.below hq
  have hs := hs.below hq
  have hu := hu.below hq
  have hb013 := hb012.trans (hq.mono hb012.size)
  clear hb012 hq
  go_wp2_with fail
  refine (kcompose_il k _ _ _ _ _ _ _ _ _ hi hx HX.out.inv HX.out hk9).mono ?_
  rintro e w14 ⟨Bv, mv, dv, rfl, hv, -, hq⟩
  have hi := hi.below hq
  have hx := hx.below hq
  have hy := hy.below hq
  have hz := hz.below hq
  have ho := ho.below hq
  have hp := hp.below hq
  have hq1 := hq1.below hq
  have hr := hr.below hq
  have hs := hs.below hq
  have hu := hu.below hq
  have hb014 := hb013.trans (hq.mono hb013.size)
  clear hb013 hq
  go_wp2_with fail
  refine (equal_yes _ _ _ _ _ _ _ _ _ hv ho (by rw [inv_comp HX.out.1, HX.out.2, HO.out])).mono ?_
  rintro e w15 ⟨rfl, hq⟩
  have hi := hi.below hq
  have hx := hx.below hq
  have hy := hy.below hq
  have hz := hz.below hq
  have ho := ho.below hq
  have hp := hp.below hq
  have hq1 := hq1.below hq
  have hr := hr.below hq
  have hs := hs.below hq
  have hu := hu.below hq
  have hv := hv.below hq
  have hb015 := hb014.trans (hq.mono hb014.size)
  clear hb014 hq
  go_wp2_with fail
  refine (check_any _ _ _ _ _ hi).mono ?_
  rw [HX.out.inv.1.pf (by rw [HX.out.inv.2]; exact hk9)]
  rintro e w16 ⟨rfl, hq⟩
  go_wp2
  go_ret
  exact ⟨rfl, hb015.trans (hq.mono hb015.size)⟩
end Go.Proofs.Ytpemnhalilefmaa
