/- timbref1.Common, Choices. -/
import Derived.Test.YtgjblcfcbohjdaaDoorPermRef
namespace Go.Proofs.YtgjblcfcbohjdaaDoor
set_option linter.unusedVariables false
set_option linter.unusedSimpArgs false
open Go.RowKit

theorem gcd_tmod (a b : Int) : Int.gcd b (a.tmod b) = Int.gcd a b := by
  unfold Int.gcd
  rw [Int.natAbs_tmod, Nat.gcd_comm, ← Nat.gcd_rec, Nat.gcd_comm]
set_option maxRecDepth 100000 in
set_option maxHeartbeats 2000000 in
theorem common_any : ∀ (N : Nat) (a b : Int) (w : World), b.natAbs ≤ N → a.natAbs ≤ 4000000000000000000 → b.natAbs ≤ 4000000000000000000 →
    Calls Tryd.prog 39 #[.int .i64 a, .int .i64 b] w fun e w' => e = .returned (.int .i64 (Int.gcd a b : Nat)) ∧ w = w' := by
  intro N
  induction N with
  | zero =>
    intro a b w hN ha hb
    obtain rfl : b = 0 := by omega
    have hw : IntKind.i64.wrap (-a) = -a := by rw [IntKind.wrap_i64]; omega
    by_cases h : a ≤ 0
    · have HG : Hid ((a.natAbs : Int) = -a) := hide (by omega)
      go_enter Tryd.func39, Tryd.ntmps39
      go_wp2_with fail
      all_goals
        go_ret
        rw [HG.out]
        refine ⟨?_, rfl⟩
        simp
        try omega
    · have HG : Hid ((a.natAbs : Int) = a) := hide (by omega)
      go_enter Tryd.func39, Tryd.ntmps39
      go_wp2_with fail
      all_goals
        go_ret
        rw [HG.out]
        refine ⟨?_, rfl⟩
        simp
        try omega
  | succ N ih =>
    intro a b w hN ha hb
    by_cases h0 : b = 0
    · exact ih a b w (by omega) ha hb
    · have hlt : (a.tmod b).natAbs < b.natAbs := by
        rw [Int.natAbs_tmod]
        exact Nat.mod_lt _ (by omega)
      have HI := hide (ih b (a.tmod b) w (by omega) hb (by omega))
      rw [gcd_tmod] at HI
      have hbe : (b == 0) = false := by simpa using h0
      clear ih
      go_enter Tryd.func39, Tryd.ntmps39
      go_wp2_with fail
      refine HI.out.mono ?_
      rintro e w1 ⟨rfl, rfl⟩
      go_wp2_with fail
      go_ret
      exact ⟨rfl, rfl⟩

/-- The increasing lists that go on from l, r elements longer, of numbers from 'from' to below n. -/
def chs (n : Nat) : Nat → List Nat → Nat → List (List Nat)
  | 0, l, _ => [l]
  | r + 1, l, a => (List.range' a (n - a)).flatMap fun i => chs n r (l ++ [i]) (i + 1)
def chsTo (n r : Nat) (l : List Nat) (a j : Nat) : List (List Nat) := (List.range' a j).flatMap fun i => chs n r (l ++ [i]) (i + 1)
theorem chsTo_succ (n r : Nat) (l : List Nat) (a j : Nat) : chsTo n r l a (j + 1) = chsTo n r l a j ++ chs n r (l ++ [a + j]) (a + j + 1) := by
  unfold chsTo
  rw [List.range'_concat, List.flatMap_append]
  simp
/-- An increasing list of k numbers below n. -/
def Inc (n k : Nat) (p : List Nat) : Prop := Sorted p ∧ p.length = k ∧ ∀ x ∈ p, x < n

theorem eChX : ∀ args w, (callFunc 49 args).run Tryd.prog w = .ok (.enter 49 args) w := enters (fn := Tryd.f49) (by kernel_rfl) (by kernel_rfl) (by kernel_rfl)

section
variable {fid : FuncId} {caps : List Value} {g : Nat} {σ : Type} {J : σ → World → Prop} {step : σ → List Nat → σ} {n K : Nat}
set_option maxRecDepth 100000 in
set_option maxHeartbeats 2000000 in
theorem extend2_any (V : Visit Tryd.prog fid caps g σ J (Inc n K) step) (hfid : ∀ args w, (callFunc fid args).run Tryd.prog w = .ok (.enter fid args) w) (hn : n ≤ 1000) (hK : K ≤ 1000) (bk bf bn be : Nat) (h0 : bk ≠ g) (h1 : bn ≠ g) (h2 : bf ≠ g) (h3 : be ≠ g) :
    ∀ (r : Nat) (p : List Nat) (a : Nat) (A : Option Addr) (m c : Nat) (s : σ) (w : World), p.length + r = K → Sorted p → (∀ x ∈ p, x < n ∧ x < a) → a ≤ 1001 → SL w A m c (zs p) → (∀ ad, A = some ad → ad.block ≠ g) →
      Blk w bk 3 #[.int .i64 K] → Blk w bn 3 #[.int .i64 n] → Blk w bf 53 #[.func (.func fid) #[] caps.toArray] → Blk w be 61 #[.func (.func 49) #[] #[.pointer (some ⟨bk, 0, none⟩), .pointer (some ⟨bf, 0, none⟩), .pointer (some ⟨bn, 0, none⟩), .pointer (some ⟨be, 0, none⟩)]] → J s w →
      Calls Tryd.prog 49 #[.slice A m c, .int .i64 a, .pointer (some ⟨bk, 0, none⟩), .pointer (some ⟨bf, 0, none⟩), .pointer (some ⟨bn, 0, none⟩), .pointer (some ⟨be, 0, none⟩)] w fun e w' => e = .returned (.tuple #[]) ∧ J ((chs n r p a).foldl step s) w' ∧ w.grownBy w' (some g) := by
  intro r
  induction r with
  | zero =>
    intro p a A m c s w hpl hps hpx ha1 ha hA hbk hbn hbf hbe hJ
    have hlen := ha.il.len
    rw [zs_length] at hlen
    obtain rfl : m = K := by omega
    have HC := hide (V.call p A m c s w ha hA ⟨hps, by omega, fun x hx => (hpx x hx).1⟩ hJ)
    have hcn := hbk.cell 0
    have hcf := hbf.cell 0
    simp at hcn hcf
    clear V ha hA hbk hbn hbf hbe hJ hps hpx hpl hlen
    go_enter Tryd.func49, Tryd.ntmps49
    go_wp2_with fail
    refine HC.out.mono ?_
    rintro e w1 ⟨rfl, hJ1, hg1⟩
    go_wp2_with fail
    go_returns
    exact ⟨rfl, hJ1, hg1⟩
  | succ r ih =>
    intro p a A m c s w hpl hps hpx ha1 ha hA hbk hbn hbf hbe hJ
    have hlen := ha.il.len
    rw [zs_length] at hlen
    obtain ⟨i0, hi0, hz0, hz1, hz2⟩ := info_parts int_info
    have HI0 := hide hi0
    have HZ0 := hide hz0
    have HZ1 := hide hz1
    have HZ2 := hide hz2
    have hms := ha.il.small
    have hck := hbk.cell 0
    simp at hck
    have hmn : ((m : Int) == (K : Int)) = false := by simp; omega
    have HIH := hide ih
    have HA := hide ha
    have HAA := hide hA
    have HBK := hide hbk
    have HBN := hide hbn
    have HBF := hide hbf
    have HBE := hide hbe
    have HPS := hide hps
    have HPX := hide hpx
    have HJ := hide hJ
    have HV := hide V
    have hmm : m ≤ K := by omega
    have HPL2 : Hid (∀ i : Nat, (p ++ [i]).length + r = K) := hide (fun i => by rw [List.length_append]; simp; omega)
    clear ih V ha hA hbk hbn hbf hbe hJ hps hpx hpl hlen hi0 hz0 hz1 hz2
    go_enter Tryd.func49, Tryd.ntmps49
    go_wp2_with fail
    go_loopw [8] (fun iv wr => ∃ j : Nat, iv = .int .i64 ((a + j : Nat) : Int) ∧ j ≤ n - a ∧ J ((chsTo n r p a j).foldl step s) wr ∧ w.grownBy wr (some g)) (fun iv _ => n - (intOf iv).toNat)
    case atStart => exact ⟨0, rfl, Nat.zero_le _, HJ.out, World.grownBy.refl _ _⟩
    case round =>
      obtain ⟨j, rfl, hj, hJ, hg⟩ := hrel
      have HJr := hide hJ
      have HG := hide hg
      clear hJ hg
      obtain ⟨i, hi⟩ : ∃ i, a + j = i := ⟨_, rfl⟩
      rw [hi]
      have hcn : wr.cell? ⟨bn, 0, none⟩ = some (.int .i64 n) := by
        have h := (HBN.out.kept HG.out h1).cell 0
        simpa using h
      by_cases hlt : i < n
      · have HAr : Hid (SL wr A m c (zs p)) := hide ⟨HA.out.il.kept HG.out HAA.out, HA.out.nil, HA.out.cap⟩
        have HBKr := hide (HBK.out.kept HG.out h0)
        have HBNr := hide (HBN.out.kept HG.out h1)
        have HBFr := hide (HBF.out.kept HG.out h2)
        have HBEr := hide (HBE.out.kept HG.out h3)
        have HO := hide (chsTo_succ n r p a j)
        rw [hi] at HO
        have HPS2 : Hid (Sorted (p ++ [i])) := hide (List.pairwise_append.2 ⟨HPS.out, by simp, fun x hx y hy => by
          rw [List.mem_singleton.1 hy]
          have := (HPX.out x hx).2
          omega⟩)
        have HPX2 : Hid (∀ x ∈ p ++ [i], x < n ∧ x < i + 1) := hide (fun x hx => by
          rcases List.mem_append.1 hx with h | h
          · have := HPX.out x h; omega
          · rw [List.mem_singleton.1 h]; omega)
        have hi1 : i + 1 ≤ 1001 := by omega
        have hwi : IntKind.i64.wrap ((i : Int) + 1) = ((i + 1 : Nat) : Int) := by rw [IntKind.wrap_i64]; omega
        have HWI := hide hwi
        clear hwi
        go_upto_region 5 with fail
        refine wp_region_noPanic ?_
        refine wp_region_held_drew (S := fun w' => wr.grownBy w' (some g)) (by kernel_rfl) ((World.grownBy.refl _ _).trans (grownBy_of_below (Below.refl _ _).drew _)) (fun hS => ?_)
        refine wpAnyH_tk 0 (v := .func (.func 49) #[] #[.pointer (some ⟨bk, 0, none⟩), .pointer (some ⟨bf, 0, none⟩), .pointer (some ⟨bn, 0, none⟩), .pointer (some ⟨be, 0, none⟩)]) rfl (by kernel_rfl) (by kernel_rfl) (by kernel_rfl) (yi rfl fun w' hw' => gives_load1 rfl (by kernel_rfl) rfl (by have h := (HBEr.out.kept hw' h3).cell 0; simpa using h)) hS ?_
        go_frame
        refine wpAnyH_tk 1 (v := .slice A m c) rfl (by kernel_rfl) (by kernel_rfl) (by kernel_rfl) (yi rfl fun w' hw' => gives_move (.inl rfl) rfl) hS ?_
        go_frame
        refine wpAnyH_tk 3 (v := .int .i64 i) rfl (by kernel_rfl) (by kernel_rfl) (by kernel_rfl) (yi rfl fun w' hw' => gives_move (.inl rfl) rfl) hS ?_
        go_frame
        refine wpAnyH_tk 6 (v := .int .i64 i) rfl (by kernel_rfl) (by kernel_rfl) (by kernel_rfl) (yi rfl fun w' hw' => gives_move (.inl rfl) rfl) hS ?_
        go_frame
        refine wpAnyH_tk 7 (v := .int .i64 ((i + 1 : Nat) : Int)) rfl (by kernel_rfl) (by kernel_rfl) (by kernel_rfl) (yi rfl fun w' hw' => gives_add rfl rfl rfl HWI.out) hS ?_
        go_frame
        have hbd : Below wr.heap.size wr wr.drew := (Below.refl _ _).drew
        refine wpAnyH_2 2 4 rfl rfl (by kernel_rfl) ?_ ?_
        · refine wp_call [.slice A m c] rfl rfl ePermClone rfl ((clone_any A m c _ _ (HAr.out.il.below hbd) HAr.out.nil).mono ?_)
          rintro e w6 ⟨A6, n6, c6, rfl, ho6, hb6⟩
          have hn6 : n6 = m := by rw [← ho6.len]; exact HAr.out.il.len
          subst hn6
          have hb6' : Below wr.heap.size wr w6 := hbd.trans (hb6.mono hbd.size)
          have ho6' := ho6.mono hbd.size
          refine ⟨_, rfl, grownBy_of_below hb6' _, ?_⟩
          go_frame
          refine wpAnyH_1 4 rfl (by kernel_rfl) ?_
          refine wp_lit_int rfl Tryd.underlying28 i0 HI0.out HZ0.out HZ1.out (v := (i : Int)) rfl ?_
          have hb7 := hb6'.alloc hb6'.size (.cells #[.int .i64 (i : Int)] 3)
          refine ⟨grownBy_of_below hb7 _, ?_⟩
          go_frame
          refine wpAnyH_1 5 rfl (by kernel_rfl) ?_
          refine wp_append_int _ (.tmp 24) (.tmp 26) 28 rfl wr.heap.size i0 Tryd.underlying28 HI0.out HZ0.out HZ1.out HZ2.out A6 n6 c6 _ rfl (ho6'.alloc _) (some ⟨w6.heap.size, 0, none⟩) 1 1 [(i : Int)] rfl (IL.lit w6 [(i : Int)] (by simp) rfl rfl) (by omega) hb7.size ?_
          intro A8 c8 w8 hap
          have hb8 : Below wr.heap.size wr w8 := hb7.grown hap.grown hb7.size (fun j hj => (ho6'.lt j (by rw [ownBlock_len A6 n6 (n6 + 1) c6 c6]; exact hj)).1)
          have hown : OwnI w8 wr.heap.size A8 (n6 + 1) c8 (zs (p ++ [i])) := by
            have h := hap.own
            rw [show zs (p ++ [i]) = zs p ++ [(i : Int)] by simp [zs]]
            exact h
          have hA8 : ∀ ad, A8 = some ad → ad.block ≠ g := fun ad he e => by
            have h1 := (hown.lt ad.block (by rw [he]; exact rfl)).1
            have h2 := HV.out.lt _ _ HJr.out
            omega
          have hg8 : wr.grownBy w8 (some g) := grownBy_of_below hb8 _
          refine ⟨hg8, ?_⟩
          go_frame
          refine wpAnyH_1 8 rfl (by kernel_rfl) ?_
          refine wp_callV (cap := [.pointer (some ⟨bk, 0, none⟩), .pointer (some ⟨bf, 0, none⟩), .pointer (some ⟨bn, 0, none⟩), .pointer (some ⟨be, 0, none⟩)]) [.slice A8 (n6 + 1) c8, .int .i64 ((i + 1 : Nat) : Int)] rfl rfl eChX rfl ((HIH.out (p ++ [i]) (i + 1) A8 (n6 + 1) c8 _ w8 (HPL2.out i) HPS2.out HPX2.out hi1 hown.sl hA8 (HBKr.out.kept hg8 h0) (HBNr.out.kept hg8 h1) (HBFr.out.kept hg8 h2) (HBEr.out.kept hg8 h3) (HV.out.keep _ _ _ HJr.out hb8)).mono ?_)
          rintro e w9 ⟨rfl, hJ9, hg9⟩
          have hg09 := hg8.trans hg9
          refine ⟨_, rfl, hg09, ?_⟩
          go_frame
          refine wpAnyH_done (by kernel_rfl) (noPanic_mk ?_) _
          have HG9 := hide (HG.out.trans hg09)
          have HJ9 : Hid (J ((chsTo n r p a (j + 1)).foldl step s) w9) := hide (by rw [HO.out, List.foldl_append]; exact hJ9)
          clear hg09 hg9 hJ9 hg8 hb8 hap hown hA8
          go_wp2_with fail
          refine ⟨⟨j + 1, by rw [show a + (j + 1) = i + 1 by omega]; go_num, by omega, HJ9.out, HG9.out⟩, ?_⟩
          simp [intOf]
          omega
        · refine wp_lit_int rfl Tryd.underlying28 i0 HI0.out HZ0.out HZ1.out (v := (i : Int)) rfl ?_
          have hb6 : Below wr.heap.size wr (wr.drew.alloc (.cells #[.int .i64 (i : Int)] 3)) := hbd.alloc hbd.size _
          have hlit : IL (wr.drew.alloc (.cells #[.int .i64 (i : Int)] 3)) (some ⟨wr.drew.heap.size, 0, none⟩) 1 [(i : Int)] := IL.lit wr.drew [(i : Int)] (by simp) rfl rfl
          refine ⟨grownBy_of_below hb6 _, ?_⟩
          go_frame
          refine wpAnyH_1 2 rfl (by kernel_rfl) ?_
          refine wp_call [.slice A m c] rfl rfl ePermClone rfl ((clone_any A m c _ _ (HAr.out.il.below hb6) HAr.out.nil).mono ?_)
          rintro e w6 ⟨A6, n6, c6, rfl, ho6, hb7⟩
          have hn6 : n6 = m := by rw [← ho6.len]; exact HAr.out.il.len
          subst hn6
          have hb7' : Below wr.heap.size wr w6 := hb6.trans (hb7.mono hb6.size)
          have ho6' := ho6.mono hb6.size
          refine ⟨_, rfl, grownBy_of_below hb7' _, ?_⟩
          go_frame
          refine wpAnyH_1 5 rfl (by kernel_rfl) ?_
          refine wp_append_int _ (.tmp 24) (.tmp 26) 28 rfl wr.heap.size i0 Tryd.underlying28 HI0.out HZ0.out HZ1.out HZ2.out A6 n6 c6 _ rfl ho6' (some ⟨wr.drew.heap.size, 0, none⟩) 1 1 [(i : Int)] rfl (hlit.below hb7) (by omega) hb7'.size ?_
          intro A8 c8 w8 hap
          have hb8 : Below wr.heap.size wr w8 := hb7'.grown hap.grown hb7'.size (fun j hj => (ho6'.lt j (by rw [ownBlock_len A6 n6 (n6 + 1) c6 c6]; exact hj)).1)
          have hown : OwnI w8 wr.heap.size A8 (n6 + 1) c8 (zs (p ++ [i])) := by
            have h := hap.own
            rw [show zs (p ++ [i]) = zs p ++ [(i : Int)] by simp [zs]]
            exact h
          have hA8 : ∀ ad, A8 = some ad → ad.block ≠ g := fun ad he e => by
            have h1 := (hown.lt ad.block (by rw [he]; exact rfl)).1
            have h2 := HV.out.lt _ _ HJr.out
            omega
          have hg8 : wr.grownBy w8 (some g) := grownBy_of_below hb8 _
          refine ⟨hg8, ?_⟩
          go_frame
          refine wpAnyH_1 8 rfl (by kernel_rfl) ?_
          refine wp_callV (cap := [.pointer (some ⟨bk, 0, none⟩), .pointer (some ⟨bf, 0, none⟩), .pointer (some ⟨bn, 0, none⟩), .pointer (some ⟨be, 0, none⟩)]) [.slice A8 (n6 + 1) c8, .int .i64 ((i + 1 : Nat) : Int)] rfl rfl eChX rfl ((HIH.out (p ++ [i]) (i + 1) A8 (n6 + 1) c8 _ w8 (HPL2.out i) HPS2.out HPX2.out hi1 hown.sl hA8 (HBKr.out.kept hg8 h0) (HBNr.out.kept hg8 h1) (HBFr.out.kept hg8 h2) (HBEr.out.kept hg8 h3) (HV.out.keep _ _ _ HJr.out hb8)).mono ?_)
          rintro e w9 ⟨rfl, hJ9, hg9⟩
          have hg09 := hg8.trans hg9
          refine ⟨_, rfl, hg09, ?_⟩
          go_frame
          refine wpAnyH_done (by kernel_rfl) (noPanic_mk ?_) _
          have HG9 := hide (HG.out.trans hg09)
          have HJ9 : Hid (J ((chsTo n r p a (j + 1)).foldl step s) w9) := hide (by rw [HO.out, List.foldl_append]; exact hJ9)
          clear hg09 hg9 hJ9 hg8 hb8 hap hown hA8
          go_wp2_with fail
          refine ⟨⟨j + 1, by rw [show a + (j + 1) = i + 1 by omega]; go_num, by omega, HJ9.out, HG9.out⟩, ?_⟩
          simp [intOf]
          omega
      · have hjn : j = n - a := by omega
        have HE : Hid (chsTo n r p a j = chs n (r + 1) p a) := hide (by rw [hjn]; exact rfl)
        rw [HE.out] at HJr
        clear HE
        go_wp2_with fail
        go_returns
        exact ⟨rfl, HJr.out, HG.out⟩

set_option maxRecDepth 100000 in
set_option maxHeartbeats 2000000 in
theorem choices_any (V : Visit Tryd.prog fid caps g σ J (Inc n K) step) (hfid : ∀ args w, (callFunc fid args).run Tryd.prog w = .ok (.enter fid args) w) (hn : n ≤ 1000) (hK : K ≤ 1000) (s : σ) (w : World) (hJ : J s w) :
    Calls Tryd.prog 36 #[.int .i64 n, .int .i64 K, .func (.func fid) #[] caps.toArray] w fun e w' => e = .returned (.tuple #[]) ∧ J ((chs n K [] 0).foldl step s) w' ∧ w.grownBy w' (some g) := by
  have hlt := V.lt s w hJ
  have hmf : ∀ (fn : Fn) (first cap : Array Value) (w : World), (Instr.makeFunc fn first cap).run Tryd.prog w = .ok (.func fn first cap) w := fun _ _ _ _ => rfl
  obtain ⟨fv, hfv⟩ : ∃ fv : Value, fv = (.func (.func 49) #[] #[.pointer (some ⟨w.heap.size + 1, 0, none⟩), .pointer (some ⟨w.heap.size + 1 + 1, 0, none⟩), .pointer (some ⟨w.heap.size, 0, none⟩), .pointer (some ⟨w.heap.size + 1 + 1 + 1, 0, none⟩)]) := ⟨_, rfl⟩
  obtain ⟨W1, hW1⟩ : ∃ W1, w.alloc (.cells #[.int .i64 n] 3) = W1 := ⟨_, rfl⟩
  obtain ⟨W2, hW2⟩ : ∃ W2, W1.alloc (.cells #[.int .i64 K] 3) = W2 := ⟨_, rfl⟩
  obtain ⟨W3, hW3⟩ : ∃ W3, W2.alloc (.cells #[.func (.func fid) #[] caps.toArray] 53) = W3 := ⟨_, rfl⟩
  have s1 : W1.heap.size = w.heap.size + 1 := by rw [← hW1]; simp
  have s2 : W2.heap.size = w.heap.size + 1 + 1 := by rw [← hW2]; simp [s1]
  have s3 : W3.heap.size = w.heap.size + 1 + 1 + 1 := by rw [← hW3]; simp [s2]
  have b0 : Blk W1 w.heap.size 3 #[.int .i64 n] := by rw [← hW1]; exact Blk.new _ _ _
  have b1 : Blk W2 (w.heap.size + 1) 3 #[.int .i64 K] := by rw [← hW2, ← s1]; exact Blk.new _ _ _
  have b2 : Blk W3 (w.heap.size + 1 + 1) 53 #[.func (.func fid) #[] caps.toArray] := by rw [← hW3, ← s2]; exact Blk.new _ _ _
  have HB3 : Hid (Blk (W3.alloc (.cells #[fv] 61)) (w.heap.size + 1 + 1 + 1) 61 #[fv]) := hide (by rw [← s3]; exact Blk.new _ _ _)
  have HB2 : Hid (Blk (W3.alloc (.cells #[fv] 61)) (w.heap.size + 1 + 1) 53 #[.func (.func fid) #[] caps.toArray]) := hide (b2.alloc _)
  have HB1 : Hid (Blk (W3.alloc (.cells #[fv] 61)) (w.heap.size + 1) 3 #[.int .i64 K]) := hide ((by rw [← hW3]; exact b1.alloc _ : Blk W3 _ _ _).alloc _)
  have HB0 : Hid (Blk (W3.alloc (.cells #[fv] 61)) w.heap.size 3 #[.int .i64 n]) := hide ((by rw [← hW3]; exact (by rw [← hW2]; exact b0.alloc _ : Blk W2 _ _ _).alloc _ : Blk W3 _ _ _).alloc _)
  have hb4 : Below w.heap.size w (W3.alloc (.cells #[fv] 61)) := by
    have h1 : Below w.heap.size w W1 := by rw [← hW1]; exact (Below.refl _ _).alloc (Nat.le_refl _) _
    have h2 : Below w.heap.size w W2 := by rw [← hW2]; exact h1.alloc h1.size _
    have h3 : Below w.heap.size w W3 := by rw [← hW3]; exact h2.alloc h2.size _
    exact h3.alloc h3.size _
  have HE := hide (extend2_any V hfid hn hK (w.heap.size + 1) (w.heap.size + 1 + 1) w.heap.size (w.heap.size + 1 + 1 + 1) (by omega) (by omega) (by omega) (by omega) K [] 0 none 0 0 s)
  have HJ := hide (V.keep _ _ _ hJ hb4)
  have HB4 := hide hb4
  subst hW3
  subst hW2
  subst hW1
  subst hfv
  clear V hJ hb4 b0 b1 b2 s1 s2 s3
  go_enter Tryd.func36, Tryd.ntmps36
  go_wp2_with fail
  refine (HE.out _ (by simp) (by exact List.Pairwise.nil) (by simp) (by omega) (SL.nil_ _) (fun ad h => by cases h) HB1.out HB0.out HB2.out HB3.out HJ.out).mono ?_
  rintro e w5 ⟨rfl, hJ5, hg5⟩
  have hg05 := (grownBy_of_below HB4.out (some g)).trans hg5
  clear HE HB0 HB1 HB2 HB3 HB4 HJ
  go_wp2_with fail
  go_returns
  exact ⟨rfl, hJ5, hg05⟩
end
end Go.Proofs.YtgjblcfcbohjdaaDoor
