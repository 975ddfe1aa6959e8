/- Several texts in one. -/
import Derived.Test.YtndgffiihbdppaaPart10
import Derived.Test.YtndgffiihbdppaaPart1
import Derived.Test.YtndgffiihbdppaaBase1
/- Package temperleylieb: isSize, connect, isMatching, pointAround, isPlanar, Check. -/
namespace Go.Proofs.Ytndgffiihbdppaa
set_option linter.unusedVariables false
set_option linter.unusedSimpArgs false
open Go.RowKit

theorem tisSize_any (m : Int) (w : World) (hm : (Lit.int .i64 m).wf = true) : Calls Try.prog 105 #[.int .i64 m] w fun e w' => e = .returned (.bool (decide (1 ≤ m ∧ m ≤ 6))) ∧ w = w' := by
  by_cases h1 : 1 ≤ m
  · have hd1 : decide (1 ≤ m) = true := decide_eq_true h1
    by_cases h2 : m ≤ 6
    · have hd2 : decide (m ≤ 6) = true := decide_eq_true h2
      rw [decide_eq_true (show 1 ≤ m ∧ m ≤ 6 from ⟨h1, h2⟩)]
      go_enter Try.func105, Try.ntmps105
      go_wp2_with fail
      go_ret
      exact ⟨rfl, rfl⟩
    · have hd2 : decide (m ≤ 6) = false := decide_eq_false h2
      rw [decide_eq_false (show ¬ (1 ≤ m ∧ m ≤ 6) from fun h => h2 h.2)]
      go_enter Try.func105, Try.ntmps105
      go_wp2_with fail
      go_ret
      exact ⟨rfl, rfl⟩
  · have hd1 : decide (1 ≤ m) = false := decide_eq_false h1
    rw [decide_eq_false (show ¬ (1 ≤ m ∧ m ≤ 6) from fun h => h1 h.1)]
    go_enter Try.func105, Try.ntmps105
    go_wp2_with fail
    go_ret
    exact ⟨rfl, rfl⟩

set_option maxRecDepth 100000 in
theorem connect_any (g n c base i j : Nat) (xs : List Int) (w : World) (h : OwnI w base (some ⟨g, 0, none⟩) n c xs) (hi : i < n) (hj : j < n) (hn : n ≤ 1000) :
    Calls Try.prog 106 #[.slice (some ⟨g, 0, none⟩) n c, .int .i64 i, .int .i64 j] w fun e w' => e = .returned (.tuple #[]) ∧ w' = (w.setCell ⟨g, i, none⟩ (.int .i64 j)).setCell ⟨g, j, none⟩ (.int .i64 i) := by
  have c1 := h.cell hi
  have f1 := h.frozen i
  have h1 := h.set_ i (j : Int)
  have c2 := h1.cell hj
  have f2 := h1.frozen j
  generalize xs.getD i 0 = y1 at *
  generalize (xs.set i (j : Int)).getD j 0 = y2 at *
  clear h h1
  go_enter Try.func106, Try.ntmps106
  go_wp2_with fail
  go_returns
  exact ⟨rfl, rfl⟩

theorem around_pt (n k : Nat) (w : World) (hn : n ≤ 1000) (hk : k < 2 * n) : Calls Try.prog 120 #[.int .i64 n, .int .i64 k] w fun e w' => e = .returned (.int .i64 (Tl.posF n k : Nat)) ∧ w = w' := by
  obtain ⟨p, hp⟩ : ∃ p, Tl.posF n k = p := ⟨_, rfl⟩
  rw [hp]
  by_cases hkn : k < n
  · have hpk : k = p := by rw [← hp]; unfold Tl.posF; rw [if_pos hkn]
    have hd : decide ((k : Int) < (n : Int)) = true := decide_eq_true (by omega)
    have hdn : decide (k < n) = true := decide_eq_true (by omega)
    subst hpk
    clear hp hkn
    go_enter Try.func120, Try.ntmps120
    go_wp2_with fail
    go_ret
    exact ⟨rfl, rfl⟩
  · obtain ⟨T, hT⟩ : ∃ T, 3 * n = T := ⟨_, rfl⟩
    obtain ⟨T1, hT1⟩ : ∃ T1, T - 1 = T1 := ⟨_, rfl⟩
    have hpT : p = T1 - k := by rw [← hp]; unfold Tl.posF; rw [if_neg hkn, hT, hT1]
    have hd : decide ((k : Int) < (n : Int)) = false := decide_eq_false (by omega)
    have hdn : decide (k < n) = false := decide_eq_false (by omega)
    have hv1 : IntKind.i64.wrap (3 * (n : Int)) = (T : Int) := by rw [IntKind.wrap_i64]; omega
    have hv2 : IntKind.i64.wrap ((T : Int) - 1) = (T1 : Int) := by rw [IntKind.wrap_i64]; omega
    have hv3 : IntKind.i64.wrap ((T1 : Int) - (k : Int)) = (p : Int) := by rw [IntKind.wrap_i64]; omega
    clear hp hkn hT hT1 hpT
    go_enter Try.func120, Try.ntmps120
    go_wp2_with fail
    go_ret
    exact ⟨rfl, rfl⟩

/-- A list of 2 n numbers that connects points in pairs. -/
def Tl.okM (n : Nat) (d : List Int) : Bool := decide (d.length = 2 * n) && !(List.range d.length).any (Tl.bdF n d)
set_option maxRecDepth 100000 in
set_option maxHeartbeats 4000000 in
theorem isMatching_any (n : Nat) (A : Option Addr) (l c : Nat) (d : List Int) (w : World) (ha : IL w A l d) (hn : n ≤ 6) :
    Calls Try.prog 117 #[.int .i64 n, .slice A l c] w fun e w' => e = .returned (.bool (Tl.okM n d)) ∧ w = w' := by
  have HL := hide ha.len
  have hls := ha.small
  have HA := hide ha
  obtain ⟨R, hR⟩ : ∃ R, Tl.okM n d = R := ⟨_, rfl⟩
  have HR := hide hR
  rw [hR]
  clear ha hR
  obtain ⟨N, hN⟩ : ∃ N, 2 * n = N := ⟨_, rfl⟩
  have hw2 : IntKind.i64.wrap (2 * (n : Int)) = (N : Int) := by rw [IntKind.wrap_i64]; omega
  have HF : Hid (R = (decide (l = N) && !(List.range d.length).any (Tl.bdF n d))) := hide (by rw [← HR.out]; unfold Tl.okM; rw [HL.out, hN])
  have HNE := hide hN
  have hN12 : N ≤ 12 := by omega
  clear hN HR
  by_cases h3 : l = N
  case neg =>
    have HE : Hid (R = false) := hide (by rw [HF.out, decide_eq_false h3]; rfl)
    have hne := bne_tt h3
    rw [HE.out]
    clear h3 HF
    go_enter Try.func117, Try.ntmps117
    go_wp2_with fail
    go_ret
    exact ⟨rfl, rfl⟩
  subst h3
  have HF2 : Hid (R = !(List.range d.length).any (Tl.bdF n d)) := hide (by rw [HF.out, decide_eq_true rfl]; rfl)
  have HBD : Hid (∀ i, Tl.bdF n d i = (decide (d.getD i 0 < 0) || decide ((l : Int) ≤ d.getD i 0) || decide (d.getD i 0 = i) || decide (d.getD (d.getD i 0).toNat 0 ≠ i))) := hide (fun i => by unfold Tl.bdF; rw [show (2 * (n : Int)) = (l : Int) by have := HNE.out; omega])
  clear HF
  go_enter Try.func117, Try.ntmps117
  go_wp2_with fail
  go_loop [14] (fun iv => ∃ i : Nat, iv = .int .i64 i ∧ i ≤ l ∧ Hid (∀ j, j < i → Tl.bdF n d j = false)) (fun iv => l - (intOf iv).toNat)
  case atStart => exact ⟨0, rfl, Nat.zero_le _, hide (fun j hj => absurd hj (by omega))⟩
  case round =>
    obtain ⟨i, rfl, hi, HBF⟩ := hrel
    by_cases hli : i < l
    · obtain ⟨ad, rfl, hcl⟩ := HA.out.at_ hli
      have hbi := HBD.out i
      have HYES : Hid (Tl.bdF n d i = true → R = false) := hide (fun h => by rw [HF2.out, Tl.bdF_one (by rw [HL.out]; exact hli) h]; rfl)
      have HNO : Hid (Tl.bdF n d i = false → ∀ j, j < i + 1 → Tl.bdF n d j = false) := hide (fun h j hj => by
        by_cases e : j = i
        · rw [e]; exact h
        · exact HBF.out j (by omega))
      generalize Tl.bdF n d i = bd at *
      by_cases k1 : d.getD i 0 < 0
      · have HE : Hid (R = false) := hide (HYES.out (by rw [hbi, decide_eq_true k1]; rfl))
        have kd1 := decide_eq_true k1
        generalize d.getD i 0 = x at *
        clear hbi k1
        go_wp2_with fail
        go_ret
        rw [HE.out]
        exact ⟨rfl, rfl⟩
      have kd1 := decide_eq_false k1
      by_cases k2 : (l : Int) ≤ d.getD i 0
      · have HE : Hid (R = false) := hide (HYES.out (by rw [hbi, decide_eq_true k2]; simp))
        have kd2 := decide_eq_true k2
        generalize d.getD i 0 = x at *
        clear hbi k1 k2
        go_wp2_with fail
        go_ret
        rw [HE.out]
        exact ⟨rfl, rfl⟩
      have kd2 := decide_eq_false k2
      obtain ⟨u, hu⟩ : ∃ u : Nat, d.getD i 0 = (u : Int) := ⟨(d.getD i 0).toNat, by omega⟩
      rw [hu] at hcl hbi kd1 kd2 k1 k2
      rw [Int.toNat_natCast, kd1, kd2] at hbi
      have hul : u < l := by omega
      clear hu k1 k2
      by_cases k3 : u = i
      · have HE : Hid (R = false) := hide (HYES.out (by rw [hbi, decide_eq_true (show (u : Int) = (i : Int) by rw [k3])]; simp))
        have kd3 := beq_tt k3
        clear hbi k3
        go_wp2_with fail
        go_ret
        rw [HE.out]
        exact ⟨rfl, rfl⟩
      have kd3 := beq_ff k3
      rw [decide_eq_false (show ¬ (u : Int) = (i : Int) by omega)] at hbi
      obtain ⟨ad2, e2, hcu⟩ := HA.out.at_ hul
      injection e2 with e2
      subst e2
      by_cases k4 : d.getD u 0 = (i : Int)
      · have HN1 := hide (HNO.out (by rw [hbi, decide_eq_false (fun h => h k4)]; rfl))
        rw [k4] at hcu
        have kd4 : ((i : Int) != (i : Int)) = false := by simp
        clear hbi k3 k4 HYES HNO
        go_wp2_with fail
        go_round
        case rel => exact ⟨i + 1, by go_num, by omega, HN1⟩
        case measure => simp [intOf]; omega
      · have HE : Hid (R = false) := hide (HYES.out (by rw [hbi, decide_eq_true k4]; simp))
        have kd4 : (d.getD u 0 != (i : Int)) = true := by simpa using k4
        generalize d.getD u 0 = z at *
        clear hbi k3 k4
        go_wp2_with fail
        go_ret
        rw [HE.out]
        exact ⟨rfl, rfl⟩
    · have HE : Hid (R = true) := hide (by
        rw [HF2.out, Tl.bdF_all (fun j hj => HBF.out j (by rw [HL.out] at hj; omega))]
        rfl)
      clear HF2 HBF HBD
      go_wp2_with fail
      go_ret
      rw [HE.out]
      exact ⟨rfl, rfl⟩

/-- One step of the walk around the points: those that are not connected do not matter. -/
def Tl.stG (d : List Int) (st : List Int) (p : Nat) : List Int := if d.getD p 0 = -1 then st else Tl.stF d st p
def Tl.stsG (n : Nat) (d : List Int) (k : Nat) : List Int := (List.range k).foldl (fun st i => Tl.stG d st (Tl.posF n i)) []
theorem Tl.stsG_succ (n : Nat) (d : List Int) (k : Nat) : Tl.stsG n d (k + 1) = Tl.stG d (Tl.stsG n d k) (Tl.posF n k) := by unfold Tl.stsG; rw [List.range_succ, List.foldl_append]; rfl
theorem Tl.stsG_eq {n : Nat} {d : List Int} (hd : ∀ i, i < 2 * n → 0 ≤ d.getD i 0) : ∀ k, k ≤ 2 * n → Tl.stsG n d k = Tl.stsF n d k
  | 0, _ => rfl
  | k + 1, h => by
    rw [Tl.stsG_succ, Tl.stsF_succ, Tl.stsG_eq hd k (by omega)]
    unfold Tl.stG
    have hp : Tl.posF n k < 2 * n := by unfold Tl.posF; split <;> omega
    have := hd _ hp
    rw [if_neg (by omega)]
def Tl.plG (n : Nat) (d : List Int) : Bool := decide (Tl.stsG n d (2 * n) = [])
set_option maxRecDepth 100000 in
set_option maxHeartbeats 8000000 in
theorem isPlanar_any (n : Nat) (A : Option Addr) (l c : Nat) (d : List Int) (w : World) (ha : IL w A l d) (hn1 : 1 ≤ n) (hn6 : n ≤ 6) (hl : l = 2 * n) :
    Calls Try.prog 118 #[.int .i64 n, .slice A l c] w fun e w' => e = .returned (.bool (Tl.plG n d)) ∧ Below w.heap.size w w' := by
  have HL := hide ha.len
  have HA := hide ha
  have HNE := hide hl
  obtain ⟨R, hR⟩ : ∃ R, Tl.plG n d = R := ⟨_, rfl⟩
  have HF3 : Hid (R = decide (Tl.stsG n d l = [])) := hide (by rw [← hR, hl]; rfl)
  rw [hR]
  have hl12 : l ≤ 12 := by omega
  have hl0 : 0 < l := by omega
  obtain ⟨i0, hi0, hz0, hz1, hz2⟩ := info_parts int_info
  have HI0 := hide hi0
  have HZ0 := hide hz0
  have HZ1 := hide hz1
  have HZ2 := hide hz2
  have HP := hide (fun (k : Nat) (hk : k < l) (w' : World) => around_pt n k w' (by omega) (by omega))
  clear hi0 hz0 hz1 hz2 hR ha hl
  go_enter Try.func118, Try.ntmps118
  go_wp2_with fail
  go_loopw [5, 11] (fun sv iv wr => ∃ (k q c2 : Nat) (S : Option Addr), sv = .slice S q c2 ∧ iv = .int .i64 k ∧ k ≤ l ∧ q ≤ k ∧ Hid (OwnI wr w.heap.size S q c2 (Tl.stsG n d k)) ∧ Hid (Below w.heap.size w wr)) (fun _ iv _ => l - (intOf iv).toNat)
  case atStart => exact ⟨0, 0, 0, none, rfl, rfl, Nat.zero_le _, Nat.le_refl _, hide (OwnI.nil_ _ _), hide (Below.refl _ _)⟩
  case round =>
    obtain ⟨k, q, c2, S, rfl, rfl, hk, hqk, HO, HB⟩ := hrel
    by_cases hlt : k < l
    · have HST := hide (Tl.stsG_succ n d k)
      have hll := HO.out.len
      have HPK := hide (HP.out k hlt wr)
      obtain ⟨p, hp⟩ : ∃ p, Tl.posF n k = p := ⟨_, rfl⟩
      rw [hp] at HST HPK
      have hpl : p < l := by
        have := HNE.out
        rw [← hp]
        unfold Tl.posF
        split <;> omega
      obtain ⟨ad, rfl, hcp⟩ := (HA.out.below HB.out).at_ hpl
      obtain ⟨L, hL⟩ : ∃ L, Tl.stsG n d k = L := ⟨_, rfl⟩
      obtain ⟨L2, hL2⟩ : ∃ L, Tl.stsG n d (k + 1) = L := ⟨_, rfl⟩
      have HL2 := hide hL2
      rw [hL] at HO HST hll
      rw [hL2] at HST
      unfold Tl.stG Tl.stF at HST
      rw [hll] at HST
      generalize hy : d.getD p 0 = y at *
      clear hL hL2 hy hp
      go_wp2_with fail
      refine HPK.out.mono ?_
      rintro e w1 ⟨rfl, hww⟩
      subst hww
      clear HPK
      by_cases hy1 : y = -1
      · have HS : Hid (L2 = L) := hide (by rw [HST.out, if_pos hy1])
        subst hy1
        clear HST hll
        go_wp2_with fail
        go_roundw
        case rel => exact ⟨k + 1, q, c2, S, rfl, by go_num, by omega, by omega, by rw [HL2.out, HS.out]; exact HO, HB⟩
        case measure => simp [intOf]; omega
      have hyb : (y == -1) = false := by simpa using hy1
      have HST2 : Hid (L2 = if 0 < q ∧ L.getD (q - 1) 0 = y then L.take (q - 1) else L ++ [(p : Int)]) := hide (by rw [HST.out, if_neg hy1])
      clear HST hy1
      by_cases hq0 : q = 0
      · have HS : Hid (L2 = L ++ [(p : Int)]) := hide (by rw [HST2.out, if_neg (fun h => absurd h.1 (by omega))])
        have hv : IntKind.i64.wrap ((q : Int) - 1) = -1 := by rw [IntKind.wrap_i64]; omega
        clear HST2 hq0 hll
        first
        | (
          go_upto_region 8 with fail
          go_quiet (fail)
          go_wp2_with (at_builtin; refine wpList_append_int _ rfl (.tmp 41) (.tmp 43) 22 rfl w.heap.size i0 Try.underlying22 HI0.out HZ0.out HZ1.out HZ2.out S q c2 L rfl ((HO.out.drewN _).alloc _) (some ⟨_, 0, none⟩) 1 1 [(p : Int)] rfl (IL.lit _ [(p : Int)] (by simp) rfl rfl) (by omega) (by have := HB.out.size; simp; omega) ?_; intro A8 c8 w8 hap)
          have hN := hap.own
          rw [← HS.out] at hN
          have HN := hide hN
          have HB8 := hide (((below_drewN HB.out nq).alloc (by have := HB.out.size; exact this) (.cells #[.int .i64 (p : Int)] 3)).grown hap.grown (by have := HB.out.size; simp; omega) (fun j hj => (HO.out.lt j (by rw [ownBlock_len S q (q + 1) c2 c2]; exact hj)).1))
          clear hap hN
          go_roundw
          case rel => exact ⟨k + 1, q + 1, c8, A8, by go_num, by go_num, by omega, by omega, by rw [HL2.out]; exact HN, HB8⟩
          case measure => simp [intOf]; omega)
      · obtain ⟨g, rfl, hg1, hg2⟩ := HO.out.form (by omega)
        obtain ⟨r, hr⟩ : ∃ r, q - 1 = r := ⟨_, rfl⟩
        have hrq : r < q := by omega
        have hv : IntKind.i64.wrap ((q : Int) - 1) = (r : Int) := by rw [IntKind.wrap_i64]; omega
        have hcap := HO.out.cap
        have hrc : (r : Int) ≤ (c2 : Int) := by omega
        have hrc2 : r ≤ c2 := by omega
        have hcs := HO.out.cell hrq
        have hge0 : decide ((0 : Int) ≤ (r : Int)) = true := decide_eq_true (by omega)
        rw [hr] at HST2
        have HSH : Hid (OwnI wr w.heap.size (some ⟨g, 0, none⟩) r c2 (L.take r)) := hide (HO.out.shrink (by omega) (by omega))
        by_cases hz : L.getD r 0 = y
        · have HS : Hid (L2 = L.take r) := hide (by rw [HST2.out, if_pos ⟨by omega, hz⟩])
          rw [← HS.out] at HSH
          rw [hz] at hcs
          have hzz : (y == y) = true := by simp
          clear HST2 hz hll hr hq0
          first
          | (
            go_upto_region 8 with fail
            go_quiet (fail)
            go_wp2_with fail
            go_roundw
            case rel => exact ⟨k + 1, r, c2, _, rfl, by go_num, by omega, by omega, by rw [HL2.out]; exact hide (HSH.out.drewN _), hide (below_drewN HB.out _)⟩
            case measure => simp [intOf]; omega)
        · have HS : Hid (L2 = L ++ [(p : Int)]) := hide (by rw [HST2.out, if_neg (fun h => hz h.2)])
          have hzz : (L.getD r 0 == y) = false := by simpa using hz
          generalize L.getD r 0 = z at *
          clear HST2 hz hll hr hq0
          first
          | (
            go_upto_region 8 with fail
            go_quiet (fail)
            go_wp2_with (at_builtin; refine wpList_append_int _ rfl (.tmp 41) (.tmp 43) 22 rfl w.heap.size i0 Try.underlying22 HI0.out HZ0.out HZ1.out HZ2.out (some ⟨g, 0, none⟩) q c2 L rfl ((HO.out.drewN _).alloc _) (some ⟨_, 0, none⟩) 1 1 [(p : Int)] rfl (IL.lit _ [(p : Int)] (by simp) rfl rfl) (by omega) (by have := HB.out.size; simp; omega) ?_; intro A8 c8 w8 hap)
            have hN := hap.own
            rw [← HS.out] at hN
            have HN := hide hN
            have HB8 := hide (((below_drewN HB.out nq).alloc (by have := HB.out.size; exact this) (.cells #[.int .i64 (p : Int)] 3)).grown hap.grown (by have := HB.out.size; simp; omega) (fun j hj => (HO.out.lt j (by rw [ownBlock_len (some ⟨g, 0, none⟩) q (q + 1) c2 c2]; exact hj)).1))
            clear hap hN
            go_roundw
            case rel => exact ⟨k + 1, q + 1, c8, A8, by go_num, by go_num, by omega, by omega, by rw [HL2.out]; exact HN, HB8⟩
            case measure => simp [intOf]; omega)
    · have hkl : k = l := by omega
      have HE : Hid (R = decide (q = 0)) := hide (by
        rw [HF3.out, ← hkl]
        have hll := HO.out.len
        by_cases h0 : 0 < q
        · rw [decide_eq_false (show ¬ q = 0 by omega), decide_eq_false]
          intro e
          rw [e] at hll
          simp at hll
          omega
        · rw [decide_eq_true (show q = 0 by omega), decide_eq_true]
          exact List.eq_nil_of_length_eq_zero (by omega))
      clear hkl HO
      by_cases h0 : q = 0
      · have hd0 : ((q : Int) == 0) = true := by simpa using h0
        have HE2 : Hid (R = true) := hide (by rw [HE.out, decide_eq_true h0])
        clear h0 HE HF3 HP
        go_wp2_with fail
        go_ret
        rw [HE2.out]
        exact ⟨rfl, HB.out⟩
      · have hd0 : ((q : Int) == 0) = false := by simpa using h0
        have HE2 : Hid (R = false) := hide (by rw [HE.out, decide_eq_false h0])
        clear h0 HE HF3 HP
        go_wp2_with fail
        go_ret
        rw [HE2.out]
        exact ⟨rfl, HB.out⟩

set_option maxRecDepth 100000 in
set_option maxHeartbeats 4000000 in
theorem tcheck_any (m : Int) (A : Option Addr) (n c : Nat) (d : List Int) (w : World) (ha : SL w A n c d) (hm : (Lit.int .i64 m).wf = true) :
    Calls Try.prog 107 #[.int .i64 m, .slice A n c] w fun e w' => e = .returned (.int .i64 (Tl.mtF m d)) ∧ Below w.heap.size w w' := by
  obtain ⟨R, hR⟩ : ∃ R, Tl.mtF m d = R := ⟨_, rfl⟩
  rw [hR]
  have HS := hide (tisSize_any m w hm)
  by_cases h1 : 1 ≤ m ∧ m ≤ 6
  case neg =>
    have HE : Hid (R = 1) := hide (by rw [← hR]; unfold Tl.mtF; rw [if_pos (by omega)])
    rw [decide_eq_false h1] at HS
    clear hR h1 hm
    go_enter Try.func107, Try.ntmps107
    go_wp2_with fail
    refine HS.out.mono ?_
    rintro e w1 ⟨rfl, hww⟩
    subst hww
    go_wp2_with fail
    go_ret
    rw [HE.out]
    exact ⟨rfl, Below.refl _ _⟩
  obtain ⟨k, rfl⟩ : ∃ k : Nat, m = (k : Int) := ⟨m.toNat, by omega⟩
  have HM := hide (isMatching_any k A n c d w ha.il (by omega))
  obtain ⟨B, hB⟩ : ∃ B, Tl.okM k d = B := ⟨_, rfl⟩
  rw [hB] at HM
  rw [decide_eq_true h1] at HS
  have hlen := ha.il.len
  cases B with
  | false =>
    have HE : Hid (R = 3) := hide (by
      rw [← hR]
      unfold Tl.mtF
      rw [if_neg (by omega), Int.toNat_natCast]
      unfold Tl.okM at hB
      by_cases h2 : d.length = 2 * k
      · rw [if_neg (fun h => h h2), if_pos]
        rw [decide_eq_true h2] at hB
        simpa using hB
      · rw [if_pos h2])
    clear hR h1 hm hB hlen
    go_enter Try.func107, Try.ntmps107
    go_wp2_with fail
    refine HS.out.mono ?_
    rintro e w1 ⟨rfl, hww⟩
    subst hww
    go_wp2_with fail
    refine HM.out.mono ?_
    rintro e w1 ⟨rfl, hww⟩
    subst hww
    go_wp2_with fail
    go_ret
    rw [HE.out]
    exact ⟨rfl, Below.refl _ _⟩
  | true =>
    have hB2 : d.length = 2 * k ∧ (List.range d.length).any (Tl.bdF k d) = false := by
      unfold Tl.okM at hB
      rw [Bool.and_eq_true, decide_eq_true_eq] at hB
      exact ⟨hB.1, by simpa using hB.2⟩
    have HPL := hide (isPlanar_any k A n c d w ha.il (by omega) (by omega) (by omega))
    have HE : Hid (R = if Tl.plG k d = true then 0 else 3) := hide (by
      rw [← hR]
      unfold Tl.mtF Tl.plG
      rw [if_neg (by omega), Int.toNat_natCast, if_neg (fun h => h hB2.1), if_neg (by rw [hB2.2]; simp), Tl.stsG_eq (fun i hi => ?_) _ (Nat.le_refl _)]
      · by_cases e : Tl.stsF k d (2 * k) = []
        · rw [if_neg (fun h => h e), if_pos (decide_eq_true e)]
        · rw [if_pos e, if_neg (by simpa using e)]
      · have h4 := hB2.2
        rw [List.any_eq_false] at h4
        have h5 := h4 i (List.mem_range.2 (by omega))
        unfold Tl.bdF at h5
        simp only [Bool.or_eq_true, decide_eq_true_eq, not_or] at h5
        omega)
    generalize Tl.plG k d = P at *
    clear hR h1 hm hB hlen hB2
    go_enter Try.func107, Try.ntmps107
    go_wp2_with fail
    refine HS.out.mono ?_
    rintro e w1 ⟨rfl, hww⟩
    subst hww
    go_wp2_with fail
    refine HM.out.mono ?_
    rintro e w1 ⟨rfl, hww⟩
    subst hww
    go_wp2_with fail
    refine HPL.out.mono ?_
    rintro e w2 ⟨rfl, hb⟩
    cases P with
    | true =>
      go_wp2_with fail
      go_ret
      rw [show R = 0 by rw [HE.out]; simp]
      exact ⟨rfl, hb⟩
    | false =>
      go_wp2_with fail
      go_ret
      rw [show R = 3 by rw [HE.out]; simp]
      exact ⟨rfl, hb⟩
end Go.Proofs.Ytndgffiihbdppaa
/- Reading slices of anything within a set of blocks; slices that the call builds item by item. -/
namespace Go.Proofs.Ytndgffiihbdppaa
set_option linter.unusedVariables false
set_option linter.unusedSimpArgs false
open Go.RowKit

/-- The blocks of K are as they were. -/
def SameK (K : Nat → Prop) (w w' : World) : Prop := ∀ b, K b → w'.heap[b]? = w.heap[b]?
theorem SameK.cell {K : Nat → Prop} {w w' : World} (h : SameK K w w') {a : Addr} (ha : K a.block) : w'.cell? a = w.cell? a := World.cell?_of_block (w := w) (h a.block ha)
theorem SameK.below {B : Nat} {w w' : World} (h : Below B w w') : SameK (fun b => b < B) w w' := fun b hb => h.block b hb
theorem SameK.grown {w w' : World} {row : Option Nat} (h : w.grownBy w' row) : SameK (fun b => b < w.heap.size ∧ row ≠ some b) w w' := fun b hb => h.block b hb.1 (fun e => hb.2 e.symm)
theorem SameK.mono {K K' : Nat → Prop} {w w' : World} (h : SameK K w w') (hk : ∀ b, K' b → K b) : SameK K' w w' := fun b hb => h b (hk b hb)
/-- A reading of an item out of its cells: it looks at blocks of K alone. -/
abbrev RdI (α : Type) := (Nat → Prop) → World → List Value → α → Prop
structure RdOk {α : Type} (Q : RdI α) : Prop where
  keep : ∀ {K : Nat → Prop} {w w' : World} {us : List Value} {y : α}, SameK K w w' → w.heap.size ≤ w'.heap.size → Q K w us y → Q K w' us y
  mono : ∀ {K K' : Nat → Prop} {w : World} {us : List Value} {y : α}, (∀ b, b < w.heap.size → K b → K' b) → Q K w us y → Q K' w us y

/-- A slice that reads as ys; each item takes sz cells. -/
structure RdS {α : Type} (Q : RdI α) (sz : Nat) (K : Nat → Prop) (w : World) (A : Option Addr) (n c : Nat) (ys : List α) : Prop where
  len : ys.length = n
  small : n ≤ 17592186044416
  nil : A = none → n = 0 ∧ c = 0
  cap : n ≤ c
  mem : 0 < n → ∃ ad, A = some ad ∧ ad.block < w.heap.size ∧ K ad.block ∧ ∀ j (hj : j < ys.length), ∃ us : List Value, us.length = sz ∧ w.cell? (ad.add (j * sz)) = us[0]? ∧ (∀ i, i < sz → w.cell? ⟨(ad.add (j * sz)).block, (ad.add (j * sz)).off + i, none⟩ = us[i]?) ∧ Q K w us ys[j]
section
variable {α : Type} {Q : RdI α} {sz n c : Nat} {K K' : Nat → Prop} {w w' : World} {A : Option Addr} {ys : List α}
theorem RdS.keep (hQ : RdOk Q) (h : RdS Q sz K w A n c ys) (hk : SameK K w w') (hs : w.heap.size ≤ w'.heap.size) : RdS Q sz K w' A n c ys :=
  ⟨h.len, h.small, h.nil, h.cap, fun hn => by
    obtain ⟨ad, e, hl, hb, hc⟩ := h.mem hn
    refine ⟨ad, e, Nat.lt_of_lt_of_le hl hs, hb, fun j hj => ?_⟩
    obtain ⟨us, h1, h0, h2, h3⟩ := hc j hj
    exact ⟨us, h1, (hk.cell (by rw [block_of_add]; exact hb)).trans h0, fun i hi => (hk.cell (by show K (ad.add (j * sz)).block; rw [block_of_add]; exact hb)).trans (h2 i hi), hQ.keep hk hs h3⟩⟩
theorem RdS.mono (hQ : RdOk Q) (h : RdS Q sz K w A n c ys) (hk : ∀ b, b < w.heap.size → K b → K' b) : RdS Q sz K' w A n c ys :=
  ⟨h.len, h.small, h.nil, h.cap, fun hn => by
    obtain ⟨ad, e, hl, hb, hc⟩ := h.mem hn
    refine ⟨ad, e, hl, hk _ hl hb, fun j hj => ?_⟩
    obtain ⟨us, h1, h0, h2, h3⟩ := hc j hj
    exact ⟨us, h1, h0, h2, hQ.mono hk h3⟩⟩
theorem RdS.nil_ (Q : RdI α) (sz : Nat) (K : Nat → Prop) (w : World) : RdS Q sz K w none 0 0 [] := ⟨rfl, by omega, fun _ => ⟨rfl, rfl⟩, Nat.le_refl _, fun h => absurd h (by omega)⟩
end
/-- A slice of slices. -/
def QS {α : Type} (Q : RdI α) (sz : Nat) : RdI (List α) := fun K w us ys => ∃ B m d, us = [.slice B m d] ∧ RdS Q sz K w B m d ys
/-- A slice as it stands in the world: all that it reads is there. -/
abbrev Rd {α : Type} (Q : RdI α) (sz : Nat) (w : World) (A : Option Addr) (n c : Nat) (ys : List α) : Prop := RdS Q sz (fun b => b < w.heap.size) w A n c ys
theorem Rd.below {α : Type} {Q : RdI α} {sz n c : Nat} {w w' : World} {A : Option Addr} {ys : List α} (hQ : RdOk Q) (h : Rd Q sz w A n c ys) (hb : Below w.heap.size w w') : Rd Q sz w' A n c ys :=
  (h.keep hQ (SameK.below hb) hb.size).mono hQ fun b _ hl => Nat.lt_of_lt_of_le hl hb.size

structure SLK (K : Nat → Prop) (w : World) (A : Option Addr) (n c : Nat) (xs : List Int) : Prop where
  sl : SL w A n c xs
  inK : 0 < n → ∀ ad, A = some ad → K ad.block
theorem SLK.keep {K : Nat → Prop} {w w' : World} {A : Option Addr} {n c : Nat} {xs : List Int} (h : SLK K w A n c xs) (hk : SameK K w w') (hs : w.heap.size ≤ w'.heap.size) : SLK K w' A n c xs :=
  ⟨⟨⟨h.sl.il.len, h.sl.il.small, fun hn => by
    obtain ⟨ad, e, hl, hc⟩ := h.sl.il.mem hn
    refine ⟨ad, e, Nat.lt_of_lt_of_le hl hs, fun j hj => ?_⟩
    rw [← hc j hj]
    exact hk.cell (by rw [block_of_add]; exact h.inK hn ad e)⟩, h.sl.nil, h.sl.cap⟩, h.inK⟩
theorem SLK.mono {K K' : Nat → Prop} {w : World} {A : Option Addr} {n c : Nat} {xs : List Int} (h : SLK K w A n c xs) (hk : ∀ b, b < w.heap.size → K b → K' b) : SLK K' w A n c xs :=
  ⟨h.sl, fun hn ad e => hk _ (by
    obtain ⟨ad', e', hl, _⟩ := h.sl.il.mem hn
    rw [e] at e'; injection e' with e'; rw [e']; exact hl) (h.inK hn ad e)⟩
theorem SL.k {w : World} {A : Option Addr} {n c : Nat} {xs : List Int} (h : SL w A n c xs) : SLK (fun b => b < w.heap.size) w A n c xs := ⟨h, fun hn ad e => h.inside hn ad e⟩
section
variable {α : Type} {Q : RdI α} {n c k : Nat} {K : Nat → Prop} {w : World} {A : Option Addr} {ys : List α}
theorem RdS.inK (h : RdS Q n K w A c k ys) : 0 < c → ∀ ad, A = some ad → K ad.block ∧ ad.block < w.heap.size := fun hn ad e => by
  obtain ⟨ad', e', hl, hb, _⟩ := h.mem hn
  rw [e] at e'; injection e' with e'; subst e'; exact ⟨hb, hl⟩
end

/-! ### built by the call -/
/-- A slice of the call's own, with elements of type e and sz cells. -/
structure OwnG (e : TypeId) (sz : Nat) (w : World) (base : Nat) (A : Option Addr) (n c : Nat) (vs : List Value) : Prop where
  own : w.ownsRow base e sz (.slice A n c) n vs
  small : n ≤ 1000000
section
variable {e : TypeId} {sz base n c : Nat} {w w' : World} {A : Option Addr} {vs : List Value}
theorem OwnG.nil_ (e : TypeId) (sz : Nat) (w : World) (base : Nat) : OwnG e sz w base none 0 0 [] := ⟨World.ownsRow_nil _ _ _ _, by omega⟩
theorem OwnG.len (h : OwnG e sz w base A n c vs) : vs.length = n * sz := h.own.1
theorem OwnG.lt (h : OwnG e sz w base A n c vs) : ∀ k, (Value.slice A n c).ownBlock = some k → base ≤ k ∧ k < w.heap.size := h.own.lt
theorem OwnG.keep {K : Nat → Prop} (h : OwnG e sz w base A n c vs) (hk : SameK K w w') (hK : ∀ k, (Value.slice A n c).ownBlock = some k → K k) : OwnG e sz w' base A n c vs := by
  refine ⟨⟨h.own.1, ?_⟩, h.small⟩
  rcases h.own.2 with h2 | ⟨g, cap, cur, hv, hg, hh, r⟩
  · exact .inl h2
  · exact .inr ⟨g, cap, cur, hv, hg, (hk g (hK g (by rw [hv]; rfl))).trans hh, r⟩
theorem OwnG.below (h : OwnG e sz w base A n c vs) (hb : Below w.heap.size w w') : OwnG e sz w' base A n c vs := h.keep (SameK.below hb) fun k hk => (h.lt k hk).2
theorem OwnG.mono {b' : Nat} (h : OwnG e sz w base A n c vs) (hb : b' ≤ base) : OwnG e sz w b' A n c vs := by
  refine ⟨⟨h.own.1, ?_⟩, h.small⟩
  rcases h.own.2 with h2 | ⟨g, cap, cur, hv, hg, r⟩
  · exact .inl h2
  · exact .inr ⟨g, cap, cur, hv, by omega, r⟩
theorem OwnG.form (h : OwnG e sz w base A n c vs) (hn : 0 < n) : ∃ g, A = some ⟨g, 0, none⟩ ∧ base ≤ g ∧ g < w.heap.size := by
  rcases h.own.2 with ⟨_, h0⟩ | ⟨g, cap, cur, hv, hg, hh, _⟩
  · omega
  · simp only [Value.slice.injEq] at hv
    exact ⟨g, hv.1, hg, Blk.lt (w := w) (t := e) (cs := cur) hh⟩
theorem OwnG.cells (h : OwnG e sz w base A n c vs) : ∀ k, (Value.slice A n c).ownBlock = some k → ∃ cur : Array Value, base ≤ k ∧ w.heap[k]? = some (.cells cur e (0, 0)) := by
  intro k hk
  rcases h.own.2 with ⟨hv, _⟩ | ⟨g, cap, cur, hv, hb, hh, _⟩
  · rw [hv] at hk; cases hk
  · rw [hv] at hk
    injection hk with hk
    subst hk
    exact ⟨cur, hb, hh⟩
theorem OwnG.nilcap (h : OwnG e sz w base A n c vs) : (A = none → n = 0 ∧ c = 0) ∧ n ≤ c := by
  rcases h.own.2 with ⟨hv, h0⟩ | ⟨g, cap, cur, hv, _, _, hnc, _⟩
  · simp only [Value.slice.injEq] at hv
    exact ⟨fun _ => ⟨hv.2.1, hv.2.2⟩, by omega⟩
  · simp only [Value.slice.injEq, true_and] at hv
    exact ⟨fun e => (by rw [e] at hv; exact absurd hv.1 (by simp)), by omega⟩
theorem OwnG.cellAt {g : Nat} (h : OwnG e sz w base (some ⟨g, 0, none⟩) n c vs) {j : Nat} (hj : j < n * sz) : w.cell? ⟨g, j, none⟩ = vs[j]? := h.own.cellAt j hj
theorem OwnG.frozen {g : Nat} (h : OwnG e sz w base (some ⟨g, 0, none⟩) n c vs) (j : Nat) : w.frozen? ⟨g, j, none⟩ = false := h.own.frozenAt j
theorem OwnG.set_ {g : Nat} (h : OwnG e sz w base (some ⟨g, 0, none⟩) n c vs) (j : Nat) (u : Value) : OwnG e sz (w.setCell ⟨g, j, none⟩ u) base (some ⟨g, 0, none⟩) n c (vs.set j u) := ⟨(h.own.stored j u).1, h.small⟩
end
/-- What append leaves. -/
structure AppG (e : TypeId) (sz : Nat) (w : World) (base : Nat) (A : Option Addr) (n c : Nat) (vs : List Value) (A' : Option Addr) (c' : Nat) (w' : World) : Prop where
  own : OwnG e sz w' base A' n c' vs
  grown : w.grownBy w' (Value.slice A n c).ownBlock
  lies : (Value.slice A' n c').ownBlock = (Value.slice A n c).ownBlock ∨ (Value.slice A' n c').ownBlock = some w.heap.size
/-- A slice that the call builds: its own row of cells, and items that are read outside it. -/
structure Bld {α : Type} (L : Nat → Prop) (Q : RdI α) (e : TypeId) (sz : Nat) (w0 w : World) (A : Option Addr) (n c : Nat) (vs : List Value) (ys : List α) : Prop where
  own : OwnG e sz w w0.heap.size A n c vs
  len : ys.length = n
  row : ∀ j (hj : j < ys.length), Q (fun b => L b ∧ b < w.heap.size ∧ (Value.slice A n c).ownBlock ≠ some b) w ((vs.drop (j * sz)).take sz) ys[j]
  below : Below w0.heap.size w0 w
section
variable {α : Type} {L : Nat → Prop} {Q : RdI α} {e : TypeId} {sz n c : Nat} {w0 w w' : World} {A : Option Addr} {vs : List Value} {ys : List α}
theorem Bld.start (L : Nat → Prop) (Q : RdI α) (e : TypeId) (sz : Nat) (w0 : World) : Bld L Q e sz w0 w0 none 0 0 [] [] := ⟨OwnG.nil_ _ _ _ _, rfl, fun j hj => by simp at hj, Below.refl _ _⟩
theorem Bld.to (hQ : RdOk Q) (h : Bld L Q e sz w0 w A n c vs ys) (hb : Below w.heap.size w w') : Bld L Q e sz w0 w' A n c vs ys :=
  ⟨h.own.below hb, h.len, fun j hj => hQ.mono (fun b _ hb2 => ⟨hb2.1, Nat.lt_of_lt_of_le hb2.2.1 hb.size, hb2.2.2⟩) (hQ.keep ((SameK.below hb).mono fun b hb2 => hb2.2.1) hb.size (h.row j hj)), h.below.trans (hb.mono h.below.size)⟩
/-- One item more. -/
theorem Bld.add (hQ : RdOk Q) {A9 : Option Addr} {c9 : Nat} {w9 : World} {us : List Value} {y : α} (h : Bld L Q e sz w0 w A n c vs ys) (hl : us.length = sz)
    (hy : Q (fun b => L b ∧ b < w.heap.size ∧ (Value.slice A n c).ownBlock ≠ some b) w us y) (happ : AppG e sz w w0.heap.size A (n + 1) c (vs ++ us) A9 c9 w9) :
    Bld L Q e sz w0 w9 A9 (n + 1) c9 (vs ++ us) (ys ++ [y]) := by
  have hown : (Value.slice A (n + 1) c).ownBlock = (Value.slice A n c).ownBlock := ownBlock_len A (n + 1) n c c
  have hsame : SameK (fun b => L b ∧ b < w.heap.size ∧ (Value.slice A n c).ownBlock ≠ some b) w w9 := by
    have := SameK.grown happ.grown
    rw [hown] at this
    exact this.mono fun b hb => hb.2
  have hup : ∀ b, b < w9.heap.size → (L b ∧ b < w.heap.size ∧ (Value.slice A n c).ownBlock ≠ some b) → L b ∧ b < w9.heap.size ∧ (Value.slice A9 (n + 1) c9).ownBlock ≠ some b := fun b hb h2 => ⟨h2.1, hb, by
    rcases happ.lies with h3 | h3
    · rw [h3, hown]; exact h2.2.2
    · rw [h3]; intro e; injection e with e; omega⟩
  have hvl := h.own.len
  refine ⟨happ.own, by simp [h.len], fun j hj => ?_, h.below.grown happ.grown h.below.size (fun g hg => (h.own.lt g (by rw [← hown]; exact hg)).1)⟩
  have hj2 : j < n + 1 := by simp [h.len] at hj; exact hj
  by_cases hjn : j < n
  · have hj3 : j < ys.length := by rw [h.len]; exact hjn
    have hm : (j + 1) * sz ≤ n * sz := Nat.mul_le_mul_right _ hjn
    rw [Nat.add_mul, Nat.one_mul] at hm
    have e1 : ((vs ++ us).drop (j * sz)).take sz = (vs.drop (j * sz)).take sz := by
      rw [List.drop_append_of_le_length (by omega), List.take_append_of_le_length (by rw [List.length_drop]; omega)]
    have e2 : (ys ++ [y])[j] = ys[j] := List.getElem_append_left hj3
    rw [e1, e2]
    exact hQ.mono hup (hQ.keep hsame happ.grown.size (h.row j hj3))
  · have hjn2 : j = n := by omega
    subst hjn2
    have e1 : ((vs ++ us).drop (j * sz)).take sz = us := by
      rw [List.drop_append, show vs.drop (j * sz) = [] from List.drop_eq_nil_of_le (by omega), hvl, Nat.sub_self, List.drop_zero, List.nil_append, List.take_of_length_le (by omega)]
    have e2 : (ys ++ [y])[j] = y := by rw [List.getElem_append_right (by rw [h.len]; exact Nat.le_refl _)]; simp
    rw [e1, e2]
    exact hQ.mono hup (hQ.keep hsame happ.grown.size hy)
/-- Outside a set of old blocks: everything that is read is new. -/
theorem Bld.far (h : Bld L Q e sz w0 w A n c vs ys) : 0 < n → ∀ ad, A = some ad → w0.heap.size ≤ ad.block := fun hn ad e => by
  obtain ⟨g, e2, hg, _⟩ := h.own.form hn
  rw [e] at e2; injection e2 with e2; rw [e2]; exact hg
end
end Go.Proofs.Ytndgffiihbdppaa
