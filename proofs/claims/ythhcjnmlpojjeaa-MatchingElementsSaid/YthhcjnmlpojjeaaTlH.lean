/- timbref1: Circles, MatchingFault. -/
import Derived.Test.YthhcjnmlpojjeaaTlG
import Derived.Test.YthhcjnmlpojjeaaDelete
import Derived.Test.YthhcjnmlpojjeaaBase1
namespace Go.Proofs.Ythhcjnmlpojjeaa
set_option linter.unusedVariables false
set_option linter.unusedSimpArgs false
open Go.RowKit Go.Maps

/-! ### MatchingFault -/
def Tl.bdF (n : Nat) (d : List Int) (i : Nat) : Bool := decide (d.getD i 0 < 0) || decide ((2 * n : Int) ≤ d.getD i 0) || decide (d.getD i 0 = i) || decide (d.getD (d.getD i 0).toNat 0 ≠ i)
def Tl.posF (n i : Nat) : Nat := if i < n then i else 3 * n - 1 - i
def Tl.stF (d : List Int) (st : List Int) (p : Nat) : List Int := if 0 < st.length ∧ st.getD (st.length - 1) 0 = d.getD p 0 then st.take (st.length - 1) else st ++ [(p : Int)]
def Tl.stsF (n : Nat) (d : List Int) (k : Nat) : List Int := (List.range k).foldl (fun st i => Tl.stF d st (Tl.posF n i)) []
theorem Tl.stsF_succ (n : Nat) (d : List Int) (k : Nat) : Tl.stsF n d (k + 1) = Tl.stF d (Tl.stsF n d k) (Tl.posF n k) := by unfold Tl.stsF; rw [List.range_succ, List.foldl_append]; rfl
/-- What is wrong with a matching. -/
def Tl.mtF (m : Int) (d : List Int) : Int :=
  if m < 1 ∨ 6 < m then 1 else if d.length ≠ 2 * m.toNat then 3 else if (List.range d.length).any (Tl.bdF m.toNat d) = true then 3 else if Tl.stsF m.toNat d (2 * m.toNat) ≠ [] then 3 else 0
theorem Tl.bdF_all {n : Nat} {d : List Int} (h : ∀ j, j < d.length → Tl.bdF n d j = false) : (List.range d.length).any (Tl.bdF n d) = false := by
  rw [List.any_eq_false]
  intro j hj
  rw [h j (List.mem_range.1 hj)]
  simp
theorem Tl.bdF_one {n : Nat} {d : List Int} {j : Nat} (hj : j < d.length) (h : Tl.bdF n d j = true) : (List.range d.length).any (Tl.bdF n d) = true := List.any_eq_true.2 ⟨j, List.mem_range.2 hj, h⟩

set_option maxRecDepth 100000 in
set_option maxHeartbeats 8000000 in
theorem mfault_any (m : Int) (A : Option Addr) (l c : Nat) (d : List Int) (w : World) (ha : IL w A l d) (hwm : (Lit.int .i64 m).wf = true) :
    Calls Try.prog 13 #[.int .i64 m, .slice A l c] w fun e w' => e = .returned (.int .i64 (Tl.mtF m d)) ∧ Below w.heap.size w w' := by
  have HL := hide ha.len
  have hls := ha.small
  have HA := hide ha
  obtain ⟨R, hR⟩ : ∃ R, Tl.mtF m d = R := ⟨_, rfl⟩
  have HR := hide hR
  rw [hR]
  clear ha hR
  by_cases h1 : m < 1
  · have HE : Hid (R = 1) := hide (by rw [← HR.out]; unfold Tl.mtF; rw [if_pos (.inl h1)])
    have hd1 : decide (m < 1) = true := decide_eq_true h1
    go_enter Try.func13, Try.ntmps13
    go_wp2_with fail
    go_ret
    rw [HE.out]
    exact ⟨rfl, Below.refl _ _⟩
  have hd1 : decide (m < 1) = false := decide_eq_false h1
  by_cases h2 : 6 < m
  · have HE : Hid (R = 1) := hide (by rw [← HR.out]; unfold Tl.mtF; rw [if_pos (.inr h2)])
    have hd2 : decide (6 < m) = true := decide_eq_true h2
    go_enter Try.func13, Try.ntmps13
    go_wp2_with fail
    go_ret
    rw [HE.out]
    exact ⟨rfl, Below.refl _ _⟩
  have hd2 : decide (6 < m) = false := decide_eq_false h2
  obtain ⟨n, hn⟩ : ∃ n : Nat, m = (n : Int) := ⟨m.toNat, by omega⟩
  subst hn
  obtain ⟨N, hN⟩ : ∃ N, 2 * n = N := ⟨_, rfl⟩
  have hw2 : IntKind.i64.wrap (2 * (n : Int)) = (N : Int) := by rw [IntKind.wrap_i64]; omega
  have HF : Hid (Tl.mtF (n : Int) d = if d.length ≠ N then 3 else if (List.range d.length).any (Tl.bdF n d) = true then 3 else if Tl.stsF n d N ≠ [] then 3 else 0) := hide (by
    unfold Tl.mtF
    rw [if_neg (by omega), Int.toNat_natCast, hN])
  rw [HR.out] at HF
  have hN12 : N ≤ 12 := by omega
  have hN0 : 0 < N := by omega
  have hn1 : 1 ≤ n := by omega
  have hn6 : n ≤ 6 := by omega
  have HNE := hide hN
  clear hN h1 h2 hwm HR
  by_cases h3 : l = N
  case neg =>
    have HE : Hid (R = 3) := hide (by rw [HF.out, if_pos (by rw [HL.out]; exact h3)])
    have hne := bne_tt h3
    go_enter Try.func13, Try.ntmps13
    go_wp2_with fail
    go_ret
    rw [HE.out]
    exact ⟨rfl, Below.refl _ _⟩
  subst h3
  have HF2 : Hid (R = if (List.range d.length).any (Tl.bdF n d) = true then 3 else if Tl.stsF n d l ≠ [] then 3 else 0) := hide (by rw [HF.out, if_neg (by rw [HL.out]; simp)])
  have HBD : Hid (∀ i, Tl.bdF n d i = (decide (d.getD i 0 < 0) || decide ((l : Int) ≤ d.getD i 0) || decide (d.getD i 0 = i) || decide (d.getD (d.getD i 0).toNat 0 ≠ i))) := hide (fun i => by unfold Tl.bdF; rw [show (2 * (n : Int)) = (l : Int) by have := HNE.out; omega])
  obtain ⟨i0, hi0, hz0, hz1, hz2⟩ := info_parts int_info
  have HI0 := hide hi0
  have HZ0 := hide hz0
  have HZ1 := hide hz1
  have HZ2 := hide hz2
  clear HF hi0 hz0 hz1 hz2
  go_enter Try.func13, Try.ntmps13
  go_wp2_with fail
  go_loop [24] (fun iv => ∃ i : Nat, iv = .int .i64 i ∧ i ≤ l ∧ Hid (∀ j, j < i → Tl.bdF n d j = false)) (fun iv => l - (intOf iv).toNat)
  case atStart => exact ⟨0, rfl, Nat.zero_le _, hide (fun j hj => absurd hj (by omega))⟩
  case round =>
    obtain ⟨i, rfl, hi, HBF⟩ := hrel
    by_cases hli : i < l
    · obtain ⟨ad, rfl, hcl⟩ := HA.out.at_ hli
      have hbi := HBD.out i
      have HYES : Hid (Tl.bdF n d i = true → R = 3) := hide (fun h => by rw [HF2.out, if_pos (Tl.bdF_one (by rw [HL.out]; exact hli) h)])
      have HNO : Hid (Tl.bdF n d i = false → ∀ j, j < i + 1 → Tl.bdF n d j = false) := hide (fun h j hj => by
        by_cases e : j = i
        · rw [e]; exact h
        · exact HBF.out j (by omega))
      generalize Tl.bdF n d i = bd at *
      by_cases k1 : d.getD i 0 < 0
      · have HE : Hid (R = 3) := hide (HYES.out (by rw [hbi, decide_eq_true k1]; rfl))
        have kd1 := decide_eq_true k1
        generalize d.getD i 0 = x at *
        clear hbi k1
        go_wp2_with fail
        go_ret
        rw [HE.out]
        exact ⟨rfl, Below.refl _ _⟩
      have kd1 := decide_eq_false k1
      by_cases k2 : (l : Int) ≤ d.getD i 0
      · have HE : Hid (R = 3) := hide (HYES.out (by rw [hbi, decide_eq_true k2]; simp))
        have kd2 := decide_eq_true k2
        generalize d.getD i 0 = x at *
        clear hbi k1 k2
        go_wp2_with fail
        go_ret
        rw [HE.out]
        exact ⟨rfl, Below.refl _ _⟩
      have kd2 := decide_eq_false k2
      obtain ⟨u, hu⟩ : ∃ u : Nat, d.getD i 0 = (u : Int) := ⟨(d.getD i 0).toNat, by omega⟩
      rw [hu] at hcl hbi kd1 kd2 k1 k2
      rw [Int.toNat_natCast, kd1, kd2] at hbi
      have hul : u < l := by omega
      clear hu k1 k2
      by_cases k3 : u = i
      · have HE : Hid (R = 3) := hide (HYES.out (by rw [hbi, decide_eq_true (show (u : Int) = (i : Int) by rw [k3])]; simp))
        have kd3 := beq_tt k3
        clear hbi k3
        go_wp2_with fail
        go_ret
        rw [HE.out]
        exact ⟨rfl, Below.refl _ _⟩
      have kd3 := beq_ff k3
      rw [decide_eq_false (show ¬ (u : Int) = (i : Int) by omega)] at hbi
      obtain ⟨ad2, e2, hcu⟩ := HA.out.at_ hul
      injection e2 with e2
      subst e2
      by_cases k4 : d.getD u 0 = (i : Int)
      · have HN1 := hide (HNO.out (by rw [hbi, decide_eq_false (fun h => h k4)]; rfl))
        rw [k4] at hcu
        clear hbi k3 k4 HYES HNO
        go_wp2_with fail
        go_round
        case rel => exact ⟨i + 1, by go_num, by omega, HN1⟩
        case measure => simp [intOf]; omega
      · have HE : Hid (R = 3) := hide (HYES.out (by rw [hbi, decide_eq_true k4]; simp))
        have kd4 : (d.getD u 0 != (i : Int)) = true := by simpa using k4
        generalize d.getD u 0 = z at *
        clear hbi k3 k4
        go_wp2_with fail
        go_ret
        rw [HE.out]
        exact ⟨rfl, Below.refl _ _⟩
    · have HF3 : Hid (R = if Tl.stsF n d l ≠ [] then 3 else 0) := hide (by
        rw [HF2.out, if_neg]
        rw [Tl.bdF_all (fun j hj => HBF.out j (by rw [HL.out] at hj; omega))]
        simp)
      clear HF2 HBF HBD
      go_wp2_with fail
      go_loopw [7, 53] (fun sv iv wr => ∃ (k q c2 : Nat) (S : Option Addr), sv = .slice S q c2 ∧ iv = .int .i64 k ∧ k ≤ l ∧ q ≤ k ∧ Hid (OwnI wr w.heap.size S q c2 (Tl.stsF n d k)) ∧ Hid (Below w.heap.size w wr)) (fun _ iv _ => l - (intOf iv).toNat)
      case atStart => exact ⟨0, 0, 0, none, rfl, rfl, Nat.zero_le _, Nat.le_refl _, hide (OwnI.nil_ _ _), hide (Below.refl _ _)⟩
      case round =>
        obtain ⟨k, q, c2, S, rfl, rfl, hk, hqk, HO, HB⟩ := hrel
        by_cases hlt : k < l
        · have HST := hide (Tl.stsF_succ n d k)
          have hll := HO.out.len
          obtain ⟨p, hp⟩ : ∃ p, Tl.posF n k = p := ⟨_, rfl⟩
          rw [hp] at HST
          have hpl : p < l := by
            have := HNE.out
            rw [← hp]
            unfold Tl.posF
            split <;> omega
          obtain ⟨ad, rfl, hcp⟩ := (HA.out.below HB.out).at_ hpl
          obtain ⟨L, hL⟩ : ∃ L, Tl.stsF n d k = L := ⟨_, rfl⟩
          obtain ⟨L2, hL2⟩ : ∃ L, Tl.stsF n d (k + 1) = L := ⟨_, rfl⟩
          have HL2 := hide hL2
          rw [hL] at HO HST hll
          rw [hL2] at HST
          unfold Tl.stF at HST
          rw [hll] at HST
          generalize hy : d.getD p 0 = y at *
          clear hL hL2 hy
          by_cases hkn : k < n
          · have hpk : k = p := by rw [← hp]; unfold Tl.posF; rw [if_pos hkn]
            have hge : decide ((n : Int) ≤ (k : Int)) = false := decide_eq_false (by omega)
            have hgn : decide (n ≤ k) = false := decide_eq_false (by omega)
            subst hpk
            clear hp hkn
            by_cases hq0 : q = 0
            · have HS : Hid (L2 = L ++ [(k : Int)]) := hide (by rw [HST.out, if_neg (fun h => absurd h.1 (by omega))])
              have hv : IntKind.i64.wrap ((q : Int) - 1) = -1 := by rw [IntKind.wrap_i64]; omega
              clear HST hq0 hll
              first
              | (
                go_upto_region 19 with fail
                go_quiet (fail)
                go_wp2_with (at_builtin; refine wpList_append_int _ rfl (.tmp 84) (.tmp 86) 22 rfl w.heap.size i0 Try.underlying22 HI0.out HZ0.out HZ1.out HZ2.out S q c2 L rfl ((HO.out.drewN _).alloc _) (some ⟨_, 0, none⟩) 1 1 [(k : Int)] rfl (IL.lit _ [(k : Int)] (by simp) rfl rfl) (by omega) (by have := HB.out.size; simp; omega) ?_; intro A8 c8 w8 hap)
                have hN := hap.own
                rw [← HS.out] at hN
                have HN := hide hN
                have HB8 := hide (((below_drewN HB.out nq).alloc (by have := HB.out.size; exact this) (.cells #[.int .i64 (k : Int)] 3)).grown hap.grown (by have := HB.out.size; simp; omega) (fun j hj => (HO.out.lt j (by rw [ownBlock_len S q (q + 1) c2 c2]; exact hj)).1))
                clear hap hN
                go_roundw
                case rel => exact ⟨k + 1, q + 1, c8, A8, by go_num, by go_num, by omega, by omega, by rw [HL2.out]; exact HN, HB8⟩
                case measure => simp [intOf]; omega)
            · obtain ⟨g, rfl, hg1, hg2⟩ := HO.out.form (by omega)
              obtain ⟨r, hr⟩ : ∃ r, q - 1 = r := ⟨_, rfl⟩
              have hrq : r < q := by omega
              have hv : IntKind.i64.wrap ((q : Int) - 1) = (r : Int) := by rw [IntKind.wrap_i64]; omega
              have hcap := HO.out.cap
              have hrc : (r : Int) ≤ (c2 : Int) := by omega
              have hrc2 : r ≤ c2 := by omega
              have hcs := HO.out.cell hrq
              have hge0 : decide ((0 : Int) ≤ (r : Int)) = true := decide_eq_true (by omega)
              rw [hr] at HST
              have HSH : Hid (OwnI wr w.heap.size (some ⟨g, 0, none⟩) r c2 (L.take r)) := hide (HO.out.shrink (by omega) (by omega))
              by_cases hz : L.getD r 0 = y
              · have HS : Hid (L2 = L.take r) := hide (by rw [HST.out, if_pos ⟨by omega, hz⟩])
                rw [← HS.out] at HSH
                rw [hz] at hcs
                have hzz : (y == y) = true := by simp
                clear HST hz hll hr hq0
                first
                | (
                  go_upto_region 19 with fail
                  go_quiet (fail)
                  go_wp2_with fail
                  go_roundw
                  case rel => exact ⟨k + 1, r, c2, _, rfl, by go_num, by omega, by omega, by rw [HL2.out]; exact hide (HSH.out.drewN _), hide (below_drewN HB.out _)⟩
                  case measure => simp [intOf]; omega)
              · have HS : Hid (L2 = L ++ [(k : Int)]) := hide (by rw [HST.out, if_neg (fun h => hz h.2)])
                have hzz : (L.getD r 0 == y) = false := by simpa using hz
                generalize L.getD r 0 = z at *
                clear HST hz hll hr hq0
                first
                | (
                  go_upto_region 19 with fail
                  go_quiet (fail)
                  go_wp2_with (at_builtin; refine wpList_append_int _ rfl (.tmp 84) (.tmp 86) 22 rfl w.heap.size i0 Try.underlying22 HI0.out HZ0.out HZ1.out HZ2.out (some ⟨g, 0, none⟩) q c2 L rfl ((HO.out.drewN _).alloc _) (some ⟨_, 0, none⟩) 1 1 [(k : Int)] rfl (IL.lit _ [(k : Int)] (by simp) rfl rfl) (by omega) (by have := HB.out.size; simp; omega) ?_; intro A8 c8 w8 hap)
                  have hN := hap.own
                  rw [← HS.out] at hN
                  have HN := hide hN
                  have HB8 := hide (((below_drewN HB.out nq).alloc (by have := HB.out.size; exact this) (.cells #[.int .i64 (k : Int)] 3)).grown hap.grown (by have := HB.out.size; simp; omega) (fun j hj => (HO.out.lt j (by rw [ownBlock_len (some ⟨g, 0, none⟩) q (q + 1) c2 c2]; exact hj)).1))
                  clear hap hN
                  go_roundw
                  case rel => exact ⟨k + 1, q + 1, c8, A8, by go_num, by go_num, by omega, by omega, by rw [HL2.out]; exact HN, HB8⟩
                  case measure => simp [intOf]; omega)
          · obtain ⟨T, hT⟩ : ∃ T, 3 * n = T := ⟨_, rfl⟩
            obtain ⟨T1, hT1⟩ : ∃ T1, T - 1 = T1 := ⟨_, rfl⟩
            have hpT : p = T1 - k := by rw [← hp]; unfold Tl.posF; rw [if_neg hkn, hT, hT1]
            have hge : decide ((n : Int) ≤ (k : Int)) = true := decide_eq_true (by omega)
            have hgn : decide (n ≤ k) = true := decide_eq_true (by omega)
            have hNe := HNE.out
            have hv1 : IntKind.i64.wrap (3 * (n : Int)) = (T : Int) := by rw [IntKind.wrap_i64]; omega
            have hv2 : IntKind.i64.wrap ((T : Int) - 1) = (T1 : Int) := by rw [IntKind.wrap_i64]; omega
            have hv3 : IntKind.i64.wrap ((T1 : Int) - (k : Int)) = (p : Int) := by rw [IntKind.wrap_i64]; omega
            clear hp hkn hT hT1 hpT hNe
            by_cases hq0 : q = 0
            · have HS : Hid (L2 = L ++ [(p : Int)]) := hide (by rw [HST.out, if_neg (fun h => absurd h.1 (by omega))])
              have hv : IntKind.i64.wrap ((q : Int) - 1) = -1 := by rw [IntKind.wrap_i64]; omega
              clear HST hq0 hll
              first
              | (
                go_upto_region 19 with fail
                go_quiet (fail)
                go_wp2_with (at_builtin; refine wpList_append_int _ rfl (.tmp 84) (.tmp 86) 22 rfl w.heap.size i0 Try.underlying22 HI0.out HZ0.out HZ1.out HZ2.out S q c2 L rfl ((HO.out.drewN _).alloc _) (some ⟨_, 0, none⟩) 1 1 [(p : Int)] rfl (IL.lit _ [(p : Int)] (by simp) rfl rfl) (by omega) (by have := HB.out.size; simp; omega) ?_; intro A8 c8 w8 hap)
                have hN := hap.own
                rw [← HS.out] at hN
                have HN := hide hN
                have HB8 := hide (((below_drewN HB.out nq).alloc (by have := HB.out.size; exact this) (.cells #[.int .i64 (p : Int)] 3)).grown hap.grown (by have := HB.out.size; simp; omega) (fun j hj => (HO.out.lt j (by rw [ownBlock_len S q (q + 1) c2 c2]; exact hj)).1))
                clear hap hN
                go_roundw
                case rel => exact ⟨k + 1, q + 1, c8, A8, by go_num, by go_num, by omega, by omega, by rw [HL2.out]; exact HN, HB8⟩
                case measure => simp [intOf]; omega)
            · obtain ⟨g, rfl, hg1, hg2⟩ := HO.out.form (by omega)
              obtain ⟨r, hr⟩ : ∃ r, q - 1 = r := ⟨_, rfl⟩
              have hrq : r < q := by omega
              have hv : IntKind.i64.wrap ((q : Int) - 1) = (r : Int) := by rw [IntKind.wrap_i64]; omega
              have hcap := HO.out.cap
              have hrc : (r : Int) ≤ (c2 : Int) := by omega
              have hrc2 : r ≤ c2 := by omega
              have hcs := HO.out.cell hrq
              have hge0 : decide ((0 : Int) ≤ (r : Int)) = true := decide_eq_true (by omega)
              rw [hr] at HST
              have HSH : Hid (OwnI wr w.heap.size (some ⟨g, 0, none⟩) r c2 (L.take r)) := hide (HO.out.shrink (by omega) (by omega))
              by_cases hz : L.getD r 0 = y
              · have HS : Hid (L2 = L.take r) := hide (by rw [HST.out, if_pos ⟨by omega, hz⟩])
                rw [← HS.out] at HSH
                rw [hz] at hcs
                have hzz : (y == y) = true := by simp
                clear HST hz hll hr hq0
                first
                | (
                  go_upto_region 19 with fail
                  go_quiet (fail)
                  go_wp2_with fail
                  go_roundw
                  case rel => exact ⟨k + 1, r, c2, _, rfl, by go_num, by omega, by omega, by rw [HL2.out]; exact hide (HSH.out.drewN _), hide (below_drewN HB.out _)⟩
                  case measure => simp [intOf]; omega)
              · have HS : Hid (L2 = L ++ [(p : Int)]) := hide (by rw [HST.out, if_neg (fun h => hz h.2)])
                have hzz : (L.getD r 0 == y) = false := by simpa using hz
                generalize L.getD r 0 = z at *
                clear HST hz hll hr hq0
                first
                | (
                  go_upto_region 19 with fail
                  go_quiet (fail)
                  go_wp2_with (at_builtin; refine wpList_append_int _ rfl (.tmp 84) (.tmp 86) 22 rfl w.heap.size i0 Try.underlying22 HI0.out HZ0.out HZ1.out HZ2.out (some ⟨g, 0, none⟩) q c2 L rfl ((HO.out.drewN _).alloc _) (some ⟨_, 0, none⟩) 1 1 [(p : Int)] rfl (IL.lit _ [(p : Int)] (by simp) rfl rfl) (by omega) (by have := HB.out.size; simp; omega) ?_; intro A8 c8 w8 hap)
                  have hN := hap.own
                  rw [← HS.out] at hN
                  have HN := hide hN
                  have HB8 := hide (((below_drewN HB.out nq).alloc (by have := HB.out.size; exact this) (.cells #[.int .i64 (p : Int)] 3)).grown hap.grown (by have := HB.out.size; simp; omega) (fun j hj => (HO.out.lt j (by rw [ownBlock_len (some ⟨g, 0, none⟩) q (q + 1) c2 c2]; exact hj)).1))
                  clear hap hN
                  go_roundw
                  case rel => exact ⟨k + 1, q + 1, c8, A8, by go_num, by go_num, by omega, by omega, by rw [HL2.out]; exact HN, HB8⟩
                  case measure => simp [intOf]; omega)
        · have hkl : k = l := by omega
          have HE : Hid (R = if 0 < q then 3 else 0) := hide (by
            rw [HF3.out, ← hkl]
            have hll := HO.out.len
            by_cases h0 : 0 < q
            · rw [if_pos h0, if_pos]
              intro e
              rw [e] at hll
              simp at hll
              omega
            · rw [if_neg h0, if_neg]
              have : Tl.stsF n d k = [] := List.eq_nil_of_length_eq_zero (by omega)
              simp [this])
          clear hkl HO
          by_cases h0 : 0 < q
          · have hd0 : decide ((0 : Int) < (q : Int)) = true := decide_eq_true (by omega)
            go_wp2_with fail
            go_ret
            rw [HE.out, if_pos h0]
            exact ⟨rfl, HB.out⟩
          · have hd0 : decide ((0 : Int) < (q : Int)) = false := decide_eq_false (by omega)
            go_wp2_with fail
            go_ret
            rw [HE.out, if_neg h0]
            exact ⟨rfl, HB.out⟩
end Go.Proofs.Ythhcjnmlpojjeaa
