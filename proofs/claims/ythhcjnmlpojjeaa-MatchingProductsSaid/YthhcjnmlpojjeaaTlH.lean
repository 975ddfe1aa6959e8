/- timbref1: Circles, MatchingFault. -/
import Derived.Test.YthhcjnmlpojjeaaTlG
import Derived.Test.YthhcjnmlpojjeaaDelete
import Derived.Test.YthhcjnmlpojjeaaBase1
namespace Go.Proofs.Ythhcjnmlpojjeaa
set_option linter.unusedVariables false
set_option linter.unusedSimpArgs false
open Go.RowKit Go.Maps

/-- The joins of a closure, for the first points. -/
def Tl.cirP (n : Nat) (d : List Nat) (k : Nat) : List (Nat × Nat) := (List.range k).flatMap fun i => [(i, d.getD i 0), (i, (i + n) % (2 * n))]
theorem Tl.cirP_succ (n : Nat) (d : List Nat) (k : Nat) : Tl.cirP n d (k + 1) = Tl.cirP n d k ++ [(k, d.getD k 0), (k, (k + n) % (2 * n))] := by unfold Tl.cirP; rw [List.range_succ, List.flatMap_append]; simp
theorem UF.root_iff {par lab : List Nat} (h : UF par lab) {a : Nat} (ha : a < lab.length) : par.getD a 0 = a ↔ Tl.at_ lab a = a := by
  obtain ⟨dp, hd⟩ := h.dp
  rcases (hd a ha).2 with ⟨h1, h2⟩ | ⟨h1, h2, _⟩
  · exact ⟨fun _ => h2, fun _ => h1⟩
  · exact ⟨fun e => absurd e h1, fun e => absurd e h2⟩

set_option maxRecDepth 100000 in
set_option maxHeartbeats 4000000 in
theorem circles_any (n : Nat) (A : Option Addr) (m c : Nat) (d : List Nat) (w : World) (ha : IL w A m (zs d)) (hd : Tl.mtOk n d) (h0 : 1 ≤ n) (hn : n ≤ 100) :
    Calls Try.prog 20 #[.int .i64 n, .slice A m c] w fun e w' => e = .returned (.int .i64 (Tl.cir n d : Nat)) ∧ Below w.heap.size w w' := by
  have hm : m = 2 * n := by have := ha.len; rw [zs_length, hd.1] at this; exact this.symm
  obtain ⟨R, hR⟩ : ∃ R, Tl.cir n d = R := ⟨_, rfl⟩
  have HR := hide hR
  rw [hR]
  obtain ⟨N, hN⟩ : ∃ N, 2 * n = N := ⟨_, rfl⟩
  rw [hN] at hm
  have hw2 : IntKind.i64.wrap (2 * (n : Int)) = (N : Int) := by rw [IntKind.wrap_i64]; omega
  have hN2 : N ≤ 200 := by omega
  have hnN : n ≤ N := by omega
  have hNp : 0 < N := by omega
  have HNE := hide hN
  have HD := hide hd
  have HA := hide ha
  have HAB : Hid (0 < m → ∀ ad, A = some ad → ad.block < w.heap.size) := hide (fun hp ad e => by
    obtain ⟨ad2, e2, hl2, _⟩ := ha.mem hp
    rw [e] at e2; injection e2 with e2; subst e2; exact hl2)
  subst hm
  clear hR hN ha hd
  go_enter Try.func20, Try.ntmps20
  go_wp2_with fail
  refine (points_any m w (by omega)).mono ?_
  rintro e w1 ⟨G, gn, gc, rfl, ho, hb⟩
  have hgn : m = gn := by have := ho.len; simpa [zs] using this
  subst hgn
  obtain ⟨g, rfl, hg1, hg2⟩ := ho.form hNp
  have HB1 := hide hb
  have HJ0 : Hid ((∃ par, UF par (Tl.joins (List.range m) (Tl.cirP n d 0)) ∧ OwnI w1 w.heap.size (some ⟨g, 0, none⟩) m gc (zs par)) ∧ Below w.heap.size w w1) := hide ⟨⟨_, UF.range m, ho⟩, hb⟩
  clear ho hb HB1
  go_wp2_with fail
  go_loopw [15] (fun iv wr => ∃ k : Nat, iv = .int .i64 k ∧ k ≤ m ∧ Hid ((∃ par, UF par (Tl.joins (List.range m) (Tl.cirP n d k)) ∧ OwnI wr w.heap.size (some ⟨g, 0, none⟩) m gc (zs par)) ∧ Below w.heap.size w wr)) (fun iv _ => m - (intOf iv).toNat)
  case atStart => exact ⟨0, rfl, Nat.zero_le _, HJ0⟩
  case round =>
    clear HJ0
    obtain ⟨k, rfl, hk, HJ⟩ := hrel
    rename World => wo
    obtain ⟨⟨par, huf, hown⟩, hbl⟩ := HJ.out
    have hll : (Tl.joins (List.range m) (Tl.cirP n d k)).length = m := by rw [Tl.joins_length, List.length_range]
    by_cases hlt : k < m
    · obtain ⟨ad, rfl, hcl⟩ := (HA.out.below hbl).at_ hlt
      rw [zs_getD] at hcl
      have hdk := HD.out.getD (i := k) (by rw [HNE.out]; exact hlt)
      rw [HNE.out] at hdk
      have HES : Hid (Tl.joins (List.range m) (Tl.cirP n d (k + 1)) = Tl.join (Tl.join (Tl.joins (List.range m) (Tl.cirP n d k)) k (d.getD k 0)) k ((k + n) % m)) := hide (by rw [Tl.cirP_succ, Tl.joins_append, HNE.out]; rfl)
      obtain ⟨dk, hdk2⟩ : ∃ q, d.getD k 0 = q := ⟨_, rfl⟩
      rw [hdk2] at hcl hdk HES
      obtain ⟨q, hq⟩ : ∃ q : Nat, (k + n) % m = q := ⟨_, rfl⟩
      rw [hq] at HES
      have hqm : q < m := by rw [← hq]; exact Nat.mod_lt _ hNp
      have hwk : IntKind.i64.wrap ((k : Int) + (n : Int)) = (k : Int) + (n : Int) := by rw [IntKind.wrap_i64]; omega
      have hmod : ((k : Int) + (n : Int)).tmod (m : Int) = (q : Int) := by
        rw [← hq, show (k : Int) + (n : Int) = ((k + n : Nat) : Int) by omega, Int.ofNat_tmod]
      have hm0 : (m : Int) ≠ 0 := by omega
      generalize Tl.joins (List.range m) (Tl.cirP n d k) = lab at *
      have HJ1 := hide (join_any g m gc w.heap.size par lab k dk wo hown huf (by omega) (by omega) (by omega))
      have HU1 := hide (huf.join (x := k) (y := dk) (by omega) (by omega))
      have HBL := hide hbl
      clear hdk2 hq huf hown hbl HJ
      go_wp2_with fail
      refine HJ1.out.mono ?_
      rintro e4 w4 ⟨rfl, ho4, he4⟩
      have hl2 : (Tl.join lab k dk).length = m := by rw [Tl.join_length]; exact hll
      have HJ2 := hide (join_any g m gc w.heap.size _ _ k q w4 ho4 HU1.out (by omega) (by omega) (by omega))
      have HU2 := hide (HU1.out.join (x := k) (y := q) (by omega) (by omega))
      have HB4 : Hid (Below w.heap.size w w4) := hide (by rw [he4]; exact HBL.out.setCell hg1 _)
      clear ho4 he4 HJ1 HU1 HBL hcl
      go_wp2_with fail
      refine HJ2.out.mono ?_
      rintro e5 w5 ⟨rfl, ho5, he5⟩
      have HJ5 : Hid ((∃ par, UF par (Tl.joins (List.range m) (Tl.cirP n d (k + 1))) ∧ OwnI w5 w.heap.size (some ⟨g, 0, none⟩) m gc (zs par)) ∧ Below w.heap.size w w5) := hide ⟨⟨_, by rw [HES.out]; exact HU2.out, ho5⟩, by rw [he5]; exact HB4.out.setCell hg1 _⟩
      clear ho5 he5 HJ2 HU2 HB4 HES
      go_wp2_with fail
      go_roundw
      case rel => exact ⟨k + 1, by go_num, by omega, HJ5⟩
      case measure => simp [intOf]; omega
    · have hkm : k = m := by omega
      have HRE : Hid (R = Tl.cnt (Tl.joins (List.range m) (Tl.cirP n d k))) := hide (by
        rw [← HR.out, hkm]
        unfold Tl.cir Tl.cirE Tl.cirP
        rw [HNE.out])
      generalize Tl.joins (List.range m) (Tl.cirP n d k) = lab at *
      have HUF := hide huf
      have HOW := hide hown
      have HBL := hide hbl
      have HLL := hide hll
      clear huf hown hbl HJ hkm hll
      go_wp2_with fail
      go_loop [8, 36] (fun sv iv => ∃ i : Nat, iv = .int .i64 i ∧ i ≤ m ∧ sv = .int .i64 ((List.range i).countP fun r => Tl.at_ lab r == r : Nat)) (fun _ iv => m - (intOf iv).toNat)
      case atStart => exact ⟨0, rfl, Nat.zero_le _, rfl⟩
      case round =>
        obtain ⟨i, rfl, hi, rfl⟩ := hrel
        by_cases hli : i < m
        · have hcl := HOW.out.cell hli
          rw [zs_getD] at hcl
          have hri := HUF.out.root_iff (a := i) (by rw [HLL.out]; exact hli)
          have hle : (List.range i).countP (fun r => Tl.at_ lab r == r) ≤ i := Nat.le_trans List.countP_le_length (by simp)
          have HS : Hid ((List.range (i + 1)).countP (fun r => Tl.at_ lab r == r) = (List.range i).countP (fun r => Tl.at_ lab r == r) + if par.getD i 0 = i then 1 else 0) := hide (by
            rw [List.range_succ, List.countP_append, List.countP_singleton]
            by_cases e : par.getD i 0 = i
            · rw [if_pos e, if_pos (by simpa using hri.1 e)]
            · rw [if_neg e, if_neg (by simpa using fun k => e (hri.2 k))])
          generalize (List.range i).countP (fun r => Tl.at_ lab r == r) = s at *
          clear hri
          by_cases e : par.getD i 0 = i
          · rw [if_pos e] at HS
            rw [e] at hcl
            have hws : IntKind.i64.wrap ((s : Int) + 1) = (s : Int) + 1 := by rw [IntKind.wrap_i64]; omega
            clear e
            go_wp2_with fail
            go_round
            case rel => exact ⟨i + 1, by go_num, by omega, by rw [HS.out]; go_num⟩
            case measure => simp [intOf]; omega
          · rw [if_neg e, Nat.add_zero] at HS
            have hb := beq_ff e
            generalize par.getD i 0 = p at *
            clear e
            go_wp2_with fail
            go_round
            case rel => exact ⟨i + 1, by go_num, by omega, by rw [HS.out]; rfl⟩
            case measure => simp [intOf]; omega
        · have him : i = m := by omega
          have HE : Hid ((List.range i).countP (fun r => Tl.at_ lab r == r) = R) := hide (by rw [HRE.out, him]; unfold Tl.cnt; rw [HLL.out])
          rw [HE.out]
          clear him
          go_wp2_with fail
          go_ret
          exact ⟨rfl, HBL.out⟩

/-! ### MatchingFault -/
def Tl.bdF (n : Nat) (d : List Int) (i : Nat) : Bool := decide (d.getD i 0 < 0) || decide ((2 * n : Int) ≤ d.getD i 0) || decide (d.getD i 0 = i) || decide (d.getD (d.getD i 0).toNat 0 ≠ i)
def Tl.posF (n i : Nat) : Nat := if i < n then i else 3 * n - 1 - i
def Tl.stF (d : List Int) (st : List Int) (p : Nat) : List Int := if 0 < st.length ∧ st.getD (st.length - 1) 0 = d.getD p 0 then st.take (st.length - 1) else st ++ [(p : Int)]
def Tl.stsF (n : Nat) (d : List Int) (k : Nat) : List Int := (List.range k).foldl (fun st i => Tl.stF d st (Tl.posF n i)) []
theorem Tl.stsF_succ (n : Nat) (d : List Int) (k : Nat) : Tl.stsF n d (k + 1) = Tl.stF d (Tl.stsF n d k) (Tl.posF n k) := by unfold Tl.stsF; rw [List.range_succ, List.foldl_append]; rfl
/-- What is wrong with a matching. -/
def Tl.mtF (m : Int) (d : List Int) : Int :=
  if m < 1 ∨ 6 < m then 1 else if d.length ≠ 2 * m.toNat then 3 else if (List.range d.length).any (Tl.bdF m.toNat d) = true then 3 else if Tl.stsF m.toNat d (2 * m.toNat) ≠ [] then 3 else 0
theorem Tl.bdF_all {n : Nat} {d : List Int} (h : ∀ j, j < d.length → Tl.bdF n d j = false) : (List.range d.length).any (Tl.bdF n d) = false := by
  rw [List.any_eq_false]
  intro j hj
  rw [h j (List.mem_range.1 hj)]
  simp
theorem Tl.bdF_one {n : Nat} {d : List Int} {j : Nat} (hj : j < d.length) (h : Tl.bdF n d j = true) : (List.range d.length).any (Tl.bdF n d) = true := List.any_eq_true.2 ⟨j, List.mem_range.2 hj, h⟩

set_option maxRecDepth 100000 in
set_option maxHeartbeats 8000000 in
theorem mfault_any (m : Int) (A : Option Addr) (l c : Nat) (d : List Int) (w : World) (ha : IL w A l d) (hwm : (Lit.int .i64 m).wf = true) :
    Calls Try.prog 13 #[.int .i64 m, .slice A l c] w fun e w' => e = .returned (.int .i64 (Tl.mtF m d)) ∧ Below w.heap.size w w' := by
  have HL := hide ha.len
  have hls := ha.small
  have HA := hide ha
  obtain ⟨R, hR⟩ : ∃ R, Tl.mtF m d = R := ⟨_, rfl⟩
  have HR := hide hR
  rw [hR]
  clear ha hR
  by_cases h1 : m < 1
  · have HE : Hid (R = 1) := hide (by rw [← HR.out]; unfold Tl.mtF; rw [if_pos (.inl h1)])
    have hd1 : decide (m < 1) = true := decide_eq_true h1
    go_enter Try.func13, Try.ntmps13
    go_wp2_with fail
    go_ret
    rw [HE.out]
    exact ⟨rfl, Below.refl _ _⟩
  have hd1 : decide (m < 1) = false := decide_eq_false h1
  by_cases h2 : 6 < m
  · have HE : Hid (R = 1) := hide (by rw [← HR.out]; unfold Tl.mtF; rw [if_pos (.inr h2)])
    have hd2 : decide (6 < m) = true := decide_eq_true h2
    go_enter Try.func13, Try.ntmps13
    go_wp2_with fail
    go_ret
    rw [HE.out]
    exact ⟨rfl, Below.refl _ _⟩
  have hd2 : decide (6 < m) = false := decide_eq_false h2
  obtain ⟨n, hn⟩ : ∃ n : Nat, m = (n : Int) := ⟨m.toNat, by omega⟩
  subst hn
  obtain ⟨N, hN⟩ : ∃ N, 2 * n = N := ⟨_, rfl⟩
  have hw2 : IntKind.i64.wrap (2 * (n : Int)) = (N : Int) := by rw [IntKind.wrap_i64]; omega
  have HF : Hid (Tl.mtF (n : Int) d = if d.length ≠ N then 3 else if (List.range d.length).any (Tl.bdF n d) = true then 3 else if Tl.stsF n d N ≠ [] then 3 else 0) := hide (by
    unfold Tl.mtF
    rw [if_neg (by omega), Int.toNat_natCast, hN])
  rw [HR.out] at HF
  have hN12 : N ≤ 12 := by omega
  have hN0 : 0 < N := by omega
  have hn1 : 1 ≤ n := by omega
  have hn6 : n ≤ 6 := by omega
  have HNE := hide hN
  clear hN h1 h2 hwm HR
  by_cases h3 : l = N
  case neg =>
    have HE : Hid (R = 3) := hide (by rw [HF.out, if_pos (by rw [HL.out]; exact h3)])
    have hne := bne_tt h3
    go_enter Try.func13, Try.ntmps13
    go_wp2_with fail
    go_ret
    rw [HE.out]
    exact ⟨rfl, Below.refl _ _⟩
  subst h3
  have HF2 : Hid (R = if (List.range d.length).any (Tl.bdF n d) = true then 3 else if Tl.stsF n d l ≠ [] then 3 else 0) := hide (by rw [HF.out, if_neg (by rw [HL.out]; simp)])
  have HBD : Hid (∀ i, Tl.bdF n d i = (decide (d.getD i 0 < 0) || decide ((l : Int) ≤ d.getD i 0) || decide (d.getD i 0 = i) || decide (d.getD (d.getD i 0).toNat 0 ≠ i))) := hide (fun i => by unfold Tl.bdF; rw [show (2 * (n : Int)) = (l : Int) by have := HNE.out; omega])
  obtain ⟨i0, hi0, hz0, hz1, hz2⟩ := info_parts int_info
  have HI0 := hide hi0
  have HZ0 := hide hz0
  have HZ1 := hide hz1
  have HZ2 := hide hz2
  clear HF hi0 hz0 hz1 hz2
  go_enter Try.func13, Try.ntmps13
  go_wp2_with fail
  go_loop [24] (fun iv => ∃ i : Nat, iv = .int .i64 i ∧ i ≤ l ∧ Hid (∀ j, j < i → Tl.bdF n d j = false)) (fun iv => l - (intOf iv).toNat)
  case atStart => exact ⟨0, rfl, Nat.zero_le _, hide (fun j hj => absurd hj (by omega))⟩
  case round =>
    obtain ⟨i, rfl, hi, HBF⟩ := hrel
    by_cases hli : i < l
    · obtain ⟨ad, rfl, hcl⟩ := HA.out.at_ hli
      have hbi := HBD.out i
      have HYES : Hid (Tl.bdF n d i = true → R = 3) := hide (fun h => by rw [HF2.out, if_pos (Tl.bdF_one (by rw [HL.out]; exact hli) h)])
      have HNO : Hid (Tl.bdF n d i = false → ∀ j, j < i + 1 → Tl.bdF n d j = false) := hide (fun h j hj => by
        by_cases e : j = i
        · rw [e]; exact h
        · exact HBF.out j (by omega))
      generalize Tl.bdF n d i = bd at *
      by_cases k1 : d.getD i 0 < 0
      · have HE : Hid (R = 3) := hide (HYES.out (by rw [hbi, decide_eq_true k1]; rfl))
        have kd1 := decide_eq_true k1
        generalize d.getD i 0 = x at *
        clear hbi k1
        go_wp2_with fail
        go_ret
        rw [HE.out]
        exact ⟨rfl, Below.refl _ _⟩
      have kd1 := decide_eq_false k1
      by_cases k2 : (l : Int) ≤ d.getD i 0
      · have HE : Hid (R = 3) := hide (HYES.out (by rw [hbi, decide_eq_true k2]; simp))
        have kd2 := decide_eq_true k2
        generalize d.getD i 0 = x at *
        clear hbi k1 k2
        go_wp2_with fail
        go_ret
        rw [HE.out]
        exact ⟨rfl, Below.refl _ _⟩
      have kd2 := decide_eq_false k2
      obtain ⟨u, hu⟩ : ∃ u : Nat, d.getD i 0 = (u : Int) := ⟨(d.getD i 0).toNat, by omega⟩
      rw [hu] at hcl hbi kd1 kd2 k1 k2
      rw [Int.toNat_natCast, kd1, kd2] at hbi
      have hul : u < l := by omega
      clear hu k1 k2
      by_cases k3 : u = i
      · have HE : Hid (R = 3) := hide (HYES.out (by rw [hbi, decide_eq_true (show (u : Int) = (i : Int) by rw [k3])]; simp))
        have kd3 := beq_tt k3
        clear hbi k3
        go_wp2_with fail
        go_ret
        rw [HE.out]
        exact ⟨rfl, Below.refl _ _⟩
      have kd3 := beq_ff k3
      rw [decide_eq_false (show ¬ (u : Int) = (i : Int) by omega)] at hbi
      obtain ⟨ad2, e2, hcu⟩ := HA.out.at_ hul
      injection e2 with e2
      subst e2
      by_cases k4 : d.getD u 0 = (i : Int)
      · have HN1 := hide (HNO.out (by rw [hbi, decide_eq_false (fun h => h k4)]; rfl))
        rw [k4] at hcu
        clear hbi k3 k4 HYES HNO
        go_wp2_with fail
        go_round
        case rel => exact ⟨i + 1, by go_num, by omega, HN1⟩
        case measure => simp [intOf]; omega
      · have HE : Hid (R = 3) := hide (HYES.out (by rw [hbi, decide_eq_true k4]; simp))
        have kd4 : (d.getD u 0 != (i : Int)) = true := by simpa using k4
        generalize d.getD u 0 = z at *
        clear hbi k3 k4
        go_wp2_with fail
        go_ret
        rw [HE.out]
        exact ⟨rfl, Below.refl _ _⟩
    · have HF3 : Hid (R = if Tl.stsF n d l ≠ [] then 3 else 0) := hide (by
        rw [HF2.out, if_neg]
        rw [Tl.bdF_all (fun j hj => HBF.out j (by rw [HL.out] at hj; omega))]
        simp)
      clear HF2 HBF HBD
      go_wp2_with fail
      go_loopw [7, 53] (fun sv iv wr => ∃ (k q c2 : Nat) (S : Option Addr), sv = .slice S q c2 ∧ iv = .int .i64 k ∧ k ≤ l ∧ q ≤ k ∧ Hid (OwnI wr w.heap.size S q c2 (Tl.stsF n d k)) ∧ Hid (Below w.heap.size w wr)) (fun _ iv _ => l - (intOf iv).toNat)
      case atStart => exact ⟨0, 0, 0, none, rfl, rfl, Nat.zero_le _, Nat.le_refl _, hide (OwnI.nil_ _ _), hide (Below.refl _ _)⟩
      case round =>
        obtain ⟨k, q, c2, S, rfl, rfl, hk, hqk, HO, HB⟩ := hrel
        by_cases hlt : k < l
        · have HST := hide (Tl.stsF_succ n d k)
          have hll := HO.out.len
          obtain ⟨p, hp⟩ : ∃ p, Tl.posF n k = p := ⟨_, rfl⟩
          rw [hp] at HST
          have hpl : p < l := by
            have := HNE.out
            rw [← hp]
            unfold Tl.posF
            split <;> omega
          obtain ⟨ad, rfl, hcp⟩ := (HA.out.below HB.out).at_ hpl
          obtain ⟨L, hL⟩ : ∃ L, Tl.stsF n d k = L := ⟨_, rfl⟩
          obtain ⟨L2, hL2⟩ : ∃ L, Tl.stsF n d (k + 1) = L := ⟨_, rfl⟩
          have HL2 := hide hL2
          rw [hL] at HO HST hll
          rw [hL2] at HST
          unfold Tl.stF at HST
          rw [hll] at HST
          generalize hy : d.getD p 0 = y at *
          clear hL hL2 hy
          by_cases hkn : k < n
          · have hpk : k = p := by rw [← hp]; unfold Tl.posF; rw [if_pos hkn]
            have hge : decide ((n : Int) ≤ (k : Int)) = false := decide_eq_false (by omega)
            have hgn : decide (n ≤ k) = false := decide_eq_false (by omega)
            subst hpk
            clear hp hkn
            by_cases hq0 : q = 0
            · have HS : Hid (L2 = L ++ [(k : Int)]) := hide (by rw [HST.out, if_neg (fun h => absurd h.1 (by omega))])
              have hv : IntKind.i64.wrap ((q : Int) - 1) = -1 := by rw [IntKind.wrap_i64]; omega
              clear HST hq0 hll
              first
              | (
                go_upto_region 19 with fail
                go_quiet (fail)
                go_wp2_with (at_builtin; refine wpList_append_int _ rfl (.tmp 84) (.tmp 86) 22 rfl w.heap.size i0 Try.underlying22 HI0.out HZ0.out HZ1.out HZ2.out S q c2 L rfl ((HO.out.drewN _).alloc _) (some ⟨_, 0, none⟩) 1 1 [(k : Int)] rfl (IL.lit _ [(k : Int)] (by simp) rfl rfl) (by omega) (by have := HB.out.size; simp; omega) ?_; intro A8 c8 w8 hap)
                have hN := hap.own
                rw [← HS.out] at hN
                have HN := hide hN
                have HB8 := hide (((below_drewN HB.out nq).alloc (by have := HB.out.size; exact this) (.cells #[.int .i64 (k : Int)] 3)).grown hap.grown (by have := HB.out.size; simp; omega) (fun j hj => (HO.out.lt j (by rw [ownBlock_len S q (q + 1) c2 c2]; exact hj)).1))
                clear hap hN
                go_roundw
                case rel => exact ⟨k + 1, q + 1, c8, A8, by go_num, by go_num, by omega, by omega, by rw [HL2.out]; exact HN, HB8⟩
                case measure => simp [intOf]; omega)
            · obtain ⟨g, rfl, hg1, hg2⟩ := HO.out.form (by omega)
              obtain ⟨r, hr⟩ : ∃ r, q - 1 = r := ⟨_, rfl⟩
              have hrq : r < q := by omega
              have hv : IntKind.i64.wrap ((q : Int) - 1) = (r : Int) := by rw [IntKind.wrap_i64]; omega
              have hcap := HO.out.cap
              have hrc : (r : Int) ≤ (c2 : Int) := by omega
              have hrc2 : r ≤ c2 := by omega
              have hcs := HO.out.cell hrq
              have hge0 : decide ((0 : Int) ≤ (r : Int)) = true := decide_eq_true (by omega)
              rw [hr] at HST
              have HSH : Hid (OwnI wr w.heap.size (some ⟨g, 0, none⟩) r c2 (L.take r)) := hide (HO.out.shrink (by omega) (by omega))
              by_cases hz : L.getD r 0 = y
              · have HS : Hid (L2 = L.take r) := hide (by rw [HST.out, if_pos ⟨by omega, hz⟩])
                rw [← HS.out] at HSH
                rw [hz] at hcs
                have hzz : (y == y) = true := by simp
                clear HST hz hll hr hq0
                first
                | (
                  go_upto_region 19 with fail
                  go_quiet (fail)
                  go_wp2_with fail
                  go_roundw
                  case rel => exact ⟨k + 1, r, c2, _, rfl, by go_num, by omega, by omega, by rw [HL2.out]; exact hide (HSH.out.drewN _), hide (below_drewN HB.out _)⟩
                  case measure => simp [intOf]; omega)
              · have HS : Hid (L2 = L ++ [(k : Int)]) := hide (by rw [HST.out, if_neg (fun h => hz h.2)])
                have hzz : (L.getD r 0 == y) = false := by simpa using hz
                generalize L.getD r 0 = z at *
                clear HST hz hll hr hq0
                first
                | (
                  go_upto_region 19 with fail
                  go_quiet (fail)
                  go_wp2_with (at_builtin; refine wpList_append_int _ rfl (.tmp 84) (.tmp 86) 22 rfl w.heap.size i0 Try.underlying22 HI0.out HZ0.out HZ1.out HZ2.out (some ⟨g, 0, none⟩) q c2 L rfl ((HO.out.drewN _).alloc _) (some ⟨_, 0, none⟩) 1 1 [(k : Int)] rfl (IL.lit _ [(k : Int)] (by simp) rfl rfl) (by omega) (by have := HB.out.size; simp; omega) ?_; intro A8 c8 w8 hap)
                  have hN := hap.own
                  rw [← HS.out] at hN
                  have HN := hide hN
                  have HB8 := hide (((below_drewN HB.out nq).alloc (by have := HB.out.size; exact this) (.cells #[.int .i64 (k : Int)] 3)).grown hap.grown (by have := HB.out.size; simp; omega) (fun j hj => (HO.out.lt j (by rw [ownBlock_len (some ⟨g, 0, none⟩) q (q + 1) c2 c2]; exact hj)).1))
                  clear hap hN
                  go_roundw
                  case rel => exact ⟨k + 1, q + 1, c8, A8, by go_num, by go_num, by omega, by omega, by rw [HL2.out]; exact HN, HB8⟩
                  case measure => simp [intOf]; omega)
          · obtain ⟨T, hT⟩ : ∃ T, 3 * n = T := ⟨_, rfl⟩
            obtain ⟨T1, hT1⟩ : ∃ T1, T - 1 = T1 := ⟨_, rfl⟩
            have hpT : p = T1 - k := by rw [← hp]; unfold Tl.posF; rw [if_neg hkn, hT, hT1]
            have hge : decide ((n : Int) ≤ (k : Int)) = true := decide_eq_true (by omega)
            have hgn : decide (n ≤ k) = true := decide_eq_true (by omega)
            have hNe := HNE.out
            have hv1 : IntKind.i64.wrap (3 * (n : Int)) = (T : Int) := by rw [IntKind.wrap_i64]; omega
            have hv2 : IntKind.i64.wrap ((T : Int) - 1) = (T1 : Int) := by rw [IntKind.wrap_i64]; omega
            have hv3 : IntKind.i64.wrap ((T1 : Int) - (k : Int)) = (p : Int) := by rw [IntKind.wrap_i64]; omega
            clear hp hkn hT hT1 hpT hNe
            by_cases hq0 : q = 0
            · have HS : Hid (L2 = L ++ [(p : Int)]) := hide (by rw [HST.out, if_neg (fun h => absurd h.1 (by omega))])
              have hv : IntKind.i64.wrap ((q : Int) - 1) = -1 := by rw [IntKind.wrap_i64]; omega
              clear HST hq0 hll
              first
              | (
                go_upto_region 19 with fail
                go_quiet (fail)
                go_wp2_with (at_builtin; refine wpList_append_int _ rfl (.tmp 84) (.tmp 86) 22 rfl w.heap.size i0 Try.underlying22 HI0.out HZ0.out HZ1.out HZ2.out S q c2 L rfl ((HO.out.drewN _).alloc _) (some ⟨_, 0, none⟩) 1 1 [(p : Int)] rfl (IL.lit _ [(p : Int)] (by simp) rfl rfl) (by omega) (by have := HB.out.size; simp; omega) ?_; intro A8 c8 w8 hap)
                have hN := hap.own
                rw [← HS.out] at hN
                have HN := hide hN
                have HB8 := hide (((below_drewN HB.out nq).alloc (by have := HB.out.size; exact this) (.cells #[.int .i64 (p : Int)] 3)).grown hap.grown (by have := HB.out.size; simp; omega) (fun j hj => (HO.out.lt j (by rw [ownBlock_len S q (q + 1) c2 c2]; exact hj)).1))
                clear hap hN
                go_roundw
                case rel => exact ⟨k + 1, q + 1, c8, A8, by go_num, by go_num, by omega, by omega, by rw [HL2.out]; exact HN, HB8⟩
                case measure => simp [intOf]; omega)
            · obtain ⟨g, rfl, hg1, hg2⟩ := HO.out.form (by omega)
              obtain ⟨r, hr⟩ : ∃ r, q - 1 = r := ⟨_, rfl⟩
              have hrq : r < q := by omega
              have hv : IntKind.i64.wrap ((q : Int) - 1) = (r : Int) := by rw [IntKind.wrap_i64]; omega
              have hcap := HO.out.cap
              have hrc : (r : Int) ≤ (c2 : Int) := by omega
              have hrc2 : r ≤ c2 := by omega
              have hcs := HO.out.cell hrq
              have hge0 : decide ((0 : Int) ≤ (r : Int)) = true := decide_eq_true (by omega)
              rw [hr] at HST
              have HSH : Hid (OwnI wr w.heap.size (some ⟨g, 0, none⟩) r c2 (L.take r)) := hide (HO.out.shrink (by omega) (by omega))
              by_cases hz : L.getD r 0 = y
              · have HS : Hid (L2 = L.take r) := hide (by rw [HST.out, if_pos ⟨by omega, hz⟩])
                rw [← HS.out] at HSH
                rw [hz] at hcs
                have hzz : (y == y) = true := by simp
                clear HST hz hll hr hq0
                first
                | (
                  go_upto_region 19 with fail
                  go_quiet (fail)
                  go_wp2_with fail
                  go_roundw
                  case rel => exact ⟨k + 1, r, c2, _, rfl, by go_num, by omega, by omega, by rw [HL2.out]; exact hide (HSH.out.drewN _), hide (below_drewN HB.out _)⟩
                  case measure => simp [intOf]; omega)
              · have HS : Hid (L2 = L ++ [(p : Int)]) := hide (by rw [HST.out, if_neg (fun h => hz h.2)])
                have hzz : (L.getD r 0 == y) = false := by simpa using hz
                generalize L.getD r 0 = z at *
                clear HST hz hll hr hq0
                first
                | (
                  go_upto_region 19 with fail
                  go_quiet (fail)
                  go_wp2_with (at_builtin; refine wpList_append_int _ rfl (.tmp 84) (.tmp 86) 22 rfl w.heap.size i0 Try.underlying22 HI0.out HZ0.out HZ1.out HZ2.out (some ⟨g, 0, none⟩) q c2 L rfl ((HO.out.drewN _).alloc _) (some ⟨_, 0, none⟩) 1 1 [(p : Int)] rfl (IL.lit _ [(p : Int)] (by simp) rfl rfl) (by omega) (by have := HB.out.size; simp; omega) ?_; intro A8 c8 w8 hap)
                  have hN := hap.own
                  rw [← HS.out] at hN
                  have HN := hide hN
                  have HB8 := hide (((below_drewN HB.out nq).alloc (by have := HB.out.size; exact this) (.cells #[.int .i64 (p : Int)] 3)).grown hap.grown (by have := HB.out.size; simp; omega) (fun j hj => (HO.out.lt j (by rw [ownBlock_len (some ⟨g, 0, none⟩) q (q + 1) c2 c2]; exact hj)).1))
                  clear hap hN
                  go_roundw
                  case rel => exact ⟨k + 1, q + 1, c8, A8, by go_num, by go_num, by omega, by omega, by rw [HL2.out]; exact HN, HB8⟩
                  case measure => simp [intOf]; omega)
        · have hkl : k = l := by omega
          have HE : Hid (R = if 0 < q then 3 else 0) := hide (by
            rw [HF3.out, ← hkl]
            have hll := HO.out.len
            by_cases h0 : 0 < q
            · rw [if_pos h0, if_pos]
              intro e
              rw [e] at hll
              simp at hll
              omega
            · rw [if_neg h0, if_neg]
              have : Tl.stsF n d k = [] := List.eq_nil_of_length_eq_zero (by omega)
              simp [this])
          clear hkl HO
          by_cases h0 : 0 < q
          · have hd0 : decide ((0 : Int) < (q : Int)) = true := decide_eq_true (by omega)
            go_wp2_with fail
            go_ret
            rw [HE.out, if_pos h0]
            exact ⟨rfl, HB.out⟩
          · have hd0 : decide ((0 : Int) < (q : Int)) = false := decide_eq_false (by omega)
            go_wp2_with fail
            go_ret
            rw [HE.out, if_neg h0]
            exact ⟨rfl, HB.out⟩
end Go.Proofs.Ythhcjnmlpojjeaa
