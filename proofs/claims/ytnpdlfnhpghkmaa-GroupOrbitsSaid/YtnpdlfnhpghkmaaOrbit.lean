/- permgroup.orbitOf. -/
import Derived.Test.YtnpdlfnhpghkmaaExt
import Derived.Test.YtnpdlfnhpghkmaaIndex
import Derived.Test.YtnpdlfnhpghkmaaSort2
namespace Go.Proofs.Ytnpdlfnhpghkmaa
open Go.RowKit Go.Maps

set_option maxHeartbeats 1000000 in
theorem index_not (A : Option Addr) (n c : Nat) (us : List Nat) (x : Nat) (w : World) (ha : IL w A n (zs us)) (hx : x ∉ us) :
    Calls Try.prog 46 #[.slice A n c, .int .i64 x] w fun e w' => e = .returned (.int .i64 (-1)) ∧ w = w' := by
  have hna := ha.small
  have HL : Hid (us.length = n) := by have := ha.len; rwa [zs_length] at this
  have HX := hide hx
  clear hx
  go_enter Try.func46, Try.ntmps46
  go_wp2
  go_loop [8] (fun i => ∃ k : Nat, k ≤ n ∧ i = .int .i64 k) (fun i => n - (intOf i).toNat)
  case atStart => exact ⟨0, Nat.zero_le _, rfl⟩
  case round =>
    obtain ⟨k, hk, rfl⟩ := hrel
    by_cases hlt : k < n
    · obtain ⟨ad, rfl, hca⟩ := ha.at_ hlt
      rw [zs_getD] at hca
      have he : us.getD k 0 ≠ x := fun e => HX.out (by rw [← e]; exact getD_mem (by rw [HL.out]; exact hlt))
      have hb : ((x : Int) == ((us.getD k 0 : Nat) : Int)) = false := by
        have : ¬ (x : Int) = ((us.getD k 0 : Nat) : Int) := fun e => he (by omega)
        simpa using this
      clear he
      generalize us.getD k 0 = y at *
      go_wp2
      go_round
      case rel => exact ⟨k + 1, by omega, by go_num⟩
      case measure => simp [intOf]; omega
    · go_wp2
      go_ret
      exact ⟨rfl, rfl⟩
theorem contains_yes (A : Option Addr) (n c : Nat) (us : List Nat) (x : Nat) (w : World) (ha : IL w A n (zs us)) (hx : x ∈ us) :
    Calls Try.prog 60 #[.slice A n c, .int .i64 x] w fun e w' => e = .returned (.bool true) ∧ w = w' := by
  have HC := hide (index_mem A n c us x w ha hx)
  have h63 : us.idxOf x < us.length := idxOf_lt hx
  have hl := ha.len
  have hs := ha.small
  rw [zs_length] at hl
  clear ha hx
  generalize us.idxOf x = k at *
  go_enter Try.func60, Try.ntmps60
  go_wp2_with fail
  refine HC.out.mono ?_
  rintro e w1 ⟨rfl, rfl⟩
  go_wp2
  go_ret
  exact ⟨rfl, rfl⟩
theorem contains_no (A : Option Addr) (n c : Nat) (us : List Nat) (x : Nat) (w : World) (ha : IL w A n (zs us)) (hx : x ∉ us) :
    Calls Try.prog 60 #[.slice A n c, .int .i64 x] w fun e w' => e = .returned (.bool false) ∧ w = w' := by
  have HC := hide (index_not A n c us x w ha hx)
  clear ha hx
  go_enter Try.func60, Try.ntmps60
  go_wp2_with fail
  refine HC.out.mono ?_
  rintro e w1 ⟨rfl, rfl⟩
  go_wp2
  go_ret
  exact ⟨rfl, rfl⟩

/-- The search's state: the orbit so far, i of it done, k generators of the next. -/
structure BfsSt (n : Nat) (gl : List (List Nat)) (x : Nat) (o : List Nat) (i k : Nat) : Prop where
  nd : o.Nodup
  x0 : x ∈ o
  reach : ∀ y ∈ o, Orb n gl x y
  done : ∀ a, a < i → ∀ g ∈ gl, g.getD (o.getD a 0) 0 ∈ o
  part : ∀ g ∈ gl.take k, g.getD (o.getD i 0) 0 ∈ o
section
variable {n : Nat} {gl : List (List Nat)} {x i k : Nat} {o : List Nat}
theorem BfsSt.len (h : BfsSt n gl x o i k) (hP : PMs n gl) (hx : x < n) : o.length ≤ n := nodup_length_le n o h.nd fun y hy => (h.reach y hy).lt hP hx
theorem BfsSt.at_lt (h : BfsSt n gl x o i k) (hP : PMs n gl) (hx : x < n) {a : Nat} (ha : a < o.length) : o.getD a 0 < n := (h.reach _ (getD_mem ha)).lt hP hx
theorem take_mem {k : Nat} {g : List Nat} (hk : k < gl.length) : g ∈ gl.take (k + 1) ↔ g ∈ gl.take k ∨ g = gl.getD k [] := by
  rw [List.take_succ_eq_append_getElem hk, List.mem_append]
  have : gl.getD k [] = gl[k] := by simp [List.getD, List.getElem?_eq_getElem hk]
  rw [this]
  simp
theorem getD_mem' {k : Nat} (hk : k < gl.length) : gl.getD k [] ∈ gl := by
  rw [show gl.getD k [] = gl[k] by simp [List.getD, List.getElem?_eq_getElem hk]]
  exact List.getElem_mem hk
theorem BfsSt.old (h : BfsSt n gl x o i k) (hk : k < gl.length) (hm : (gl.getD k []).getD (o.getD i 0) 0 ∈ o) : BfsSt n gl x o i (k + 1) := by
  refine ⟨h.nd, h.x0, h.reach, h.done, fun g hg => ?_⟩
  rcases (take_mem hk).1 hg with hg | rfl
  · exact h.part g hg
  · exact hm
theorem BfsSt.new (h : BfsSt n gl x o i k) (hP : PMs n gl) (hx : x < n) (hi : i < o.length) (hk : k < gl.length) {y : Nat} (hy : (gl.getD k []).getD (o.getD i 0) 0 = y) (hm : y ∉ o) : BfsSt n gl x (o ++ [y]) i (k + 1) := by
  have e : ∀ a, a ≤ i → (o ++ [y]).getD a 0 = o.getD a 0 := fun a ha => by
    simp only [List.getD]
    rw [List.getElem?_append_left (by omega)]
  refine ⟨?_, List.mem_append_left _ h.x0, fun z hz => ?_, fun a ha g hg => ?_, fun g hg => ?_⟩
  · rw [List.nodup_append]
    refine ⟨h.nd, by simp, fun a ha b hb hab => ?_⟩
    have hb' : b = y := by simpa using hb
    rw [hab, hb'] at ha
    exact hm ha
  · rcases List.mem_append.1 hz with hz | hz
    · exact h.reach z hz
    · obtain rfl : z = y := by simpa using hz
      rw [← hy]
      exact (h.reach _ (getD_mem hi)).gen hP hx (getD_mem' hk)
  · rw [e a (by omega)]
    exact List.mem_append_left _ (h.done a ha g hg)
  · rw [e i (Nat.le_refl _)]
    rcases (take_mem hk).1 hg with hg | rfl
    · exact List.mem_append_left _ (h.part g hg)
    · rw [hy]; simp
theorem BfsSt.next (h : BfsSt n gl x o i gl.length) : BfsSt n gl x o (i + 1) 0 := by
  refine ⟨h.nd, h.x0, h.reach, fun a ha g hg => ?_, fun g hg => by simp at hg⟩
  by_cases e : a = i
  · subst e
    exact h.part g (by rw [List.take_length]; exact hg)
  · exact h.done a (by omega) g hg
theorem BfsSt.orbit (h : BfsSt n gl x o o.length 0) (hP : PMs n gl) (hx : x < n) {os : List Nat} (hp : os.Perm o) (hs : os.Pairwise (· ≤ ·)) : IsOrb n gl x os := by
  have hnd : os.Nodup := hp.nodup_iff.2 h.nd
  refine ⟨?_, fun y => ?_⟩
  · have := hs.and (List.nodup_iff_pairwise_ne.1 hnd)
    exact this.imp fun {a b} hab => Nat.lt_of_le_of_ne hab.1 hab.2
  · rw [hp.mem_iff]
    refine orb_closed hP hx h.x0 h.reach (fun y hy g hg => ?_) y
    obtain ⟨a, ha, rfl⟩ := List.mem_iff_getElem.1 hy
    have := h.done a ha g hg
    rwa [getD_eq ha] at this
end

set_option maxRecDepth 100000 in
set_option maxHeartbeats 4000000 in
theorem orbitOf_any (A : Option Addr) (n l c x : Nat) (gl : List (List Nat)) (w : World) (hg : ILL w A l (zss gl)) (hn : n ≤ 9) (hP : PMs n gl) (hx : x < n) :
    Calls Try.prog 48 #[.slice A l c, .int .i64 x] w fun e w' => ∃ os B m d, IsOrb n gl x os ∧ e = .returned (.slice B m d) ∧ OwnI w' w.heap.size B m d (zs os) ∧ Below w.heap.size w w' := by
  obtain ⟨i0, hi0, hz0, hz1, hz2⟩ := info_parts int_info
  have HG := hide hg
  have HP := hide hP
  have hgl : gl.length = l := by have := hg.len; simpa [zss] using this
  have HGL := hide hgl
  clear hgl
  have hlm := hg.small
  clear hg hP
  go_enter Try.func48, Try.ntmps48
  go_wp2
  have hO : OwnI (w.alloc (.cells #[.int .i64 x] 3)) w.heap.size (some ⟨w.heap.size, 0, none⟩) 1 1 (zs [x]) := OwnI.lit w (zs [x]) (Nat.le_refl _) (by simp [zs]) rfl rfl rfl
  have hB : Below w.heap.size w (w.alloc (.cells #[.int .i64 x] 3)) := (Below.refl _ _).alloc (Nat.le_refl _) _
  generalize w.alloc (.cells #[.int .i64 x] 3) = w1 at *
  go_loopw [5, 6] (fun ov iv wr => ∃ (o : List Nat) (i m d : Nat) (B : Option Addr), ov = .slice B m d ∧ iv = .int .i64 i ∧ i ≤ m ∧ OwnI wr w.heap.size B m d (zs o) ∧ Hid (BfsSt n gl x o i 0) ∧ Below w.heap.size w wr) (fun _ iv _ => 100 - (intOf iv).toNat)
  case atStart => 
    have h0 : BfsSt n gl x [x] 0 0 := by
      refine ⟨by simp, by simp, fun y hy => ?_, fun a ha => by omega, fun g hg => by simp at hg⟩
      have : y = x := by simpa using hy
      rw [this]
      exact Orb.refl hx
    exact ⟨[x], 0, 1, 1, _, rfl, rfl, by omega, hO, hide h0, hB⟩
  case round =>
    clear hO hB
    obtain ⟨o, i, m, d, B, rfl, rfl, him, ho, hst, hnx⟩ := hrel
    have hm : o.length = m := by have := ho.len; rwa [zs_length] at this
    have hm9 : m ≤ 9 := by rw [← hm]; exact Nat.le_trans (hst.out.len HP.out hx) hn
    by_cases hlt : i < m
    · have hi9 : i ≤ 9 := by omega
      have HM := hide hm
      clear hm
      go_wp2
      rename World => wo
      go_loopw [5, 20] (fun ov kv wr => ∃ (o : List Nat) (k m d : Nat) (B : Option Addr), ov = .slice B m d ∧ kv = .int .i64 k ∧ k ≤ l ∧ i < m ∧ OwnI wr w.heap.size B m d (zs o) ∧ Hid (BfsSt n gl x o i k) ∧ Below w.heap.size w wr) (fun _ kv _ => l - (intOf kv).toNat)
      case atStart => exact ⟨o, 0, m, d, B, rfl, rfl, by omega, hlt, ho, hst, hnx⟩
      case round =>
        clear ho hst hnx
        obtain ⟨o, k, m, d, B, rfl, rfl, hk, him, ho, hst, hnx⟩ := hrel
        have hm : o.length = m := by have := ho.len; rwa [zs_length] at this
        have hm9 : m ≤ 9 := by rw [← hm]; exact Nat.le_trans (hst.out.len HP.out hx) hn
        by_cases hkl : k < l
        · have hkg : k < gl.length := by rw [HGL.out]; exact hkl
          obtain ⟨ad, B2, m2, d2, rfl, hcl, hil⟩ := (HG.out.below hnx).at_ hkl
          rw [zss_getD hkg] at hil
          have hpk : PM n (gl.getD k []) := HP.out _ (getD_mem' hkg)
          have hm2 : m2 = n := by have := hil.len; rw [zs_length, hpk.2] at this; exact this.symm
          have hoi : o.getD i 0 < n := hst.out.at_lt HP.out hx (by omega)
          obtain ⟨ad1, rfl, hc1⟩ := ho.il.at_ him
          rw [zs_getD] at hc1
          obtain ⟨ad2, rfl, hc2⟩ := hil.at_ (k := o.getD i 0) (by omega)
          rw [zs_getD] at hc2
          have hs0 := hnx.size
          have HST := hide hst.out
          have HKG := hide hkg
          have HM := hide hm
          have hyn := hpk.lt hoi
          clear hst hil hpk hkg hm
          obtain ⟨z, hz⟩ : ∃ z, o.getD i 0 = z := ⟨_, rfl⟩
          obtain ⟨y, hy⟩ : ∃ y, (gl.getD k []).getD z 0 = y := ⟨_, rfl⟩
          have HY : Hid ((gl.getD k []).getD (o.getD i 0) 0 = y) := by rw [hz]; exact hy
          rw [hz] at hc1 hc2 hoi hyn
          rw [hy] at hc2 hyn
          clear hz hy
          have hzm : z < m2 := by omega
          by_cases hmem : y ∈ o
          · have HN := hide (HST.out.old HKG.out (by rw [HY.out]; exact hmem))
            have HC := hide (contains_yes (some ad1) m d o y wr ho.il hmem)
            clear hmem
            go_wp2_with fail
            refine HC.out.mono ?_
            rintro e w3 ⟨rfl, rfl⟩
            go_wp2
            go_roundw
            case rel => exact ⟨o, k + 1, m, d, some ad1, rfl, by go_num, by omega, him, ho, HN, hnx⟩
            case measure => simp [intOf]; omega
          · have HN := hide (HST.out.new HP.out hx (by rw [HM.out]; exact him) HKG.out HY.out hmem)
            have HC := hide (contains_no (some ad1) m d o y wr ho.il hmem)
            clear hmem
            go_wp2_with fail
            refine HC.out.mono ?_
            rintro e w3 ⟨rfl, rfl⟩
            go_wp2_with (at_builtin; refine wpList_append_int _ rfl _ _ 23 rfl w.heap.size i0 Try.underlying23 hi0 hz0 hz1 hz2 (some ad1) m d (zs o) rfl (ho.alloc _) (some ⟨_, 0, none⟩) 1 1 [(y : Int)] rfl (IL.lit _ [(y : Int)] (by simp) rfl rfl) (by omega) (by simp; omega) ?_; intro A8 c8 w8 happ)
            have hg8 := happ.grown
            have ho8 : OwnI w8 w.heap.size A8 (m + 1) c8 (zs (o ++ [y])) := by
              have := happ.own
              rwa [show zs o ++ [(y : Int)] = zs (o ++ [y]) by simp [zs]] at this
            have hnx8 : Below w.heap.size w w8 := (hnx.alloc hs0 _).grown hg8 (by simp; omega) (fun b hb => (ho.lt b (by rw [← hb]; exact ownBlock_len _ _ _ _ _)).1)
            clear happ hg8 ho
            go_roundw
            case rel => exact ⟨_, k + 1, m + 1, c8, A8, rfl, by go_num, by omega, by omega, ho8, HN, hnx8⟩
            case measure => simp [intOf]; omega
        · have hkl' : k = gl.length := by rw [HGL.out]; omega
          rw [hkl'] at hst
          have HN := hide hst.out.next
          clear hst hkl'
          go_wp2
          go_roundw
          case rel => exact ⟨o, i + 1, m, d, B, rfl, by go_num, by omega, ho, HN, hnx⟩
          case measure => simp [intOf]; omega
    · have hie : i = o.length := by omega
      rw [hie] at hst
      have HST := hide hst.out
      clear hst hie
      go_wp2_with fail
      refine (sort_any B m d w.heap.size (zs o) wr ho hm9).mono ?_
      rintro e w2 ⟨rfl, ys, hys, hperm, hsort, hg2⟩
      have hs0 := hnx.size
      have hnx2 : Below w.heap.size w w2 := hnx.grown hg2 hs0 (fun b hb => (ho.lt b hb).1)
      obtain ⟨os, hos, hop⟩ : ∃ os, ys = zs os ∧ os.Perm o := by
        refine ⟨ys.map Int.toNat, ?_, ?_⟩
        · unfold zs
          rw [List.map_map]
          have : ∀ y ∈ ys, Int.ofNat y.toNat = y := fun y hy => by
            have h1 := hperm.mem_iff.1 hy
            obtain ⟨u, _, rfl⟩ := List.mem_map.1 h1
            rfl
          exact (List.map_id' ys).symm.trans (List.map_congr_left fun y hy => (this y hy).symm)
        · have := hperm.map Int.toNat
          rwa [show (zs o).map Int.toNat = o by unfold zs; rw [List.map_map]; simp [Function.comp_def]] at this
      subst hos
      have hso : os.Pairwise (· ≤ ·) := by
        unfold zs at hsort
        rw [List.pairwise_map] at hsort
        exact hsort.imp fun {a b} h => by simpa using h
      have HO := hide (HST.out.orbit HP.out hx hop hso)
      clear hperm hop hso hsort ho hnx hg2
      go_wp2
      go_ret
      exact ⟨os, B, m, d, HO.out, rfl, hys, hnx2⟩
end Go.Proofs.Ytnpdlfnhpghkmaa
