/- Cycles. -/
import Derived.Test.YtpemnhalilefmaaCycle
import Derived.Test.YtpemnhalilefmaaSlices
import Derived.Test.YtpemnhalilefmaaCheck
namespace Go.Proofs.Ytpemnhalilefmaa
open Go.RowKit

theorem slice_info : (Try.prog.info? 22).map (fun i => (i.zero, i.size, i.bytes)) = some (some (.slice none 0 0), 1, 24) := by kernel_rfl

/-- A slice of slices in new memory, and no error. -/
def GivesRows0 (w : World) (xss : List (List Int)) (e : Ending) (w' : World) : Prop :=
  ∃ A n c vs, e = .returned (.tuple #[.slice A n c, .int .i64 0]) ∧ OwnV w' w.heap.size A n c vs ∧ RowsI w' w.heap.size vs xss ∧ Below w.heap.size w w'

/-- What the loop over the elements knows. -/
structure CycSt (a : List Nat) (k : Nat) (w wr : World) (g6 : Nat) (A5 : Option Addr) (m c5 : Nat) (vs : List Value) (M : List Int) : Prop where
  own : OwnV wr w.heap.size A5 m c5 vs
  rows : RowsI wr w.heap.size vs ((cycsTo a k).map zs)
  seen : Blk wr g6 53 (seenA M)
  seenTo : SeenTo a k M
  below : Below w.heap.size w wr
  small : m ≤ k

/-- What the inner loop knows. -/
structure MarkSt (a : List Nat) (k : Nat) (w wr : World) (g6 : Nat) (A5 : Option Addr) (m c5 : Nat) (vs : List Value) (M : List Int) (A8 : Option Addr) (n8 c8 j : Nat) : Prop where
  own : OwnV wr w.heap.size A5 m c5 vs
  rows : RowsI wr w.heap.size vs ((cycsTo a k).map zs)
  seen : Blk wr g6 53 (seenA (M ++ zs ((cyc a k).take j)))
  below : Below w.heap.size w wr
  cyc : OwnI wr w.heap.size A8 n8 c8 (zs (cyc a k))

theorem cyc_start {a : List Nat} {k : Nat} {w wr w2 : World} {g6 : Nat} {A5 A8 : Option Addr} {m c5 n8 c8 : Nat} {vs : List Value} {M : List Int} (h : CycSt a k w wr g6 A5 m c5 vs M)
    (hown : OwnI w2 wr.heap.size A8 n8 c8 (zs (Go.Proofs.Ytpemnhalilefmaa.cyc a k))) (hb : Below wr.heap.size wr w2) : MarkSt a k w w2 g6 A5 m c5 vs M A8 n8 c8 0 :=
  ⟨h.own.keep (KeepT.below hb), h.rows.keep (KeepT.below hb), by simpa [zs] using h.seen.below hb h.seen.lt, h.below.trans (hb.mono h.below.size), hown.mono h.below.size⟩

theorem mark_step {a : List Nat} {k : Nat} {w wr : World} {g6 : Nat} {A5 A8 : Option Addr} {m c5 n8 c8 j x : Nat} {vs : List Value} {M : List Int} (h : MarkSt a k w wr g6 A5 m c5 vs M A8 n8 c8 j)
    (hj : j < n8) (hx : (Go.Proofs.Ytpemnhalilefmaa.cyc a k).getD j 0 = x) (hg : w.heap.size ≤ g6) : MarkSt a k w (wr.setCell ⟨g6, x, none⟩ (.bool true)) g6 A5 m c5 vs M A8 n8 c8 (j + 1) := by
  have hl := h.cyc.len
  rw [zs_length] at hl
  refine ⟨h.own.keep (KeepT.set_ h.seen (by decide) _ _), h.rows.keep (KeepT.set_ h.seen (by decide) _ _), ?_, h.below.setCell hg _, (KeepT.set_ h.seen (by decide) _ _).ownI h.cyc⟩
  have e : M ++ zs ((Go.Proofs.Ytpemnhalilefmaa.cyc a k).take (j + 1)) = M ++ zs ((Go.Proofs.Ytpemnhalilefmaa.cyc a k).take j) ++ [(x : Int)] := by
    rw [List.take_succ_eq_append_getElem (by omega), ← getD_eq (by omega), hx, List.append_assoc]
    simp [zs]
  rw [e, ← seenA_set]
  exact h.seen.set_ _ _

theorem mark_end {a : List Nat} {k : Nat} {w wr : World} {g6 : Nat} {A5 A8 : Option Addr} {m c5 n8 c8 : Nat} {vs : List Value} {M : List Int} (h : MarkSt a k w wr g6 A5 m c5 vs M A8 n8 c8 n8)
    (hM : SeenTo a k M) (hm : m ≤ k) (hp : ¬ 1 < n8) : CycSt a (k + 1) w wr g6 A5 m c5 vs (M ++ zs (Go.Proofs.Ytpemnhalilefmaa.cyc a k)) := by
  have hl := h.cyc.len
  rw [zs_length] at hl
  have hs := h.seen
  rw [List.take_of_length_le (by omega)] at hs
  have e : cycsTo a (k + 1) = cycsTo a k := by
    rw [cyc_length] at hl
    rw [cycsTo_succ, if_neg (by simp; omega), List.append_nil]
  exact ⟨h.own, by rw [e]; exact h.rows, hs, seen_add hM, h.below, by omega⟩

theorem mark_add {a : List Nat} {k : Nat} {w wr w9 : World} {g6 : Nat} {A5 A8 A9 : Option Addr} {m c5 n8 c8 c9 : Nat} {vs : List Value} {M : List Int} (h : MarkSt a k w wr g6 A5 m c5 vs M A8 n8 c8 n8)
    (hM : SeenTo a k M) (hm : m ≤ k) (hp : 1 < n8) (hmin : isMin a k = true) (happ : AppendedV (wr.alloc (.cells #[.slice A8 n8 c8] 22)) w.heap.size A5 (m + 1) c5 (vs ++ [.slice A8 n8 c8]) A9 c9 w9) (hg6 : g6 < wr.heap.size) :
    CycSt a (k + 1) w w9 g6 A9 (m + 1) c9 (vs ++ [.slice A8 n8 c8]) (M ++ zs (Go.Proofs.Ytpemnhalilefmaa.cyc a k)) := by
  have hl := h.cyc.len
  rw [zs_length] at hl
  have hs := h.seen
  rw [List.take_of_length_le (by omega)] at hs
  have hblk : ∀ g, (Value.slice A5 (m + 1) c5).ownBlock = some g → w.heap.size ≤ g ∧ g < wr.heap.size ∧ ∃ (cs : Array Value), wr.heap[g]? = some (.cells cs 22 (0, 0)) := by
    intro g hg
    rw [ownBlock_len A5 (m + 1) m c5 c5] at hg
    obtain ⟨h1, h2⟩ := h.own.lt g hg
    refine ⟨h1, h2, ?_⟩
    rcases h.own.own.2 with ⟨hv, _⟩ | ⟨g', cap, cur, hv, _, hh, _⟩
    · rw [hv] at hg; cases hg
    · rw [hv] at hg
      injection hg with hg
      subst hg
      exact ⟨cur, hh⟩
  have k3 : KeepT 3 wr w9 := (KeepT.alloc wr _).trans (KeepT.grown happ.grown (fun g hg => by
    obtain ⟨_, h2, cs, h3⟩ := hblk g hg
    exact ⟨22, cs, (Below.heap_alloc wr _ g h2).trans h3, by decide⟩))
  have e : cycsTo a (k + 1) = cycsTo a k ++ [Go.Proofs.Ytpemnhalilefmaa.cyc a k] := by
    rw [cyc_length] at hl
    rw [cycsTo_succ, if_pos (by simp [hmin]; omega)]
  refine ⟨happ.own, ?_, ?_, seen_add hM, ?_, by omega⟩
  · rw [e, List.map_append]
    exact (h.rows.keep k3).snoc (k3.ownI h.cyc)
  · refine ((hs.alloc _).grown happ.grown ?_)
    intro he
    obtain ⟨_, _, cs, h3⟩ := hblk g6 he.symm
    unfold Blk at hs
    rw [h3] at hs
    injection hs with hs
    injection hs with _ hs
    exact absurd hs (by decide)
  · exact (h.below.alloc h.below.size _).grown happ.grown (Nat.le_trans h.below.size (by simp)) (fun g hg => (hblk g hg).1)

theorem cyc_skip {a : List Nat} (pa : isP a) {k : Nat} {w wr : World} {g6 : Nat} {A5 : Option Addr} {m c5 : Nat} {vs : List Value} {M : List Int} (h : CycSt a k w wr g6 A5 m c5 vs M) (hk : k < a.length) (hs : (k : Int) ∈ M) :
    CycSt a (k + 1) w wr g6 A5 m c5 vs M := by
  have hm := (seen_min pa hk h.seenTo).1 hs
  have e : cycsTo a (k + 1) = cycsTo a k := by
    rw [cycsTo_succ, if_neg (by simp [hm]), List.append_nil]
  exact ⟨h.own, by rw [e]; exact h.rows, h.seen, seen_skip pa hk h.seenTo hs, h.below, by have := h.small; omega⟩

set_option maxHeartbeats 2000000 in
theorem cycles_ok (A : Option Addr) (n c : Nat) (a : List Nat) (w : World) (ha : IL w A n (zs a)) (pa : isP a) (h9 : a.length ≤ 9) :
    Calls Try.prog 21 #[.slice A n c] w (GivesRows0 w ((cycs a).map zs)) := by
  obtain ⟨i0, hi0, hz0, hz1, hz2⟩ := info_parts slice_info
  have HA := hide (pa.pf h9)
  have HL : Hid (a.length = n) := by have := ha.len; rwa [zs_length] at this
  have hn9 : n ≤ 9 := by have := HL.out; omega
  have HP := hide pa
  clear pa h9
  go_enter Try.func21, Try.ntmps21
  go_wp2_with fail
  refine (check_any _ _ _ _ _ ha).mono ?_
  rw [HA.out]
  rintro e w1 ⟨rfl, hb1⟩
  have hsz1 := hb1.size
  go_wp2
  go_loopw [5, 18] (fun cv i wr => ∃ (k m c5 : Nat) (A5 : Option Addr) (vs : List Value) (M : List Int), i = .int .i64 k ∧ cv = .slice A5 m c5 ∧ k ≤ n ∧ CycSt a k w wr w1.heap.size A5 m c5 vs M) (fun _ i _ => n - (intOf i).toNat)
  case atStart => exact ⟨0, 0, 0, none, [], [], rfl, rfl, Nat.zero_le _, OwnV.nil_ _ _, RowsI.nil_ _ _, Blk.new _ _ _, (fun x => by simp), hb1.alloc hsz1 _, Nat.le_refl _⟩
  case round =>
    obtain ⟨k, m, c5, A5, vs, M, rfl, rfl, hk, hst⟩ := hrel
    have ha' := ha.below hst.below
    by_cases hlt : k < n
    · have hkl : k < a.length := by have := HL.out; omega
      have hcell := (hst.seen.cell k).trans (seenA_get M k (by omega))
      by_cases hs : (k : Int) ∈ M
      · have HS := hide (cyc_skip HP.out hst hkl hs)
        rw [decide_eq_true hs] at hcell
        clear hs hst ha' ha
        go_wp2
        go_roundw
        case rel => exact ⟨k + 1, m, c5, A5, vs, M, by go_num, rfl, by omega, HS.out⟩
        case measure => simp [intOf]; omega
      · have HM := hide hs
        rw [decide_eq_false hs] at hcell
        clear hs
        have HST := hide hst
        clear hst
        have HA' := hide ha
        clear ha
        go_wp2_with fail
        refine (cycleFrom_any _ _ _ _ _ _ ha' HP.out hlt).mono ?_
        rintro e w2 ⟨A8, n8, c8, rfl, hown8, hb2⟩
        have hn8 : n8 ≤ 9 := by
          have h1 := hown8.len
          rw [zs_length, cyc_length] at h1
          have h2 := (per_spec HP.out hkl).2.1
          have h3 := HL.out
          omega
        have hms := cyc_start HST.out hown8 hb2
        have hsmall := HST.out.small
        clear hown8 hb2 hcell ha'
        go_wp2
        go_loopw [29] (fun jv wr => ∃ j : Nat, jv = .int .i64 j ∧ j ≤ n8 ∧ MarkSt a k w wr w1.heap.size A5 m c5 vs M A8 n8 c8 j) (fun jv _ => n8 - (intOf jv).toNat)
        case atStart => exact ⟨0, rfl, Nat.zero_le _, hms⟩
        case round =>
          obtain ⟨j, rfl, hj, hmj⟩ := hrel
          clear hms
          have hil := hmj.cyc.il
          by_cases hjlt : j < n8
          · obtain ⟨ad8, rfl, hcx⟩ := hil.at_ hjlt
            rw [zs_getD] at hcx
            have hxl : (cyc a k).getD j 0 < 9 := by
              have h1 := hmj.cyc.len
              rw [zs_length] at h1
              have h2 := cyc_lt HP.out hkl (getD_mem (show j < (cyc a k).length by omega))
              have h3 := HL.out
              omega
            have hcs := (hmj.seen.cell ((cyc a k).getD j 0)).trans (seenA_get _ _ hxl)
            have hfs := hmj.seen.frozen ((cyc a k).getD j 0)
            have HN := hide (fun x hx => mark_step (x := x) hmj hjlt hx hsz1)
            clear hil hmj
            generalize hxe : (cyc a k).getD j 0 = x at *
            have HX := hide hxe
            clear hxe
            generalize decide ((x : Int) ∈ M ++ zs ((cyc a k).take j)) = b0 at *
            go_wp2
            go_roundw
            case rel => exact ⟨j + 1, by go_num, by omega, HN.out x rfl⟩
            case measure => simp [intOf]; omega
          · have hjn : j = n8 := by omega
            subst hjn
            have hg6 : w1.heap.size < wr.heap.size := hmj.seen.lt
            by_cases h1 : 1 < j
            · have HN := hide (fun A9 c9 w9 happ => mark_add (A9 := A9) (c9 := c9) (w9 := w9) hmj HST.out.seenTo HST.out.small h1 (by
                have := seen_min HP.out hkl HST.out.seenTo
                cases hm : isMin a k
                · exact absurd (this.2 hm) HM.out
                · rfl) happ hg6)
              have hszr := hmj.below.size
              have hown := hmj.own
              have HMJ := hide hmj
              clear hmj hil
              go_wp2_with (at_builtin; refine wpList_append_val _ rfl (.tmp 39) (.tmp 41) 36 rfl w.heap.size i0 Try.underlying36 hi0 hz0 hz1 hz2 A5 m c5 vs rfl (hown.alloc _) ⟨_, 0, none⟩ 1 (.slice A8 j c8) rfl (by simp [World.cell?_alloc_new]) rfl (by omega) (Nat.le_trans hszr (by simp)) ?_; intro A9 c9 w9 happ)
              have hst9 := HN.out A9 c9 w9 happ
              clear happ hown
              go_roundw
              case rel => exact ⟨k + 1, m + 1, c9, A9, _, _, by go_num, rfl, by omega, hst9⟩
              case measure => simp [intOf]; omega
            · have HN := hide (mark_end hmj HST.out.seenTo HST.out.small h1)
              clear hmj hil
              go_wp2
              go_roundw
              case rel => exact ⟨k + 1, m, c5, A5, vs, _, by go_num, rfl, by omega, HN.out⟩
              case measure => simp [intOf]; omega
    · have hkn : k = n := by omega
      have HE : Hid (cycsTo a k = cycs a) := by
        unfold cycs
        rw [hkn, HL.out]
        exact rfl
      go_wp2
      go_ret2
      refine ⟨_, _, _, vs, rfl, hst.own, ?_, hst.below⟩
      have := hst.rows
      rw [HE.out] at this
      exact this
end Go.Proofs.Ytpemnhalilefmaa
