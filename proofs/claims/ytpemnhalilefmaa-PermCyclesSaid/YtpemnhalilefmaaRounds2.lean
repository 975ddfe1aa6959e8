/- timbref1.Rounds. -/
import Derived.Test.YtpemnhalilefmaaRounds
import Derived.Test.YtpemnhalilefmaaCycles
namespace Go.Proofs.Ytpemnhalilefmaa
open Go.RowKit

/-- What the loop of Rounds knows. -/
structure RndSt (a : List Nat) (k : Nat) (w wr : World) (A : Option Addr) (m c : Nat) (vs : List Value) : Prop where
  own : OwnV wr w.heap.size A m c vs
  rows : RowsI wr w.heap.size vs ((cycsTo a k).map zs)
  below : Below w.heap.size w wr
  small : m ≤ k
theorem RndSt.skip {a : List Nat} {k : Nat} {w wr w' : World} {A : Option Addr} {m c : Nat} {vs : List Value} (h : RndSt a k w wr A m c vs) (hb : Below wr.heap.size wr w') (hs : (isMin a k && decide (1 < perOf a k)) = false) :
    RndSt a (k + 1) w w' A m c vs := by
  have e : cycsTo a (k + 1) = cycsTo a k := by rw [cycsTo_succ, if_neg (by simp [hs]), List.append_nil]
  exact ⟨h.own.keep (KeepT.below hb), by rw [e]; exact h.rows.keep (KeepT.below hb), h.below.trans (hb.mono h.below.size), by have := h.small; omega⟩
theorem RndSt.add {a : List Nat} {k : Nat} {w wr w' w9 : World} {A A5 A9 : Option Addr} {m c m5 c5 c9 : Nat} {vs : List Value} (h : RndSt a k w wr A m c vs) (hb : Below wr.heap.size wr w') (hc : OwnI w' wr.heap.size A5 m5 c5 (zs (cyc a k)))
    (hs : (isMin a k && decide (1 < perOf a k)) = true) (happ : AppendedV (w'.alloc (.cells #[.slice A5 m5 c5] 22)) w.heap.size A (m + 1) c (vs ++ [.slice A5 m5 c5]) A9 c9 w9) :
    RndSt a (k + 1) w w9 A9 (m + 1) c9 (vs ++ [.slice A5 m5 c5]) := by
  have ho' := h.own.keep (KeepT.below (e := 22) hb)
  have hr' := h.rows.keep (KeepT.below (e := 3) hb)
  have hb' := h.below.trans (hb.mono h.below.size)
  have hblk : ∀ g, (Value.slice A (m + 1) c).ownBlock = some g → w.heap.size ≤ g ∧ g < w'.heap.size ∧ ∃ (cs : Array Value), w'.heap[g]? = some (.cells cs 22 (0, 0)) := by
    intro g hg
    rw [ownBlock_len A (m + 1) m c c] at hg
    obtain ⟨h1, h2⟩ := ho'.lt g hg
    refine ⟨h1, h2, ?_⟩
    rcases ho'.own.2 with ⟨hv, _⟩ | ⟨g', cap, cur, hv, _, hh, _⟩
    · rw [hv] at hg; cases hg
    · rw [hv] at hg
      injection hg with hg
      subst hg
      exact ⟨cur, hh⟩
  have k3 : KeepT 3 w' w9 := (KeepT.alloc w' _).trans (KeepT.grown happ.grown (fun g hg => by
    obtain ⟨_, h2, cs, h3⟩ := hblk g hg
    exact ⟨22, cs, (Below.heap_alloc w' _ g h2).trans h3, by decide⟩))
  have e : cycsTo a (k + 1) = cycsTo a k ++ [cyc a k] := by rw [cycsTo_succ, if_pos hs]
  refine ⟨happ.own, ?_, ?_, by have := h.small; omega⟩
  · rw [e, List.map_append]
    exact (hr'.keep k3).snoc (k3.ownI (hc.mono h.below.size))
  · exact (hb'.alloc hb'.size _).grown happ.grown (Nat.le_trans hb'.size (by simp)) (fun g hg => (hblk g hg).1)

set_option maxHeartbeats 4000000 in
theorem rounds_ok (A : Option Addr) (n c : Nat) (a : List Nat) (w : World) (ha : IL w A n (zs a)) (pa : isP a) (h9 : a.length ≤ 9) :
    Calls Try.prog 25 #[.slice A n c] w fun e w' => ∃ (B : Option Addr) (m d : Nat), e = .returned (.slice B m d) ∧ ILL w' B m ((cycs a).map zs) ∧ Below w.heap.size w w' := by
  obtain ⟨i0, hi0, hz0, hz1, hz2⟩ := info_parts int_info
  obtain ⟨i2, hj0, hk0, hk1, hk2⟩ := info_parts slice_info
  have HL : Hid (a.length = n) := by have := ha.len; rwa [zs_length] at this
  have hn9 : n ≤ 9 := by have := HL.out; omega
  have HP := hide pa
  clear pa h9
  go_enter Try.func25, Try.ntmps25
  go_wp2
  go_loopw [3, 9] (fun ov i wr => ∃ (k m c3 : Nat) (A3 : Option Addr) (vs : List Value), i = .int .i64 k ∧ ov = .slice A3 m c3 ∧ k ≤ n ∧ RndSt a k w wr A3 m c3 vs) (fun _ i _ => n - (intOf i).toNat)
  case atStart => exact ⟨0, 0, 0, none, [], rfl, rfl, Nat.zero_le _, OwnV.nil_ _ _, RowsI.nil_ _ _, Below.refl _ _, Nat.le_refl _⟩
  case round =>
    obtain ⟨k, m, c3, A3, vs, rfl, rfl, hk, hst⟩ := hrel
    rename World => wo
    by_cases hlt : k < n
    · have hkl : k < a.length := by have := HL.out; omega
      have ha' := ha.below hst.below
      have HA := hide ha
      have HST := hide hst
      have hsm := hst.small
      clear ha hst
      have hper := per_spec HP.out hkl
      have hp1 := hper.1
      have hp9 : perOf a k ≤ 9 := by have := hper.2.1; have := HL.out; omega
      have HQ := hide hper.2.2
      have HPE : Hid (perOf a k = perOf a k) := rfl
      have HMIN := hide (isMin_iff HP.out hkl (n := perOf a k) (m := k) (cyc_length a k))
      have HC : Hid (cycTo a k (perOf a k) = cyc a k) := rfl
      have hw0 : OwnI wo wo.heap.size none 0 0 (zs (cycTo a k 0)) := OwnI.nil_ _ _
      have HSK := hide (fun w' hb hs => RndSt.skip (w' := w') HST.out hb hs)
      have HCL := hide (cyc_length a k)
      clear hper
      generalize hpe : perOf a k = p at *
      have HPP := hide hpe
      clear hpe
      go_wp2
      go_loopw [5, 6] (fun cv xv wx => ∃ (j c5 : Nat) (A5 : Option Addr), cv = .slice A5 j c5 ∧ xv = .int .i64 ((it a j k : Nat) : Int) ∧ j < p ∧ OwnI wx wo.heap.size A5 j c5 (zs (cycTo a k j)) ∧ Below wo.heap.size wo wx) (fun cv _ _ => match cv with | .slice _ j _ => p - j | _ => 0)
      case atStart => exact ⟨0, 0, none, rfl, rfl, by omega, hw0, Below.refl _ _⟩
      case round =>
        obtain ⟨j, c5, A5, rfl, rfl, hj, hown, hnx⟩ := hrel
        clear hw0
        have hxl : it a j k < n := by have := it_lt HP.out hkl j; rw [HL.out] at this; exact this
        have hax := ha'.below hnx
        have HAX := hide ha'
        clear ha'
        obtain ⟨ad, rfl, hcx⟩ := hax.at_ hxl
        rw [zs_getD] at hcx
        have HY : Hid (a.getD (it a j k) 0 = it a (j + 1) k) := rfl
        have HS := hide (cycTo_succ a k j)
        clear hax hcx
        have hsz := hnx.size
        by_cases hjp : j + 1 < p
        · have hne : ¬ ((it a (j + 1) k : Nat) : Int) = (k : Int) := fun e => HQ.out.2 (j + 1) (by omega) hjp (by omega)
          have hbne : (((it a (j + 1) k : Nat) : Int) == (k : Int)) = false := by simpa using hne
          clear hne
          generalize hye : it a (j + 1) k = y at *
          have HYE := hide hye
          clear hye
          generalize it a j k = x at *
          go_wp2_with (at_builtin; refine wpList_append_int _ rfl (.tmp 13) (.tmp 15) 22 rfl wo.heap.size i0 Try.underlying22 hi0 hz0 hz1 hz2 A5 j c5 (zs (cycTo a k j)) rfl (hown.alloc _) (some ⟨_, 0, none⟩) 1 1 [(x : Int)] rfl (IL.lit _ [(x : Int)] (by simp) rfl rfl) (by omega) (Nat.le_trans hsz (by simp)) ?_; intro A9 c9 w9 happ; have hcx := (cycle_step HAX.out hxl HY.out hnx hown happ).1)
          have hb9 := (cycle_step HAX.out hxl HY.out hnx hown happ).2
          have hown9 := happ.own
          rw [← HS.out] at hown9
          clear happ hown hcx
          go_roundw
          case rel => exact ⟨j + 1, c9, A9, rfl, by rw [HYE.out], by omega, hown9, hb9⟩
          case measure => simp; omega
        · have hjp' : j + 1 = p := by omega
          have hyk : it a (j + 1) k = k := by rw [hjp']; exact HQ.out.1
          have HCY : Hid (cycTo a k (j + 1) = cyc a k) := by rw [hjp']; exact HC.out
          rw [hyk] at HY
          clear hyk
          have HJP := hide hjp'
          clear hjp'
          generalize it a j k = x at *
          by_cases h1p : 1 < p
          · have hj1 : ¬ (j : Int) + 1 ≤ 1 := by omega
            have hj2 : (1 : Int) < (j : Int) + 1 := by omega
            go_wp2_with (at_builtin; refine wpList_append_int _ rfl (.tmp 13) (.tmp 15) 22 rfl wo.heap.size i0 Try.underlying22 hi0 hz0 hz1 hz2 A5 j c5 (zs (cycTo a k j)) rfl (hown.alloc _) (some ⟨_, 0, none⟩) 1 1 [(x : Int)] rfl (IL.lit _ [(x : Int)] (by simp) rfl rfl) (by omega) (Nat.le_trans hsz (by simp)) ?_; intro A9 c9 w9 happ; have hcx := (cycle_step HAX.out hxl HY.out hnx hown happ).1)
            have hb9 := (cycle_step HAX.out hxl HY.out hnx hown happ).2
            have hown9 := happ.own
            rw [← HS.out, HCY.out, HJP.out] at hown9
            have HJ := HJP.out
            clear happ hown hcx hnx hsz HS HCY HY
            have hil := hown9.il
            have HSKN := hide (HSK.out w9 hb9)
            rw [HJ]
            try go_wp2_with fail
            refine (min_any A9 p c9 (cyc a k) _ hil (by omega)).mono ?_
            rintro e w0 ⟨mn, rfl, hle, rfl⟩
            have HM := hide (isMin_iff HP.out hkl (by rw [HCL.out]) hle)
            by_cases hmk : mn = k
            · have hb2 : ((mn : Int) == (k : Int)) = true := by simp [hmk]
              have HADD := hide (fun A10 c10 w10 happ => RndSt.add (A9 := A10) (c9 := c10) (w9 := w10) HST.out hb9 hown9 (by rw [HM.out.1 hmk, HPP.out]; simp; omega) happ)
              have hov := HST.out.own.keep (KeepT.below (e := 22) hb9)
              have hbs : w.heap.size ≤ w9.heap.size := Nat.le_trans HST.out.below.size hb9.size
              clear hmk hle hown9 hil hb9
              go_wp2_with (at_builtin; refine wpList_append_val _ rfl (.tmp 33) (.tmp 35) 36 rfl w.heap.size i2 Try.underlying36 hj0 hk0 hk1 hk2 A3 m c3 vs rfl (hov.alloc _) ⟨_, 0, none⟩ 1 (.slice A9 p c9) rfl (by simp [World.cell?_alloc_new]) rfl (by omega) (Nat.le_trans hbs (by simp)) ?_; intro A10 c10 w10 happ)
              have hst10 := HADD.out A10 c10 w10 happ
              clear happ hov
              go_roundw
              case rel => exact ⟨k + 1, m + 1, c10, A10, _, by go_num, rfl, by omega, hst10⟩
              case measure => simp [intOf]; omega
            · have hb2 : ((mn : Int) == (k : Int)) = false := by simp; omega
              have HN := hide (HSKN.out (by
                have : isMin a k = false := by
                  cases h : isMin a k
                  · rfl
                  · exact absurd (HM.out.2 h) hmk
                simp [this]))
              clear hmk hle hown9 hil hb9
              go_wp2
              go_roundw
              case rel => exact ⟨k + 1, m, c3, A3, vs, by go_num, rfl, by omega, HN.out⟩
              case measure => simp [intOf]; omega
          · have hj1 : (j : Int) + 1 ≤ 1 := by omega
            go_wp2_with (at_builtin; refine wpList_append_int _ rfl (.tmp 13) (.tmp 15) 22 rfl wo.heap.size i0 Try.underlying22 hi0 hz0 hz1 hz2 A5 j c5 (zs (cycTo a k j)) rfl (hown.alloc _) (some ⟨_, 0, none⟩) 1 1 [(x : Int)] rfl (IL.lit _ [(x : Int)] (by simp) rfl rfl) (by omega) (Nat.le_trans hsz (by simp)) ?_; intro A9 c9 w9 happ; have hcx := (cycle_step HAX.out hxl HY.out hnx hown happ).1)
            have hb9 := (cycle_step HAX.out hxl HY.out hnx hown happ).2
            have hown9 := happ.own
            rw [← HS.out, HCY.out, HJP.out] at hown9
            have HJ := HJP.out
            clear happ hown hcx hnx hsz HS HCY HY
            have hil := hown9.il
            have HSKN := hide (HSK.out w9 hb9)
            have HN := hide (HSKN.out (by simp; omega))
            clear hown9 hil hb9
            go_roundw
            case rel => exact ⟨k + 1, m, c3, A3, vs, by go_num, rfl, by omega, HN.out⟩
            case measure => simp [intOf]; omega
    · have hkn : k = n := by omega
      have HE : Hid (cycsTo a k = cycs a) := by
        unfold cycs
        rw [hkn, HL.out]
        exact rfl
      go_wp2
      go_ret
      refine ⟨_, _, _, rfl, ?_, hst.below⟩
      have := hst.rows
      rw [HE.out] at this
      exact ILL.of_rows hst.own this
end Go.Proofs.Ytpemnhalilefmaa
