/- Unrank. -/
import Derived.Test.YtpemnhalilefmaaCompare
import Derived.Test.YtpemnhalilefmaaDelete
import Derived.Test.YtpemnhalilefmaaComp
namespace Go.Proofs.Ytpemnhalilefmaa
open Go.RowKit

theorem zs_without (us : List Nat) (i : Nat) : without (zs us) i = zs (us.take i ++ us.drop (i + 1)) := by
  unfold without
  rw [zs_take, zs_drop, zs_append]
theorem unrank_step {w w9 w10 : World} {b1 g7 m c7 i o c9 x : Nat} {A9 : Option Addr} {us os : List Nat} (hu : OwnI w10 w.heap.size (some ⟨g7, 0, none⟩) m c7 (without (zs us) i))
    (hl : ∀ g, (Value.slice (some ⟨g7, 0, none⟩) (m + 1) c7).ownBlock = some g → g < b1) (hp : OwnI w9 b1 A9 o c9 (zs os ++ [(x : Int)])) (hg : w9.grownBy w10 (some g7)) (hb : Below w.heap.size w w9) (hs : b1 ≤ w9.heap.size) :
    OwnI w10 w.heap.size (some ⟨g7, 0, none⟩) m c7 (zs (us.take i ++ us.drop (i + 1))) ∧ OwnI w10 b1 A9 o c9 (zs (os ++ [x])) ∧ b1 ≤ w10.heap.size ∧ Below w.heap.size w w10 := by
  have h7 := hl g7 rfl
  have h8 := (hu.lt g7 rfl).1
  refine ⟨by rw [← zs_without]; exact hu, ?_, Nat.le_trans hs hg.size, hb.grown hg hb.size (fun k hk => by injection hk with hk; omega)⟩
  have e : zs os ++ [(x : Int)] = zs (os ++ [x]) := by simp [zs]
  rw [← e]
  refine hp.kept hg ?_
  rcases ha : (Value.slice A9 o c9).ownBlock with _ | g
  · exact .inl rfl
  · refine .inr fun e => ?_
    injection e with e
    have := (hp.lt g ha).1
    omega

set_option maxHeartbeats 2000000 in
theorem unrank_ok (n r0 : Nat) (w : World) (hn : n ≤ 9) (hr : r0 < fct n) :
    Calls Try.prog 29 #[.int .i64 n, .int .i64 r0] w (GivesOwn0 w (zs (unr n (List.range n) r0))) := by
  obtain ⟨i0, hi0, hz0, hz1, hz2⟩ := info_parts int_info
  have hf9 := fct_small n (by omega)
  have HI := hide (ident_any n)
  go_enter Try.func29, Try.ntmps29
  go_wp2_with fail
  refine (factorial_any n _ hn).mono ?_
  rintro e w' ⟨rfl, rfl⟩
  go_wp2_with fail
  refine (HI.out _ (by omega)).mono ?_
  rintro e w1 ⟨A1, n1, c1, rfl, hown1, hb1⟩
  have hn1 : n1 = n := by have := hown1.len; rw [zs_length] at this; simp at this; omega
  subst hn1
  have hsz1 := hb1.size
  go_wp2_with (at_make; refine wpList_make_own _ rfl _ _ 22 rfl w1.heap.size 3 i0 (.int .i64 0) 1 Try.underlying22 hi0 hz0 hz1 .i64 .i64 _ n1 rfl rfl rfl (by rw [hz2]; omega) (by unfold maxLen; omega) (Nat.le_refl _) ?_; intro w2 hown2 hg2)
  have hb2 : Below w.heap.size w w2 := hb1.grown hg2 hsz1 (by intro k hk; cases hk)
  have hu2 : OwnI w2 w.heap.size A1 n1 c1 (zs (List.range n1)) := hown1.kept hg2 (by
    rcases A1 with _ | ad
    · exact .inl rfl
    · exact .inr (by simp [Value.ownBlock]))
  have hp2 : OwnI w2 w1.heap.size (some ⟨w1.heap.size, 0, none⟩) 0 n1 [] := ⟨hown2, by omega⟩
  have hlt1 : ∀ g, (Value.slice A1 n1 c1).ownBlock = some g → g < w1.heap.size := fun g hg => (hown1.lt g hg).2
  have hsz2 : w1.heap.size ≤ w2.heap.size := hg2.size
  clear hown2 hg2 hown1 hb1
  go_loopw [1, 6, 7, 8] (fun rk bl un p wr => ∃ (us os : List Nat) (r m c7 c8 : Nat) (A7 A8 : Option Addr), rk = .int .i64 r ∧ bl = .int .i64 (fct m : Nat) ∧ un = .slice A7 m c7 ∧ p = .slice A8 (n1 - m) c8 ∧ m ≤ n1 ∧ r < fct m ∧
      OwnI wr w.heap.size A7 m c7 (zs us) ∧ OwnI wr w1.heap.size A8 (n1 - m) c8 (zs os) ∧ (∀ g, (Value.slice A7 m c7).ownBlock = some g → g < w1.heap.size) ∧ Hid (os ++ unr m us r = unr n1 (List.range n1) r0) ∧ w1.heap.size ≤ wr.heap.size ∧ Below w.heap.size w wr)
    (fun rk bl un p _ => match un with | .slice _ m _ => m | _ => 0)
  case atStart => exact ⟨List.range n1, [], r0, n1, c1, n1, A1, _, rfl, rfl, rfl, by rw [Nat.sub_self], Nat.le_refl _, hr, hu2, by rw [Nat.sub_self]; exact hp2, hlt1, rfl, hsz2, hb2⟩
  case round =>
    obtain ⟨us, os, r, m, c7, c8, A7, A8, rfl, rfl, rfl, rfl, hm, hrm, hun, hp, hlies, hst, hszr, hnx⟩ := hrel
    clear hu2 hp2 hb2 hlt1 hr hf9
    by_cases hm0 : 0 < m
    · obtain ⟨m', rfl⟩ : ∃ m', m = m' + 1 := ⟨m - 1, by omega⟩
      obtain ⟨g7, rfl, hg7, hg7l⟩ := hun.form (by omega)
      have hf1 := fct_small m' (by omega)
      have hf2 := fct_small (m' + 1) (by omega)
      have hfp := fct_pos m'
      have hfp2 := fct_pos (m' + 1)
      have hl7 := hun.len
      rw [zs_length] at hl7
      obtain ⟨i, hi⟩ : ∃ i : Nat, i = r / fct m' := ⟨_, rfl⟩
      obtain ⟨r2, hr2⟩ : ∃ r2 : Nat, r2 = r % fct m' := ⟨_, rfl⟩
      have him : i < m' + 1 := by
        rw [hi]
        rw [fct] at hrm
        exact Nat.div_lt_of_lt_mul (by rw [Nat.mul_comm]; exact hrm)
      have hr2m : r2 < fct m' := by rw [hr2]; exact Nat.mod_lt _ hfp
      have he1 : ((fct (m' + 1) : Nat) : Int) / ((m' : Int) + 1) = (fct m' : Nat) := by
        rw [show ((m' : Int) + 1) = ((m' + 1 : Nat) : Int) from by omega, ← Int.natCast_ediv, fct, Nat.mul_div_cancel_left _ (by omega)]
      have he2 : (r : Int) / ((fct m' : Nat) : Int) = (i : Int) := by rw [hi]; exact (Int.natCast_ediv _ _).symm
      have he3 : (r : Int) % ((fct m' : Nat) : Int) = (r2 : Int) := by rw [hr2]; exact (Int.natCast_emod _ _).symm
      have HN : Hid (os ++ [us.getD i 0] ++ unr m' (us.take i ++ us.drop (i + 1)) r2 = unr n1 (List.range n1) r0) := by
        have := hst.out
        rw [unr, ← hi, ← hr2] at this
        rw [List.append_assoc]
        exact this
      have hcell := hun.cell him
      rw [zs_getD] at hcell
      have HL7 := hide hl7
      clear hi hr2 hst hl7
      generalize us.getD i 0 = x at *
      generalize fct (m' + 1) = F1 at *
      have HF : Hid (∃ F, F = fct m') := ⟨_, rfl⟩
      have hsz := hnx.size
      go_wp2_with (first | (at_builtin; refine wpList_append_int _ rfl (.tmp 42) (.tmp 47) 22 rfl w1.heap.size i0 Try.underlying22 hi0 hz0 hz1 hz2 A8 _ c8 (zs os) rfl (hp.alloc _) (some ⟨wr.heap.size, 0, none⟩) 1 1 [(x : Int)] rfl (IL.lit wr [(x : Int)] (by simp) rfl rfl) (by omega) (Nat.le_trans hszr (by simp)) ?_; intro A9 c9 w9 happ))
      have hA8 : ∀ g, (Value.slice A8 (n1 - (m' + 1) + 1) c8).ownBlock = some g → w1.heap.size ≤ g := fun g hg => (hp.lt g (by rw [ownBlock_len A8 _ (n1 - (m' + 1) + 1) c8 c8]; exact hg)).1
      have hu9 : OwnI w9 w.heap.size (some ⟨g7, 0, none⟩) (m' + 1) c7 (zs us) := (hun.alloc _).kept happ.grown (.inr (by
        intro e
        have h1 := hA8 g7 e.symm
        have h2 := hlies g7 rfl
        omega))
      have hb9 : Below w.heap.size w w9 := (hnx.alloc hsz _).grown happ.grown (Nat.le_trans hsz (by simp)) (fun g hg => by have := hA8 g hg; omega)
      have hs9 : w1.heap.size ≤ w9.heap.size := Nat.le_trans (Nat.le_trans hszr (by simp)) happ.grown.size
      refine (delete_any w.heap.size g7 (m' + 1) c7 i (zs us) w9 hu9 him).mono ?_
      rintro e w10 ⟨rfl, hu10, hg10⟩
      have HX := hide (unrank_step hu10 hlies happ.own hg10 hb9 hs9)
      clear hu9 hu10 hg10 hb9 hs9 happ hun hp
      go_wp2
      go_roundw
      case rel =>
        have hx := HX.out
        exact ⟨us.take i ++ us.drop (i + 1), os ++ [x], r2, m', c7, c9, _, A9, rfl, rfl, rfl, by rw [show n1 - (m' + 1) + 1 = n1 - m' from by omega], by omega, hr2m, hx.1, by have := hx.2.1; rw [show n1 - (m' + 1) + 1 = n1 - m' from by omega] at this; exact this, hlies, HN.out, hx.2.2.1, hx.2.2.2⟩
      case measure => simp
    · have hm' : m = 0 := by omega
      subst hm'
      have hl7 := hun.len
      rw [zs_length] at hl7
      obtain rfl : us = [] := List.eq_nil_of_length_eq_zero hl7
      have HE : Hid (os = unr n1 (List.range n1) r0) := by have := hst.out; rw [unr, List.append_nil] at this; exact this
      go_wp2
      go_ret2
      refine ⟨_, _, _, rfl, ?_, hnx⟩
      rw [← HE.out]
      exact hp.mono hsz1
end Go.Proofs.Ytpemnhalilefmaa
