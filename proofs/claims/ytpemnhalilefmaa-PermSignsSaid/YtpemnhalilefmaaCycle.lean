/- cycleFrom. -/
import Derived.Test.YtpemnhalilefmaaSmall2
import Derived.Test.YtpemnhalilefmaaMath4
import Derived.Test.YtpemnhalilefmaaAppend
namespace Go.Proofs.Ytpemnhalilefmaa
open Go.RowKit

/-- The first j elements of the cycle of s. -/
def cycTo (a : List Nat) (s j : Nat) : List Nat := (List.range j).map fun t => it a t s
theorem cycTo_succ (a : List Nat) (s j : Nat) : zs (cycTo a s (j + 1)) = zs (cycTo a s j) ++ [((it a j s : Nat) : Int)] := by
  unfold cycTo zs
  rw [List.range_succ]
  simp
theorem cycTo_one (a : List Nat) (s : Nat) : zs (cycTo a s 1) = [(s : Int)] := rfl

theorem cycle_step {w wr w9 : World} {ad : Addr} {n j c5 c9 x y : Nat} {A5 A9 : Option Addr} {a : List Nat} {ys zz : List Int} (ha : IL w (some ad) n (zs a)) (hx : x < n) (hy : a.getD x 0 = y) (hnx : Below w.heap.size w wr)
    (hown : OwnI wr w.heap.size A5 j c5 ys) {o : Obj} (happ : Appended (wr.alloc o) w.heap.size A5 (j + 1) c5 zz A9 c9 w9) :
    w9.cell? (ad.add x) = some (.int .i64 y) ∧ Below w.heap.size w w9 := by
  have hb : Below w.heap.size w w9 := (hnx.alloc hnx.size o).grown happ.grown (Nat.le_trans hnx.size (by simp)) (fun g hg => (hown.lt g (by rw [ownBlock_len A5 j (j + 1) c5 c5]; exact hg)).1)
  obtain ⟨ad', e, hc⟩ := (ha.below hb).at_ hx
  injection e with e
  subst e
  rw [hc, zs_getD, hy]
  exact ⟨rfl, hb⟩

set_option maxHeartbeats 1000000 in
theorem cycleFrom_any (A : Option Addr) (n c s : Nat) (a : List Nat) (w : World) (ha : IL w A n (zs a)) (pa : isP a) (hs : s < n) :
    Calls Try.prog 42 #[.slice A n c, .int .i64 s] w (GivesOwn w (zs (cyc a s))) := by
  obtain ⟨i0, hi0, hz0, hz1, hz2⟩ := info_parts int_info
  have hna := ha.small
  have HL : Hid (a.length = n) := by have := ha.len; rwa [zs_length] at this
  have HP := hide pa
  have hp := per_spec pa (s := s) (by rw [HL.out]; exact hs)
  have hp1 := hp.1
  have hp2 : perOf a s ≤ n := by rw [← HL.out]; exact hp.2.1
  have HQ := hide hp.2.2
  clear hp pa
  have HC : Hid (cycTo a s (perOf a s) = cyc a s) := rfl
  generalize perOf a s = p at *
  obtain ⟨ad, hA, hcs⟩ := ha.at_ hs
  subst hA
  rw [zs_getD] at hcs
  have H1 : Hid (((a.getD s 0 : Nat) : Int) = ((it a 1 s : Nat) : Int)) := rfl
  rw [H1.out] at hcs
  go_enter Try.func42, Try.ntmps42
  have hca := ha.alloc (.cells #[.int .i64 s] 3)
  have hl0 : OwnI (w.alloc (.cells #[.int .i64 s] 3)) w.heap.size (some ⟨w.heap.size, 0, none⟩) 1 1 (zs (cycTo a s 1)) := by
    rw [cycTo_one]
    exact OwnI.lit w [(s : Int)] (Nat.le_refl _) (by simp) rfl rfl rfl
  have hcs' : (w.alloc (.cells #[.int .i64 s] 3)).cell? (ad.add s) = some (.int .i64 ((it a 1 s : Nat) : Int)) := by
    obtain ⟨ad', e, hc⟩ := hca.at_ hs
    injection e with e
    subst e
    rw [hc, zs_getD]
    rfl
  clear hcs hca
  go_wp2
  go_loopw [5, 6] (fun cv x wr => ∃ (j c5 : Nat) (A5 : Option Addr), 1 ≤ j ∧ j ≤ p ∧ cv = .slice A5 j c5 ∧ x = .int .i64 ((it a j s : Nat) : Int) ∧ OwnI wr w.heap.size A5 j c5 (zs (cycTo a s j)) ∧ Below w.heap.size w wr)
    (fun cv x _ => match cv with | .slice _ j _ => p - j | _ => 0)
  case atStart => exact ⟨1, 1, _, Nat.le_refl _, hp1, rfl, rfl, hl0, (Below.refl _ _).alloc (Nat.le_refl _) _⟩
  case round =>
    obtain ⟨j, c5, A5, hj1, hjp, rfl, rfl, hown, hnx⟩ := hrel
    clear hl0 hcs'
    by_cases hlt : j < p
    · have hne : ((it a j s : Nat) : Int) ≠ (s : Int) := fun e => HQ.out.2 j hj1 hlt (by omega)
      have hbne : (((it a j s : Nat) : Int) != (s : Int)) = true := by simpa using hne
      have hxl : it a j s < n := by have := it_lt HP.out (s := s) (by rw [HL.out]; exact hs) j; rw [HL.out] at this; exact this
      have HA := hide ha
      have hyx : a.getD (it a j s) 0 = it a (j + 1) s := rfl
      have HY := hide hyx
      have HS := hide (cycTo_succ a s j)
      clear hne hyx ha
      generalize hye : it a (j + 1) s = y at *
      have HYE := hide hye
      clear hye
      generalize it a j s = x at *
      have hsz := hnx.size
      go_wp2_with (at_builtin; refine wpList_append_int _ rfl (.tmp 20) (.tmp 22) 22 rfl w.heap.size i0 Try.underlying22 hi0 hz0 hz1 hz2 A5 j c5 (zs (cycTo a s j)) rfl (hown.alloc _) (some ⟨wr.heap.size, 0, none⟩) 1 1 [(x : Int)] rfl (IL.lit wr [(x : Int)] (by simp) rfl rfl) (by omega) (Nat.le_trans hsz (by simp)) ?_; intro A9 c9 w9 happ; have hcx := (cycle_step HA.out hxl HY.out hnx hown happ).1)
      have hb9 := (cycle_step HA.out hxl HY.out hnx hown happ).2
      have hown9 := happ.own
      rw [← HS.out] at hown9
      clear happ hown hcx
      go_roundw
      case rel => exact ⟨j + 1, c9, A9, by omega, by omega, rfl, by rw [HYE.out], hown9, hb9⟩
      case measure => simp; omega
    · have hjp' : j = p := by omega
      have hbne : (((it a j s : Nat) : Int) != (s : Int)) = false := by rw [hjp', HQ.out.1]; simp
      have HE : Hid (cycTo a s j = cyc a s) := by rw [hjp']; exact HC.out
      clear hjp'
      generalize it a j s = x at *
      go_wp2
      go_ret
      rw [HE.out] at hown
      exact ⟨_, _, _, rfl, hown, hnx⟩
end Go.Proofs.Ytpemnhalilefmaa
