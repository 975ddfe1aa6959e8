/- timbref1.GroupFault; timblaw1.member. -/
import Derived.Test.YtnpdlfnhpghkmaaGrouped
import Derived.Test.YtnpdlfnhpghkmaaFault
import Derived.Test.YtnpdlfnhpghkmaaIndex
import Derived.Test.YtnpdlfnhpghkmaaTimes
namespace Go.Proofs.Ytnpdlfnhpghkmaa
open Go.RowKit Go.Maps

set_option maxRecDepth 100000 in
set_option maxHeartbeats 2000000 in
theorem gfault_any (A : Option Addr) (n : Int) (l c : Nat) (xss : List (List Int)) (w : World) (hx : ILL w A l xss) (hn : (Lit.int .i64 n).wf = true) :
    Calls Try.prog 9 #[.int .i64 n, .slice A l c] w fun e w' => e = .returned (.int .i64 (gf n xss)) ∧ Below w.heap.size w w' := by
  have HX := hide hx
  have HL := hide hx.len
  have hsm := hx.small
  clear hx
  by_cases h1 : n < 0
  · have HE : Hid (gf n xss = 1) := by unfold gf; rw [if_pos (.inl h1)]; exact rfl
    go_enter Try.func9, Try.ntmps9
    go_wp2
    go_ret
    rw [HE.out]
    exact ⟨rfl, Below.refl _ _⟩
  · by_cases h2 : 9 < n
    · have HE : Hid (gf n xss = 1) := by unfold gf; rw [if_pos (.inr h2)]; exact rfl
      go_enter Try.func9, Try.ntmps9
      go_wp2
      go_ret
      rw [HE.out]
      exact ⟨rfl, Below.refl _ _⟩
    · by_cases h3 : 6 < l
      · have HE : Hid (gf n xss = 2) := by unfold gf; rw [if_neg (by omega), if_pos (by rw [HL.out]; exact h3)]; exact rfl
        go_enter Try.func9, Try.ntmps9
        go_wp2
        go_ret
        rw [HE.out]
        exact ⟨rfl, Below.refl _ _⟩
      · have HE : Hid (gf n xss = gfGo n xss) := by unfold gf; rw [if_neg (by omega), if_neg (by rw [HL.out]; exact h3)]; exact rfl
        go_enter Try.func9, Try.ntmps9
        go_wp2
        go_loopw [19] (fun i wr => ∃ k : Nat, k ≤ l ∧ i = .int .i64 k ∧ Hid (gf n xss = gfGo n (xss.drop k)) ∧ Below w.heap.size w wr) (fun i _ => l - (intOf i).toNat)
        case atStart => exact ⟨0, Nat.zero_le _, rfl, by rw [HE.out, List.drop_zero]; exact rfl, Below.refl _ _⟩
        case round =>
          obtain ⟨k, hk, rfl, hgf, hnx⟩ := hrel
          by_cases hlt : k < l
          · have hD := gfGo_drop (n := n) (xss := xss) (k := k) (by rw [HL.out]; exact hlt)
            have HD := hide hD
            obtain ⟨ad, B, m, d, rfl, hcl, hil⟩ := (HX.out.below hnx).at_ hlt
            have HIL := hide hil
            have hlen := hil.len
            have HLEN := hide hlen
            have hm := hil.small
            clear hD hil hlen
            generalize xss.getD k [] = x at *
            by_cases hp : pf x = 0
            · have HP := hide hp
              clear hp
              go_wp2_with fail
              refine (fault_any B m d x wr HIL.out).mono ?_
              rw [HP.out]
              rintro e w2 ⟨rfl, hb2⟩
              have hnx2 := hnx.trans (hb2.mono hnx.size)
              clear hnx hb2 hcl
              by_cases hmn : (m : Int) = n
              · have HN : Hid (gf n xss = gfGo n (xss.drop (k + 1))) := by rw [hgf.out, HD.out, if_neg (by simp [HP.out]), if_neg (by rw [HLEN.out]; simp [hmn])]; exact rfl
                have hmb : ((m : Int) != n) = false := by simp [hmn]
                clear hmn
                go_wp2
                go_roundw
                case rel => exact ⟨k + 1, by omega, by go_num, HN, hnx2⟩
                case measure => simp [intOf]; omega
              · have HN : Hid (gf n xss = 3) := by rw [hgf.out, HD.out, if_neg (by simp [HP.out]), if_pos (by rw [HLEN.out]; exact hmn)]; exact rfl
                have hmb : ((m : Int) != n) = true := by simpa using hmn
                clear hmn
                go_wp2
                go_ret
                rw [HN.out]
                exact ⟨rfl, hnx2⟩
            · have HP := hide hp
              have HN : Hid (gf n xss = pf x) := by rw [hgf.out, HD.out, if_pos (by simpa using hp)]; exact rfl
              have hpb : (pf x == 0) = false := by simpa using hp
              have hpb2 : (pf x != 0) = true := by simpa using hp
              clear hp
              go_wp2_with fail
              refine (fault_any B m d x wr HIL.out).mono ?_
              generalize pf x = f at *
              rintro e w2 ⟨rfl, hb2⟩
              have hnx2 := hnx.trans (hb2.mono hnx.size)
              clear hnx hb2 hcl
              go_wp2
              go_ret
              rw [HN.out]
              exact ⟨rfl, hnx2⟩
          · have HN : Hid (gf n xss = 0) := by
              rw [hgf.out, List.drop_eq_nil_of_le (by rw [HL.out]; omega)]; exact rfl
            go_wp2
            go_ret
            rw [HN.out]
            exact ⟨rfl, hnx⟩


set_option maxHeartbeats 1000000 in
theorem member_any (A B : Option Addr) (n : Int) (l c m d : Nat) (xss : List (List Int)) (xs : List Int) (w : World) (hx : ILL w A l xss) (hy : IL w B m xs) (hn : (Lit.int .i64 n).wf = true) :
    Calls Try.prog 10 #[.int .i64 n, .slice A l c, .slice B m d] w fun e w' => e = .returned (.int .i64 (gfW n xss xs)) ∧ Below w.heap.size w w' := by
  have HX := hide hx
  have HY := hide hy
  have HWF := hide hn
  clear hx hy hn
  by_cases h0 : gf n xss = 0
  · have H0 := hide h0
    have HE : Hid (gfW n xss xs = gf n [xs]) := by unfold gfW; rw [if_pos h0]; exact rfl
    clear h0
    go_enter Try.func10, Try.ntmps10
    go_wp2_with fail
    refine (gfault_any A n l c xss w HX.out HWF.out).mono ?_
    rw [H0.out]
    rintro e w1 ⟨rfl, hb1⟩
    have HO := hide (ILL.one (d := d) (HY.out.below hb1))
    go_wp2_with fail
    refine (gfault_any _ n 1 1 [xs] _ HO.out HWF.out).mono ?_
    rintro e w2 ⟨rfl, hb2⟩
    have hb02 : Below w.heap.size w w2 := (hb1.alloc hb1.size _).trans (hb2.mono (by rw [World.size_alloc]; have := hb1.size; omega))
    rw [← HE.out]
    go_wp2
    go_ret
    exact ⟨rfl, hb02⟩
  · have hpb : (gf n xss == 0) = false := by simpa using h0
    have hpb2 : (gf n xss != 0) = true := by simpa using h0
    have HE : Hid (gfW n xss xs = gf n xss) := by unfold gfW; rw [if_neg h0]; exact rfl
    obtain ⟨f, hff⟩ : ∃ f, gf n xss = f := ⟨_, rfl⟩
    have HF := hide hff
    rw [hff] at hpb hpb2 HE
    clear h0 hff
    go_enter Try.func10, Try.ntmps10
    go_wp2_with fail
    refine (gfault_any A n l c xss w HX.out HWF.out).mono ?_
    rw [HF.out]
    rintro e w1 ⟨rfl, hb1⟩
    go_wp2
    go_ret
    rw [HE.out]
    exact ⟨rfl, hb1⟩
end Go.Proofs.Ytnpdlfnhpghkmaa
