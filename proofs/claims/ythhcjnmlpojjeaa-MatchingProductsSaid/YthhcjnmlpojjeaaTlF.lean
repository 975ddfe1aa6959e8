/- timbref1: Straight, Hook; joined points: Points, At, Join. -/
import Derived.Test.YthhcjnmlpojjeaaBase1
import Derived.Test.YthhcjnmlpojjeaaSmall2
import Derived.Test.YthhcjnmlpojjeaaTimes
import Derived.Handy
namespace Go.Proofs.Ythhcjnmlpojjeaa
set_option linter.unusedVariables false
set_option linter.unusedSimpArgs false
open Go.RowKit

theorem zs_set (l : List Nat) (i x : Nat) : (zs l).set i (x : Int) = zs (l.set i x) := by
  unfold zs
  rw [List.map_set]
  rfl
/-! ### joined points -/
/-- The pointers, the labels. -/
structure UF (par lab : List Nat) : Prop where
  len : par.length = lab.length
  ok : Tl.Ok lab
  dp : ∃ dp : Nat → Nat, ∀ a, a < lab.length → par.getD a 0 < lab.length ∧ ((par.getD a 0 = a ∧ Tl.at_ lab a = a) ∨ (par.getD a 0 ≠ a ∧ Tl.at_ lab a ≠ a ∧ Tl.at_ lab (par.getD a 0) = Tl.at_ lab a ∧ dp (par.getD a 0) < dp a))
theorem UF.range (N : Nat) : UF (List.range N) (List.range N) := ⟨rfl, Tl.Ok.range N, fun _ => 0, fun a ha => by
  rw [List.length_range] at ha ⊢
  have e : (List.range N).getD a 0 = a := Tl.range_at ha
  exact ⟨by rw [e]; exact ha, .inl ⟨e, e⟩⟩⟩
theorem UF.root {par lab : List Nat} (h : UF par lab) {a : Nat} (ha : a < lab.length) : par.getD (Tl.at_ lab a) 0 = Tl.at_ lab a := by
  obtain ⟨dp, hd⟩ := h.dp
  rcases (hd _ (h.ok.lt a ha)).2 with ⟨h1, _⟩ | ⟨_, h2, _⟩
  · exact h1
  · exact absurd (h.ok.idem a ha) h2
theorem getD_setN {l : List Nat} {i x j : Nat} (hj : j < l.length) : (l.set i x).getD j 0 = if i = j then x else l.getD j 0 := by
  by_cases e : i = j
  · subst e; simp [List.getD, hj]
  · rw [if_neg e]; simp [List.getD, List.getElem?_set_ne e]
theorem UF.join {par lab : List Nat} (h : UF par lab) {x y : Nat} (hx : x < lab.length) (hy : y < lab.length) : UF (par.set (Tl.at_ lab x) (Tl.at_ lab y)) (Tl.join lab x y) := by
  by_cases e : Tl.at_ lab x = Tl.at_ lab y
  · have e1 : par.set (Tl.at_ lab x) (Tl.at_ lab y) = par := by
      rw [← e]
      conv => lhs; rw [show par.set (Tl.at_ lab x) (Tl.at_ lab x) = par.set (Tl.at_ lab x) (par.getD (Tl.at_ lab x) 0) by rw [h.root hx]]
      have hlt := h.ok.lt x hx
      refine List.ext_getElem (by simp) fun j h1 h2 => ?_
      rw [List.getElem_set]
      split
      · rename_i e2; subst e2; rw [List.getD_eq_getElem?_getD, List.getElem?_eq_getElem h2]; rfl
      · rfl
    rw [e1, Tl.join_id e]
    exact h
  · obtain ⟨dp, hd⟩ := h.dp
    have hl := Tl.join_length lab x y
    refine ⟨by rw [List.length_set, hl]; exact h.len, h.ok.join hx hy, fun a => if Tl.at_ lab a = Tl.at_ lab x then dp a + dp (Tl.at_ lab y) + 1 else dp a, fun a ha => ?_⟩
    rw [hl] at ha ⊢
    rw [getD_setN (by rw [h.len]; exact ha), Tl.join_at ha]
    obtain ⟨d1, d2⟩ := hd a ha
    have hyl := h.ok.lt y hy
    have hyi := h.ok.idem y hy
    by_cases e2 : Tl.at_ lab x = a
    · subst e2
      have hxi := h.ok.idem x hx
      rw [if_pos rfl, hxi, if_pos rfl]
      refine ⟨hyl, .inr ⟨fun e3 => e e3.symm, fun e3 => e e3.symm, ?_, ?_⟩⟩
      · rw [Tl.join_at hyl, hyi, if_neg (fun e3 => e e3.symm)]
      · show (if Tl.at_ lab (Tl.at_ lab y) = Tl.at_ lab x then _ else dp (Tl.at_ lab y)) < if Tl.at_ lab (Tl.at_ lab x) = Tl.at_ lab x then _ else _
        rw [if_neg (show ¬ Tl.at_ lab (Tl.at_ lab y) = Tl.at_ lab x by rw [hyi]; exact fun e3 => e e3.symm), if_pos hxi]
        omega
    · rw [if_neg e2]
      refine ⟨d1, ?_⟩
      rw [Tl.join_at d1]
      rcases d2 with ⟨h1, h2⟩ | ⟨h1, h2, h3, h4⟩
      · refine .inl ⟨h1, ?_⟩
        rw [h2, if_neg (fun e3 => e2 e3.symm)]
      · refine .inr ⟨h1, ?_, by rw [h3], ?_⟩
        · by_cases e3 : Tl.at_ lab a = Tl.at_ lab x
          · rw [if_pos e3]
            intro e4
            rw [← e4, hyi] at h2
            exact h2 rfl
          · rw [if_neg e3]; exact h2
        · show (if Tl.at_ lab (par.getD a 0) = Tl.at_ lab x then dp (par.getD a 0) + _ + 1 else dp (par.getD a 0)) < if Tl.at_ lab a = Tl.at_ lab x then _ else _
          rw [h3]
          by_cases e3 : Tl.at_ lab a = Tl.at_ lab x
          · rw [if_pos e3, if_pos e3]; omega
          · rw [if_neg e3, if_neg e3]; exact h4

set_option maxRecDepth 100000 in
set_option maxHeartbeats 2000000 in
theorem at_any (A : Option Addr) (N c : Nat) (par lab : List Nat) (x : Nat) (w : World) (ha : IL w A N (zs par)) (h : UF par lab) (hx : x < lab.length) (hN : N ≤ 1000000) :
    Calls Try.prog 45 #[.slice A N c, .int .i64 x] w fun e w' => e = .returned (.int .i64 (Tl.at_ lab x : Nat)) ∧ w = w' := by
  have hlen : lab.length = N := by have := ha.len; rw [zs_length, h.len] at this; exact this
  obtain ⟨dp, hd⟩ := h.dp
  rw [hlen] at hd hx
  have HD := hide hd
  have HA := hide ha
  obtain ⟨rt, hrt⟩ : ∃ r, Tl.at_ lab x = r := ⟨_, rfl⟩
  have HRT := hide hrt
  rw [hrt]
  clear hd ha hlen hrt
  go_enter Try.func45, Try.ntmps45
  go_wp2_with fail
  go_loop [1] (fun v => ∃ k : Nat, v = .int .i64 k ∧ k < N ∧ Hid (Tl.at_ lab k = rt)) (fun v => dp (intOf v).toNat)
  case atStart => exact ⟨x, rfl, hx, HRT⟩
  case round =>
    obtain ⟨k, rfl, hk, HK⟩ := hrel
    obtain ⟨ad, rfl, hc⟩ := HA.out.at_ hk
    rw [zs_getD] at hc
    obtain ⟨d1, d2⟩ := HD.out k hk
    by_cases e : par.getD k 0 = k
    · have HE : Hid (rt = k) := hide (by
        rw [← HK.out]
        rcases d2 with ⟨_, h2⟩ | ⟨h1, _⟩
        · exact h2
        · exact absurd e h1)
      rw [e] at hc
      clear d1 d2 e
      go_wp2_with fail
      go_ret
      rw [HE.out]
      exact ⟨rfl, rfl⟩
    · have HR : Hid (Tl.at_ lab (par.getD k 0) = rt ∧ dp (par.getD k 0) < dp k) := hide (by
        rcases d2 with ⟨h1, _⟩ | ⟨_, _, h3, h4⟩
        · exact absurd h1 e
        · exact ⟨h3.trans HK.out, h4⟩)
      have hne : ((par.getD k 0 : Nat) : Int) ≠ (k : Int) := by omega
      obtain ⟨r, hr⟩ : ∃ r, par.getD k 0 = r := ⟨_, rfl⟩
      rw [hr] at hc HR d1 hne
      have hb : ((r : Int) != (k : Int)) = true := by simpa using fun h3 : (r : Int) = k => hne h3
      clear d2 e hr hne
      go_wp2_with fail
      go_round
      case rel => exact ⟨r, by go_num, d1, hide HR.out.1⟩
      case measure => have := HR.out.2; simp [intOf]; omega

set_option maxRecDepth 100000 in
set_option maxHeartbeats 2000000 in
theorem join_any (g N c : Nat) (base : Nat) (par lab : List Nat) (x y : Nat) (w : World) (ho : OwnI w base (some ⟨g, 0, none⟩) N c (zs par)) (h : UF par lab) (hx : x < lab.length) (hy : y < lab.length) (hN : N ≤ 1000000) :
    Calls Try.prog 43 #[.slice (some ⟨g, 0, none⟩) N c, .int .i64 x, .int .i64 y] w fun e w' => e = .returned (.tuple #[]) ∧ OwnI w' base (some ⟨g, 0, none⟩) N c (zs (par.set (Tl.at_ lab x) (Tl.at_ lab y))) ∧ w' = w.setCell ⟨g, Tl.at_ lab x, none⟩ (.int .i64 (Tl.at_ lab y : Nat)) := by
  have hlen : lab.length = N := by have := ho.len; rw [zs_length, h.len] at this; exact this
  have HX := hide (at_any (some ⟨g, 0, none⟩) N c par lab x w ho.il h hx hN)
  have HY := hide (at_any (some ⟨g, 0, none⟩) N c par lab y w ho.il h hy hN)
  have hxl := h.ok.lt x hx
  rw [hlen] at hxl
  have hc := ho.cell hxl
  have hf := ho.frozen (Tl.at_ lab x)
  have hn := ho.set_ (Tl.at_ lab x) (Tl.at_ lab y : Nat)
  rw [zs_set] at hn
  have HN := hide hn
  generalize (zs par).getD (Tl.at_ lab x) 0 = z at *
  generalize Tl.at_ lab x = u at *
  generalize Tl.at_ lab y = v at *
  clear ho hn h hx hy hlen
  go_enter Try.func43, Try.ntmps43
  go_wp2_with fail
  refine HX.out.mono ?_
  rintro e w1 ⟨rfl, rfl⟩
  go_wp2_with fail
  refine HY.out.mono ?_
  rintro e w1 ⟨rfl, rfl⟩
  go_wp2_with fail
  go_returns
  exact ⟨rfl, HN.out, rfl⟩
end Go.Proofs.Ythhcjnmlpojjeaa
