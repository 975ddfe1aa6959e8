/- Several texts in one. -/
import Derived.Test.YtndgffiihbdppaaPart2
import Derived.Test.YtndgffiihbdppaaPart1
import Derived.Test.YtndgffiihbdppaaPart6
import Derived.Test.YtndgffiihbdppaaBase2
import Derived.Test.YtndgffiihbdppaaPart10
import Derived.Test.YtndgffiihbdppaaBase1
/- Sums, and matrices whose rows are short sums of terms. (Split off XBuP: it needs no function of the program.) -/
namespace Go.Proofs.Ytndgffiihbdppaa
set_option linter.unusedVariables false
set_option linter.unusedSimpArgs false
open Go.RowKit
def sumK (f : Nat → Nat) : Nat → Nat
  | 0 => 0
  | n + 1 => sumK f n + f n
theorem sumK_le {f g : Nat → Nat} : ∀ {n : Nat}, (∀ i, i < n → f i ≤ g i) → sumK f n ≤ sumK g n
  | 0, _ => Nat.le_refl _
  | n + 1, h => Nat.add_le_add (sumK_le fun i hi => h i (by omega)) (h n (by omega))
theorem sumK_mul (c : Nat) (f : Nat → Nat) : ∀ n, sumK (fun i => c * f i) n = c * sumK f n
  | 0 => rfl
  | n + 1 => by
    show sumK (fun i => c * f i) n + c * f n = c * (sumK f n + f n)
    rw [sumK_mul c f n, Nat.mul_add]
theorem sumK_mulr (c : Nat) (f : Nat → Nat) (n : Nat) : sumK (fun i => f i * c) n = sumK f n * c := by
  rw [Nat.mul_comm, ← sumK_mul]
  congr 1
  funext i
  exact Nat.mul_comm _ _
theorem sumK_add (f g : Nat → Nat) : ∀ n, sumK (fun i => f i + g i) n = sumK f n + sumK g n
  | 0 => rfl
  | n + 1 => by
    show sumK (fun i => f i + g i) n + (f n + g n) = sumK f n + f n + (sumK g n + g n)
    rw [sumK_add f g n]; omega
theorem sumK_zero : ∀ n, sumK (fun _ => 0) n = 0
  | 0 => rfl
  | n + 1 => sumK_zero n
theorem sumK_swap (f : Nat → Nat → Nat) (m : Nat) : ∀ n, sumK (fun i => sumK (fun j => f i j) m) n = sumK (fun j => sumK (fun i => f i j) n) m
  | 0 => by
    show 0 = sumK (fun _ => 0) m
    rw [sumK_zero]
  | n + 1 => by
    show sumK (fun i => sumK (fun j => f i j) m) n + sumK (fun j => f n j) m = sumK (fun j => sumK (fun i => f i j) n + f n j) m
    rw [sumK_swap f m n, sumK_add]
theorem sumK_one {f : Nat → Nat} : ∀ {n i : Nat}, i < n → f i ≤ sumK f n
  | n + 1, i, h => by
    show f i ≤ sumK f n + f n
    by_cases e : i = n
    · subst e; omega
    · have := sumK_one (f := f) (n := n) (i := i) (by omega); omega
theorem sumK_mono_ {f : Nat → Nat} : ∀ {n m : Nat}, m ≤ n → sumK f m ≤ sumK f n
  | 0, m, h => by obtain rfl : m = 0 := by omega
                  exact Nat.le_refl _
  | n + 1, m, h => by
    by_cases e : m = n + 1
    · subst e; exact Nat.le_refl _
    · exact Nat.le_trans (sumK_mono_ (show m ≤ n by omega)) (Nat.le_add_right _ _)
theorem LP.N1.sumK {f : Nat → LP} {g : Nat → Nat} {E : Nat} : ∀ {n : Nat}, (∀ i, i < n → LP.N1 (f i) E (g i)) → LP.N1 (CR.sumN n f) E (Proofs.Ytndgffiihbdppaa.sumK g n)
  | 0, _ => LP.N1.zero.mono (Nat.zero_le _) (Nat.zero_le _)
  | n + 1, h => by
    rw [CR.sumN_succ]
    exact (LP.N1.sumK fun i hi => h i (by omega)).add (h n (by omega))
/-- Each row is a short sum of terms. -/
def RN (n : Nat) (A : Mtx LP) (E V : Nat) : Prop := ∃ v : Nat → Nat → Nat, (∀ i, i < n → ∀ j, j < n → LP.N1 (A i j) E (v i j)) ∧ ∀ i, i < n → sumK (v i) n ≤ V
theorem RN.entry {n E V : Nat} {A : Mtx LP} (h : RN n A E V) {i j : Nat} (hi : i < n) (hj : j < n) : LP.N1 (A i j) E V := by
  obtain ⟨v, h1, h2⟩ := h
  exact (h1 i hi j hj).mono (Nat.le_refl _) (Nat.le_trans (sumK_one hj) (h2 i hi))
theorem RN.part {n E V E' V' : Nat} {A B : Mtx LP} (hA : RN n A E V) (hB : RN n B E' V') {i j m : Nat} (hi : i < n) (hj : j < n) (hm : m ≤ n) : LP.N1 (CR.sumN m fun k => A i k * B k j) (E + E') (V * V') := by
  obtain ⟨v, h1, h2⟩ := hA
  have h3 := LP.N1.sumK (n := m) (f := fun k => A i k * B k j) (g := fun k => v i k * V') (E := E + E') (fun k hk => (h1 i hi k (by omega)).mul (hB.entry (by omega) hj))
  refine h3.mono (Nat.le_refl _) ?_
  rw [sumK_mulr]
  refine Nat.mul_le_mul_right _ (Nat.le_trans ?_ (h2 i hi))
  exact sumK_mono_ hm
theorem RN.mul {n E V E' V' : Nat} {A B : Mtx LP} (hA : RN n A E V) (hB : RN n B E' V') : RN n (mulM n A B) (E + E') (V * V') := by
  obtain ⟨v, h1, h2⟩ := hA
  obtain ⟨u, h3, h4⟩ := hB
  refine ⟨fun i j => sumK (fun k => v i k * u k j) n, fun i hi j hj => LP.N1.sumK fun k hk => (h1 i hi k hk).mul (h3 k hk j hj), fun i hi => ?_⟩
  show sumK (fun j => sumK (fun k => v i k * u k j) n) n ≤ V * V'
  rw [sumK_swap]
  have e : sumK (fun k => sumK (fun j => v i k * u k j) n) n ≤ sumK (fun k => v i k * V') n := sumK_le fun k hk => by
    rw [sumK_mul]
    exact Nat.mul_le_mul_left _ (h4 k hk)
  refine Nat.le_trans e ?_
  rw [sumK_mulr]
  exact Nat.mul_le_mul_right _ (h2 i hi)
theorem RN.congr {n E V : Nat} {A B : Mtx LP} (h : RN n A E V) (e : EqM n A B) : RN n B E V := by
  obtain ⟨v, h1, h2⟩ := h
  exact ⟨v, fun i hi j hj => by rw [← e i hi j hj]; exact h1 i hi j hj, h2⟩
theorem RN.mono {n E V E' V' : Nat} {A : Mtx LP} (h : RN n A E V) (h1 : E ≤ E') (h2 : V ≤ V') : RN n A E' V' := by
  obtain ⟨v, h3, h4⟩ := h
  exact ⟨v, fun i hi j hj => (h3 i hi j hj).mono h1 (Nat.le_refl _), fun i hi => Nat.le_trans (h4 i hi) h2⟩
theorem oneM_rn (n : Nat) : RN n (oneM : Mtx LP) 0 1 := by
  refine ⟨fun i j => if j = i then 1 else 0, fun i _ j _ => ?_, fun i hi => ?_⟩
  · show LP.N1 (if i = j then 1 else 0) 0 (if j = i then 1 else 0)
    by_cases h : i = j
    · rw [if_pos h, if_pos h.symm]; exact LP.N1.one
    · rw [if_neg h, if_neg (fun e => h e.symm)]; exact LP.N1.zero
  · have h : ∀ m, sumK (fun j => if j = i then 1 else 0) m = if i < m then 1 else 0 := fun m => by
      induction m with
      | zero => rfl
      | succ m ih =>
        show sumK _ m + (if m = i then 1 else 0) = _
        rw [ih]
        split <;> split <;> split <;> omega
    rw [h, if_pos hi]
    exact Nat.le_refl _
theorem bl_rn (n : Nat) (x : Int) : RN n (bl x) 1 3 := by
  refine ⟨fun i j => if i + 1 = x.natAbs then (if j = i then 2 else if j = i + 1 then 1 else 0) else if i = x.natAbs then (if j + 1 = i then 1 else if j = i then 2 else 0) else if j = i then 1 else 0, fun i _ j _ => ?_, fun i hi => ?_⟩
  · have h1 : LP.N1 (1 + -tT) 1 2 := (LP.N1.one.mono (Nat.zero_le _) (Nat.le_refl _)).add (LP.N1.term 1 1).neg
    have h2 : LP.N1 (1 + -tI) 1 2 := (LP.N1.one.mono (Nat.zero_le _) (Nat.le_refl _)).add (LP.N1.term (-1) 1).neg
    have h3 : LP.N1 (1 : LP) 1 1 := LP.N1.one.mono (Nat.zero_le _) (Nat.le_refl _)
    have h4 : LP.N1 (0 : LP) 1 0 := LP.N1.zero.mono (Nat.zero_le _) (Nat.le_refl _)
    have h5 : LP.N1 tT 1 1 := LP.N1.term 1 1
    have h6 : LP.N1 tI 1 1 := LP.N1.term (-1) 1
    unfold bl
    by_cases a1 : i + 1 = x.natAbs
    · simp only [if_pos a1]
      by_cases a2 : 0 < x
      · simp only [if_pos a2]
        by_cases a3 : j = i
        · simp only [if_pos a3]; exact h1
        · simp only [if_neg a3]
          by_cases a4 : j = i + 1
          · simp only [if_pos a4]; exact h5
          · simp only [if_neg a4]; exact h4
      · simp only [if_neg a2]
        by_cases a4 : j = i + 1
        · simp only [if_pos a4, if_neg (show ¬ j = i by omega)]; exact h3
        · simp only [if_neg a4]; exact h4.mono (Nat.le_refl _) (Nat.zero_le _)
    · simp only [if_neg a1]
      by_cases b1 : i = x.natAbs
      · simp only [if_pos b1]
        by_cases a2 : 0 < x
        · simp only [if_pos a2]
          by_cases a3 : j + 1 = i
          · simp only [if_pos a3]; exact h3
          · simp only [if_neg a3]; exact h4.mono (Nat.le_refl _) (Nat.zero_le _)
        · simp only [if_neg a2]
          by_cases a3 : j + 1 = i
          · simp only [if_pos a3]; exact h6
          · simp only [if_neg a3]
            by_cases a4 : j = i
            · simp only [if_pos a4]; exact h2
            · simp only [if_neg a4]; exact h4
      · simp only [if_neg b1]
        by_cases a4 : i = j
        · simp only [if_pos a4, if_pos a4.symm]; exact h3
        · simp only [if_neg a4, if_neg (show ¬ j = i from fun e => a4 e.symm)]; exact h4
  · have hone : ∀ (a v : Nat) m, sumK (fun j => if j = a then v else 0) m = if a < m then v else 0 := fun a v m => by
      induction m with
      | zero => rfl
      | succ m ih =>
        show sumK _ m + (if m = a then v else 0) = _
        rw [ih]
        split <;> split <;> split <;> omega
    show sumK (fun j => if i + 1 = x.natAbs then (if j = i then 2 else if j = i + 1 then 1 else 0) else if i = x.natAbs then (if j + 1 = i then 1 else if j = i then 2 else 0) else if j = i then 1 else 0) n ≤ 3
    have hle : sumK (fun j => if i + 1 = x.natAbs then (if j = i then 2 else if j = i + 1 then 1 else 0) else if i = x.natAbs then (if j + 1 = i then 1 else if j = i then 2 else 0) else if j = i then 1 else 0) n ≤ sumK (fun j => (if j = i then 2 else 0) + ((if i + 1 = x.natAbs then (if j = i + 1 then 1 else 0) else (if j = i - 1 then 1 else 0)))) n := sumK_le fun j _ => by
      by_cases a1 : i + 1 = x.natAbs
      · simp only [if_pos a1]; split <;> split <;> omega
      · simp only [if_neg a1]
        by_cases b1 : i = x.natAbs
        · simp only [if_pos b1]; split <;> (try split) <;> split <;> omega
        · simp only [if_neg b1]; split <;> split <;> omega
    refine Nat.le_trans hle ?_
    rw [sumK_add, hone]
    by_cases a1 : i + 1 = x.natAbs
    · simp only [if_pos a1]; rw [hone]; split <;> split <;> omega
    · simp only [if_neg a1]; rw [hone]; split <;> split <;> omega
theorem bu_rn {n : Nat} : ∀ w : List Int, RN n (bu n w) w.length (3 ^ w.length)
  | [] => oneM_rn n
  | x :: w => by
    have h := (bl_rn n x).mul (bu_rn w)
    exact h.mono (by rw [List.length_cons]; omega) (by rw [List.length_cons, Nat.pow_succ, Nat.mul_comm]; exact Nat.le_refl _)
end Go.Proofs.Ytndgffiihbdppaa
/- Package braid: poly, block, sumOfProducts. -/
namespace Go.Proofs.Ytndgffiihbdppaa
set_option linter.unusedVariables false
set_option linter.unusedSimpArgs false
open Go.RowKit

set_option maxRecDepth 100000 in
set_option maxHeartbeats 2000000 in
theorem bpoly_any (lo : Int) (A : Option Addr) (n c : Nat) (w : World) : Calls Try.prog 114 #[.int .i64 lo, .slice A n c] w fun e w' => e = .returned (PV lo A n c) ∧ Below w.heap.size w w' := by
  have hb0 : Below w.heap.size w (w.alloc (.cells #[.int .i64 lo, .slice A n c] 36)) := (Below.refl _ _).alloc (Nat.le_refl _) _
  have HB0 := hide hb0
  have HK := hide (Blk.new w 36 #[.int .i64 lo, .slice A n c])
  clear hb0
  go_enter Try.func114, Try.ntmps114
  go_wp2_with fail
  refine bodyPost_ret (results_poly rfl _ rfl HK.out) rfl ?_
  exact ⟨rfl, HB0.out⟩

set_option maxRecDepth 100000 in
set_option maxHeartbeats 4000000 in
theorem sumP_any (F : PolyC) (x y z u : LP) (A : Option Addr) (n c : Nat) (B : Option Addr) (m d : Nat) (C : Option Addr) (l e : Nat) (D : Option Addr) (k f : Nat) (w : World) (ha : SL w A n c (LP.canon x).2) (hb : SL w B m d (LP.canon y).2) (hc : SL w C l e (LP.canon z).2) (hd : SL w D k f (LP.canon u).2)
    (rx : LP.Rt x) (ry : LP.Rt y) (rz : LP.Rt z) (ru : LP.Rt u) (rxy : LP.Rt (x * y)) (rzu : LP.Rt (z * u)) (rs : LP.Rt (x * y + z * u)) :
    Calls Try.prog 116 #[PV (LP.canon x).1 A n c, PV (LP.canon y).1 B m d, PV (LP.canon z).1 C l e, PV (LP.canon u).1 D k f] w (GivesP w (LP.canon (x * y + z * u)).1 (LP.canon (x * y + z * u)).2) := by
  have HM1 := hide (fun (w' : World) (h1 : SL w' A n c (LP.canon x).2) (h2 : SL w' B m d (LP.canon y).2) => F.mul (LP.canon x).1 A n c _ (LP.canon y).1 B m d _ w' h1 h2 rx.wf ry.wf)
  have HM2 := hide (fun (w' : World) (h1 : SL w' C l e (LP.canon z).2) (h2 : SL w' D k f (LP.canon u).2) => F.mul (LP.canon z).1 C l e _ (LP.canon u).1 D k f _ w' h1 h2 rz.wf ru.wf)
  have HA3 := hide (fun (w' : World) (P Q : Option Addr) (pn pc qn qc : Nat) (h1 : SL w' P pn pc (LP.canon (x * y)).2) (h2 : SL w' Q qn qc (LP.canon (z * u)).2) => F.add (LP.canon (x * y)).1 P pn pc _ (LP.canon (z * u)).1 Q qn qc _ w' h1 h2 rxy.wf rzu.wf)
  rw [LP.mulR_canon rx ry rxy] at HM1
  rw [LP.mulR_canon rz ru rzu] at HM2
  rw [LP.addR_canon rxy rzu rs] at HA3
  clear F rx ry rz ru rxy rzu rs
  generalize (LP.canon (x * y + z * u)).1 = ls at *
  generalize (LP.canon (x * y + z * u)).2 = cs at *
  generalize (LP.canon (x * y)).1 = lp at *
  generalize (LP.canon (x * y)).2 = cp at *
  generalize (LP.canon (z * u)).1 = lq at *
  generalize (LP.canon (z * u)).2 = cq at *
  generalize (LP.canon x).1 = lx at *
  generalize (LP.canon x).2 = cx at *
  generalize (LP.canon y).1 = ly at *
  generalize (LP.canon y).2 = cy at *
  generalize (LP.canon z).1 = lz at *
  generalize (LP.canon z).2 = cz at *
  generalize (LP.canon u).1 = lu at *
  generalize (LP.canon u).2 = cu at *
  obtain ⟨W0, hW0⟩ : ∃ W, ((((w.alloc (.cells #[.int .i64 lx, .slice A n c] 36)).alloc (.cells #[.int .i64 ly, .slice B m d] 36)).alloc (.cells #[.int .i64 lz, .slice C l e] 36)).alloc (.cells #[.int .i64 lu, .slice D k f] 36)).alloc (.cells #[.int .i64 0, .slice none 0 0] 36) = W := ⟨_, rfl⟩
  have hs0 : W0.heap.size = w.heap.size + 5 := by rw [← hW0]; simp
  have hb0 : Below w.heap.size w W0 := by
    rw [← hW0]
    exact (((((Below.refl _ _).alloc (Nat.le_refl _) _).alloc (by simp) _).alloc (by simp; omega) _).alloc (by simp; omega) _).alloc (by simp; omega) _
  have B1 : Blk W0 w.heap.size 36 #[.int .i64 lx, .slice A n c] := by rw [← hW0]; exact (((Blk.new w _ _).alloc _).alloc _).alloc _ |>.alloc _
  have B2 : Blk W0 (w.heap.size + 1) 36 #[.int .i64 ly, .slice B m d] := by
    rw [← hW0]
    have h := ((Blk.new (w.alloc (.cells #[.int .i64 lx, .slice A n c] 36)) 36 #[.int .i64 ly, .slice B m d]).alloc (.cells #[.int .i64 lz, .slice C l e] 36)).alloc (.cells #[.int .i64 lu, .slice D k f] 36) |>.alloc (.cells #[.int .i64 0, .slice none 0 0] 36)
    simpa using h
  have B3 : Blk W0 (w.heap.size + 1 + 1) 36 #[.int .i64 lz, .slice C l e] := by
    rw [← hW0]
    have h := (Blk.new ((w.alloc (.cells #[.int .i64 lx, .slice A n c] 36)).alloc (.cells #[.int .i64 ly, .slice B m d] 36)) 36 #[.int .i64 lz, .slice C l e]).alloc (.cells #[.int .i64 lu, .slice D k f] 36) |>.alloc (.cells #[.int .i64 0, .slice none 0 0] 36)
    simpa using h
  have B4 : Blk W0 (w.heap.size + 1 + 1 + 1) 36 #[.int .i64 lu, .slice D k f] := by
    rw [← hW0]
    have h := (Blk.new (((w.alloc (.cells #[.int .i64 lx, .slice A n c] 36)).alloc (.cells #[.int .i64 ly, .slice B m d] 36)).alloc (.cells #[.int .i64 lz, .slice C l e] 36)) 36 #[.int .i64 lu, .slice D k f]).alloc (.cells #[.int .i64 0, .slice none 0 0] 36)
    simpa using h
  have B5 : Blk W0 (w.heap.size + 1 + 1 + 1 + 1) 36 #[.int .i64 0, .slice none 0 0] := by
    rw [← hW0]
    have h := Blk.new ((((w.alloc (.cells #[.int .i64 lx, .slice A n c] 36)).alloc (.cells #[.int .i64 ly, .slice B m d] 36)).alloc (.cells #[.int .i64 lz, .slice C l e] 36)).alloc (.cells #[.int .i64 lu, .slice D k f] 36)) 36 #[.int .i64 0, .slice none 0 0]
    simpa using h
  have HS1 := hide (ha.below hb0)
  have HS2 := hide (hb.below hb0)
  have HS3 := hide (hc.below hb0)
  have HS4 := hide (hd.below hb0)
  have HW := hide hb0
  have K1 := hide B1
  have K2 := hide B2
  have K3 := hide B3
  have K4 := hide B4
  have K5 := hide B5
  clear ha hb hc hd hb0 B1 B2 B3 B4 B5
  go_enter Try.func116, Try.ntmps116
  go_upto_region 1 with fail
  clear hW0
  obtain ⟨b1, hb1⟩ : ∃ b, w.heap.size = b := ⟨_, rfl⟩
  rw [hb1] at K1 K2 K3 K4 K5 hs0 ⊢
  have HZ := hide hb1
  clear hb1
  obtain ⟨b2, hb2⟩ : ∃ b, b1 + 1 = b := ⟨_, rfl⟩
  rw [hb2] at K2 K3 K4 K5 ⊢
  obtain ⟨b3, hb3⟩ : ∃ b, b2 + 1 = b := ⟨_, rfl⟩
  rw [hb3] at K3 K4 K5 ⊢
  obtain ⟨b4, hb4⟩ : ∃ b, b3 + 1 = b := ⟨_, rfl⟩
  rw [hb4] at K4 K5 ⊢
  obtain ⟨b5, hb5⟩ : ∃ b, b4 + 1 = b := ⟨_, rfl⟩
  rw [hb5] at K5 ⊢
  have q1 : b1 < W0.heap.size := by omega
  have q2 : b2 < W0.heap.size := by omega
  have q3 : b3 < W0.heap.size := by omega
  have q4 : b4 < W0.heap.size := by omega
  have q5 : b5 < W0.heap.size := by omega
  have p1 : b1 < b5 := by omega
  have p2 : b1 ≤ b5 := by omega
  clear hb2 hb3 hb4 hb5 hs0
  have c10 := K1.out.cell 0
  have c11 := K1.out.cell 1
  have c20 := K2.out.cell 0
  have c21 := K2.out.cell 1
  simp at c10 c11 c20 c21
  go_wp2_with fail
  refine (HM1.out W0 HS1.out HS2.out).mono ?_
  rintro e1 w1 ⟨P, pn, pc, rfl, hs, hnw, hb⟩
  have HP := hide (hs.below ((Below.refl w1.heap.size w1).alloc (Nat.le_refl _) (.cells #[.int .i64 lp, .slice P pn pc] 36)))
  have hb1 := hb.trans (((Below.refl w1.heap.size w1).alloc (Nat.le_refl _) (.cells #[.int .i64 lp, .slice P pn pc] 36)).mono hb.size)
  have K6 := hide (Blk.new w1 36 #[.int .i64 lp, .slice P pn pc])
  replace K3 := hide (K3.out.below hb1 q3)
  replace K4 := hide (K4.out.below hb1 q4)
  replace K5 := hide (K5.out.below hb1 q5)
  replace HS3 := hide (HS3.out.below hb1)
  replace HS4 := hide (HS4.out.below hb1)
  replace HW := hide (HW.out.trans (hb1.mono HW.out.size))
  have r5 : b5 < w1.heap.size := by have := hb.size; omega
  have r1 : b1 ≤ w1.heap.size := by omega
  clear K1 K2 HS1 HS2 hb1 hb hs hnw c10 c11 c20 c21 HM1 q1 q2 q3 q4 q5
  go_upto_region 2 with fail
  obtain ⟨b6, hb6⟩ : ∃ b, w1.heap.size = b := ⟨_, rfl⟩
  obtain ⟨W1, hW1⟩ : ∃ W, w1.alloc (.cells #[.int .i64 lp, .slice P pn pc] 36) = W := ⟨_, rfl⟩
  have q6 : b6 < W1.heap.size := by rw [← hW1, ← hb6]; simp
  rw [hb6] at K6 r5 r1 ⊢
  rw [hW1] at K6 K3 K4 K5 HS3 HS4 HW HP ⊢
  clear hb6 hW1
  have c10 := K3.out.cell 0
  have c11 := K3.out.cell 1
  have c20 := K4.out.cell 0
  have c21 := K4.out.cell 1
  simp at c10 c11 c20 c21
  go_wp2_with fail
  refine (HM2.out W1 HS3.out HS4.out).mono ?_
  rintro e1 w2 ⟨Q, qn, qc, rfl, hs, hnw, hb⟩
  have HQ := hide (hs.below ((Below.refl w2.heap.size w2).alloc (Nat.le_refl _) (.cells #[.int .i64 lq, .slice Q qn qc] 36)))
  have hb1 := hb.trans (((Below.refl w2.heap.size w2).alloc (Nat.le_refl _) (.cells #[.int .i64 lq, .slice Q qn qc] 36)).mono hb.size)
  have K7 := hide (Blk.new w2 36 #[.int .i64 lq, .slice Q qn qc])
  replace K6 := hide (K6.out.below hb1 q6)
  replace K5 := hide (K5.out.below hb1 (by omega))
  replace HP := hide (HP.out.below hb1)
  replace HW := hide (HW.out.trans (hb1.mono HW.out.size))
  have r6 : b6 < w2.heap.size := by have := hb.size; omega
  clear K3 K4 HS3 HS4 hb1 hb hs hnw c10 c11 c20 c21 HM2 q6
  go_upto_region 3 with fail
  obtain ⟨b7, hb7⟩ : ∃ b, w2.heap.size = b := ⟨_, rfl⟩
  obtain ⟨W2, hW2⟩ : ∃ W, w2.alloc (.cells #[.int .i64 lq, .slice Q qn qc] 36) = W := ⟨_, rfl⟩
  have q7 : b7 < W2.heap.size := by rw [← hW2, ← hb7]; simp
  rw [hb7] at K7 r6 ⊢
  rw [hW2] at K7 K6 K5 HP HQ HW ⊢
  clear hb7 hW2
  have c10 := K6.out.cell 0
  have c11 := K6.out.cell 1
  have c20 := K7.out.cell 0
  have c21 := K7.out.cell 1
  simp at c10 c11 c20 c21
  go_wp2_with fail
  refine (HA3.out W2 _ _ _ _ _ _ HP.out HQ.out).mono ?_
  rintro e1 w3 ⟨R, rn, rc, rfl, hs, hnw, hb⟩
  have HR := hide (hs.below ((Below.refl w3.heap.size w3).alloc (Nat.le_refl _) (.cells #[.int .i64 ls, .slice R rn rc] 36)))
  have hb1 := hb.trans (((Below.refl w3.heap.size w3).alloc (Nat.le_refl _) (.cells #[.int .i64 ls, .slice R rn rc] 36)).mono hb.size)
  have K8 := hide (Blk.new w3 36 #[.int .i64 ls, .slice R rn rc])
  replace K5 := hide (K5.out.below hb1 (by omega))
  replace HW := hide (HW.out.trans (hb1.mono HW.out.size))
  have HN : Hid (0 < rn → ∀ ad, R = some ad → b7 < ad.block) := hide (fun h ad e => by have := hnw h ad e; omega)
  have r7 : b7 < w3.heap.size := by have := hb.size; omega
  clear K6 K7 HP HQ hb1 hb hs hnw c10 c11 c20 c21 HA3 q7
  go_upto_region 4 with fail
  obtain ⟨b8, hb8⟩ : ∃ b, w3.heap.size = b := ⟨_, rfl⟩
  obtain ⟨W3, hW3⟩ : ∃ W, w3.alloc (.cells #[.int .i64 ls, .slice R rn rc] 36) = W := ⟨_, rfl⟩
  rw [hb8] at K8 r7 ⊢
  rw [hW3] at K8 K5 HR HW ⊢
  clear hb8 hW3
  have c10 := K8.out.cell 0
  have c11 := K8.out.cell 1
  have c20 := K5.out.cell 0
  have c21 := K5.out.cell 1
  have f20 := K5.out.frozen 0
  have f21 := K5.out.frozen 1
  simp at c10 c11 c20 c21
  go_wp2_with fail
  refine bodyPost_ret (results_poly rfl _ rfl ((K5.out.set_ 0 (.int .i64 ls)).set_ 1 (.slice R rn rc))) rfl ?_
  refine ⟨R, rn, rc, rfl, ?_, fun h ad e => by have := HN.out h ad e; have := HZ.out; omega, ?_⟩
  · exact (HR.out.setCell (fun h ad e => by have := HN.out h ad e; omega) 0 _).setCell (fun h ad e => by have := HN.out h ad e; omega) 1 _
  · exact (HW.out.setCell (p := ⟨b5, 0, none⟩) (by show w.heap.size ≤ b5; rw [HZ.out]; exact p2) _).setCell (p := ⟨b5, 1, none⟩) (by show w.heap.size ≤ b5; rw [HZ.out]; exact p2) _
end Go.Proofs.Ytndgffiihbdppaa
/- Package braid: block. -/
namespace Go.Proofs.Ytndgffiihbdppaa
set_option linter.unusedVariables false
set_option linter.unusedSimpArgs false
open Go.RowKit

def e00 (x : Int) : LP := if 0 < x then 1 + -tT else 0
def e01 (x : Int) : LP := if 0 < x then tT else 1
def e10 (x : Int) : LP := if 0 < x then 1 else tI
def e11 (x : Int) : LP := if 0 < x then 0 else 1 + -tI
theorem canon_zero : LP.canon 0 = (0, []) := LP.canon_eq (.inl ⟨rfl, rfl⟩) rfl
theorem canon_one : LP.canon 1 = (0, [1]) := LP.canon_eq (.inr ⟨by simp, by decide, by decide⟩) (by unfold LP.of; rfl)
theorem canon_tT : LP.canon tT = (1, [1]) := LP.canon_eq (.inr ⟨by simp, by decide, by decide⟩) (by unfold LP.of; rfl)
theorem canon_tI : LP.canon tI = (-1, [1]) := LP.canon_eq (.inr ⟨by simp, by decide, by decide⟩) (by unfold LP.of; rfl)
theorem canon_one_tT : LP.canon (1 + -tT) = (0, [1, -1]) := LP.canon_eq (.inr ⟨by simp, by decide, by decide⟩) (by unfold LP.of; rfl)
theorem canon_one_tI : LP.canon (1 + -tI) = (-1, [-1, 1]) := LP.canon_eq (.inr ⟨by simp, by decide, by decide⟩) (by unfold LP.of; rw [CR.add_comm]; rfl)
/-- The four polynomials of a letter. -/
def GivesB (w : World) (x : Int) (e : Ending) (w' : World) : Prop :=
  ∃ A n c B m d C l f D k g, e = .returned (.agg #[.int .i64 (LP.canon (e00 x)).1, .slice A n c, .int .i64 (LP.canon (e01 x)).1, .slice B m d, .int .i64 (LP.canon (e10 x)).1, .slice C l f, .int .i64 (LP.canon (e11 x)).1, .slice D k g]) ∧
    SL w' A n c (LP.canon (e00 x)).2 ∧ SL w' B m d (LP.canon (e01 x)).2 ∧ SL w' C l f (LP.canon (e10 x)).2 ∧ SL w' D k g (LP.canon (e11 x)).2 ∧ NewA w B m ∧ NewA w D k ∧ Below w.heap.size w w'
theorem eBpoly : ∀ args w, (callFunc 114 args).run Try.prog w = .ok (.enter 114 args) w := enters (fn := Try.f114) (by kernel_rfl) (by kernel_rfl) (by kernel_rfl)

set_option maxRecDepth 100000 in
theorem results_sq {fn : Func} {t : Tmp} {b : Nat} {v0 v1 v2 v3 v4 v5 v6 v7 : Value} {w : World} (h : fn.results = #[.cell t 120]) (tmps : Array Value) (ht : tmps.getD t undef = .pointer (some ⟨b, 0, none⟩)) (hb : Blk w b 120 #[v0, v1, v2, v3, v4, v5, v6, v7]) :
    (results fn tmps).run Try.prog w = .ok (.agg #[v0, v1, v2, v3, v4, v5, v6, v7]) w := by
  have h0 := hb.cell 0
  have h1 := hb.cell 1
  have h2 := hb.cell 2
  have h3 := hb.cell 3
  have h4 := hb.cell 4
  have h5 := hb.cell 5
  have h6 := hb.cell 6
  have h7 := hb.cell 7
  simp at h0 h1 h2 h3 h4 h5 h6 h7
  have ht2 : tmps[t]?.getD undef = .pointer (some ⟨b, 0, none⟩) := by simpa using ht
  simp [results, h, ht2, go_sem, h0, h1, h2, h3, h4, h5, h6, h7, Result.andThen]

set_option maxRecDepth 100000 in
set_option maxHeartbeats 4000000 in
theorem block_pos (x : Int) (w : World) (h0 : 0 < x) : Calls Try.prog 115 #[.int .i64 x] w (GivesB w x) := by
  have hW0 : Below w.heap.size w (w.alloc (.cells #[.int .i64 0, .slice none 0 0, .int .i64 0, .slice none 0 0, .int .i64 0, .slice none 0 0, .int .i64 0, .slice none 0 0] 120)) := (Below.refl _ _).alloc (Nat.le_refl _) _
  have HW := hide hW0
  have HK := hide (Blk.new w 120 #[.int .i64 0, .slice none 0 0, .int .i64 0, .slice none 0 0, .int .i64 0, .slice none 0 0, .int .i64 0, .slice none 0 0])
  go_enter Try.func115, Try.ntmps115
  go_upto_region 2 with fail
  obtain ⟨W0, hw0⟩ : ∃ W, w.alloc (.cells #[.int .i64 0, .slice none 0 0, .int .i64 0, .slice none 0 0, .int .i64 0, .slice none 0 0, .int .i64 0, .slice none 0 0] 120) = W := ⟨_, rfl⟩
  have hz0 : w.heap.size < W0.heap.size := by rw [← hw0]; simp
  rw [hw0] at HW HK ⊢
  obtain ⟨b0, hb0⟩ : ∃ b, w.heap.size = b := ⟨_, rfl⟩
  rw [hb0] at hz0 HK ⊢
  have HZ := hide hb0
  clear hw0 hb0 hW0
  go_wp2_with fail
  have hl := SL.lit W0 [1, -1] (by decide) (cs := #[.int .i64 1, .int .i64 (-1)]) rfl (m := 2) rfl
  have hb := (Below.refl W0.heap.size W0).alloc (Nat.le_refl _) (.cells #[.int .i64 1, .int .i64 (-1)] 3)
  obtain ⟨V1, hV⟩ : ∃ V, W0.alloc (.cells #[.int .i64 1, .int .i64 (-1)] 3) = V := ⟨_, rfl⟩
  rw [hV] at hl hb ⊢
  refine (bpoly_any 0 _ _ _ V1).mono ?_
  rintro e W1 ⟨rfl, hc⟩
  have hbc := hb.trans (hc.mono hb.size)
  have HS1 := hide (hl.below hc)
  replace HW := hide (HW.out.trans (hbc.mono HW.out.size))
  replace HK := hide (HK.out.below hbc (by omega))
  have hz1 : b0 < W1.heap.size := by have := hbc.size; omega
  clear hl hb hc hbc hV
  go_wp2_with fail
  have hl := SL.lit W1 [1] (by decide) (cs := #[.int .i64 1]) rfl (m := 1) rfl
  have hb := (Below.refl W1.heap.size W1).alloc (Nat.le_refl _) (.cells #[.int .i64 1] 3)
  obtain ⟨V2, hV⟩ : ∃ V, W1.alloc (.cells #[.int .i64 1] 3) = V := ⟨_, rfl⟩
  rw [hV] at hl hb ⊢
  refine (bpoly_any 1 _ _ _ V2).mono ?_
  rintro e W2 ⟨rfl, hc⟩
  have hbc := hb.trans (hc.mono hb.size)
  have HS2 := hide (hl.below hc)
  replace HS1 := hide (HS1.out.below hbc)
  replace HW := hide (HW.out.trans (hbc.mono HW.out.size))
  replace HK := hide (HK.out.below hbc (by omega))
  have hz2 : b0 < W2.heap.size := by have := hbc.size; omega
  clear hl hb hc hbc hV
  go_wp2_with fail
  have hl := SL.lit W2 [1] (by decide) (cs := #[.int .i64 1]) rfl (m := 1) rfl
  have hb := (Below.refl W2.heap.size W2).alloc (Nat.le_refl _) (.cells #[.int .i64 1] 3)
  obtain ⟨V3, hV⟩ : ∃ V, W2.alloc (.cells #[.int .i64 1] 3) = V := ⟨_, rfl⟩
  rw [hV] at hl hb ⊢
  refine (bpoly_any 0 _ _ _ V3).mono ?_
  rintro e W3 ⟨rfl, hc⟩
  have hbc := hb.trans (hc.mono hb.size)
  have HS3 := hide (hl.below hc)
  replace HS1 := hide (HS1.out.below hbc)
  replace HS2 := hide (HS2.out.below hbc)
  replace HW := hide (HW.out.trans (hbc.mono HW.out.size))
  replace HK := hide (HK.out.below hbc (by omega))
  have hz3 : b0 < W3.heap.size := by have := hbc.size; omega
  clear hl hb hc hbc hV
  have f0 := HK.out.frozen 0
  have g0 := HK.out.cell 0
  have f1 := HK.out.frozen 1
  have g1 := HK.out.cell 1
  have f2 := HK.out.frozen 2
  have g2 := HK.out.cell 2
  have f3 := HK.out.frozen 3
  have g3 := HK.out.cell 3
  have f4 := HK.out.frozen 4
  have g4 := HK.out.cell 4
  have f5 := HK.out.frozen 5
  have g5 := HK.out.cell 5
  have f6 := HK.out.frozen 6
  have g6 := HK.out.cell 6
  have f7 := HK.out.frozen 7
  have g7 := HK.out.cell 7
  simp at g0 g1 g2 g3 g4 g5 g6 g7
  go_wp2_with fail
  refine bodyPost_ret (results_sq rfl _ rfl ((((((((HK.out.set_ 0 (.int .i64 0)).set_ 1 (.slice (some ⟨W0.heap.size, 0, none⟩) 2 2)).set_ 2 (.int .i64 1)).set_ 3 (.slice (some ⟨W1.heap.size, 0, none⟩) 1 1)).set_ 4 (.int .i64 0)).set_ 5 (.slice (some ⟨W2.heap.size, 0, none⟩) 1 1)).set_ 6 (.int .i64 0)).set_ 7 (.slice none 0 0))) rfl ?_
  have n0 : ∀ {m : Nat}, 0 < m → ∀ ad, some (⟨W0.heap.size, 0, none⟩ : Addr) = some ad → ad.block ≠ b0 := fun _ ad e => by injection e with e; subst e; show W0.heap.size ≠ b0; omega
  have n1 : ∀ {m : Nat}, 0 < m → ∀ ad, some (⟨W1.heap.size, 0, none⟩ : Addr) = some ad → ad.block ≠ b0 := fun _ ad e => by injection e with e; subst e; show W1.heap.size ≠ b0; omega
  have n2 : ∀ {m : Nat}, 0 < m → ∀ ad, some (⟨W2.heap.size, 0, none⟩ : Addr) = some ad → ad.block ≠ b0 := fun _ ad e => by injection e with e; subst e; show W2.heap.size ≠ b0; omega
  have y1 := ((((((((HS1.out.setCell n0 0 (.int .i64 0)).setCell n0 1 (.slice (some ⟨W0.heap.size, 0, none⟩) 2 2)).setCell n0 2 (.int .i64 1)).setCell n0 3 (.slice (some ⟨W1.heap.size, 0, none⟩) 1 1)).setCell n0 4 (.int .i64 0)).setCell n0 5 (.slice (some ⟨W2.heap.size, 0, none⟩) 1 1)).setCell n0 6 (.int .i64 0)).setCell n0 7 (.slice none 0 0))
  have y2 := ((((((((HS2.out.setCell n1 0 (.int .i64 0)).setCell n1 1 (.slice (some ⟨W0.heap.size, 0, none⟩) 2 2)).setCell n1 2 (.int .i64 1)).setCell n1 3 (.slice (some ⟨W1.heap.size, 0, none⟩) 1 1)).setCell n1 4 (.int .i64 0)).setCell n1 5 (.slice (some ⟨W2.heap.size, 0, none⟩) 1 1)).setCell n1 6 (.int .i64 0)).setCell n1 7 (.slice none 0 0))
  have y3 := ((((((((HS3.out.setCell n2 0 (.int .i64 0)).setCell n2 1 (.slice (some ⟨W0.heap.size, 0, none⟩) 2 2)).setCell n2 2 (.int .i64 1)).setCell n2 3 (.slice (some ⟨W1.heap.size, 0, none⟩) 1 1)).setCell n2 4 (.int .i64 0)).setCell n2 5 (.slice (some ⟨W2.heap.size, 0, none⟩) 1 1)).setCell n2 6 (.int .i64 0)).setCell n2 7 (.slice none 0 0))
  have hw := ((((((((HW.out.setCell (p := ⟨b0, 0, none⟩) (Nat.le_of_eq HZ.out) (.int .i64 0)).setCell (p := ⟨b0, 1, none⟩) (Nat.le_of_eq HZ.out) (.slice (some ⟨W0.heap.size, 0, none⟩) 2 2)).setCell (p := ⟨b0, 2, none⟩) (Nat.le_of_eq HZ.out) (.int .i64 1)).setCell (p := ⟨b0, 3, none⟩) (Nat.le_of_eq HZ.out) (.slice (some ⟨W1.heap.size, 0, none⟩) 1 1)).setCell (p := ⟨b0, 4, none⟩) (Nat.le_of_eq HZ.out) (.int .i64 0)).setCell (p := ⟨b0, 5, none⟩) (Nat.le_of_eq HZ.out) (.slice (some ⟨W2.heap.size, 0, none⟩) 1 1)).setCell (p := ⟨b0, 6, none⟩) (Nat.le_of_eq HZ.out) (.int .i64 0)).setCell (p := ⟨b0, 7, none⟩) (Nat.le_of_eq HZ.out) (.slice none 0 0))
  unfold GivesB e00 e01 e10 e11
  simp only [if_pos h0, canon_one_tT, canon_tT, canon_one, canon_zero]
  exact ⟨_, _, _, _, _, _, _, _, _, _, _, _, rfl, y1, y2, y3, SL.nil_ _, fun _ ad e => by injection e with e; subst e; show w.heap.size ≤ W1.heap.size; have := HZ.out; omega, fun _ ad e => (by cases e), hw⟩

set_option maxRecDepth 100000 in
set_option maxHeartbeats 4000000 in
theorem block_neg (x : Int) (w : World) (h0 : ¬ 0 < x) : Calls Try.prog 115 #[.int .i64 x] w (GivesB w x) := by
  have hW0 : Below w.heap.size w (w.alloc (.cells #[.int .i64 0, .slice none 0 0, .int .i64 0, .slice none 0 0, .int .i64 0, .slice none 0 0, .int .i64 0, .slice none 0 0] 120)) := (Below.refl _ _).alloc (Nat.le_refl _) _
  have HW := hide hW0
  have HK := hide (Blk.new w 120 #[.int .i64 0, .slice none 0 0, .int .i64 0, .slice none 0 0, .int .i64 0, .slice none 0 0, .int .i64 0, .slice none 0 0])
  go_enter Try.func115, Try.ntmps115
  go_upto_region 3 with fail
  obtain ⟨W0, hw0⟩ : ∃ W, w.alloc (.cells #[.int .i64 0, .slice none 0 0, .int .i64 0, .slice none 0 0, .int .i64 0, .slice none 0 0, .int .i64 0, .slice none 0 0] 120) = W := ⟨_, rfl⟩
  have hz0 : w.heap.size < W0.heap.size := by rw [← hw0]; simp
  rw [hw0] at HW HK ⊢
  obtain ⟨b0, hb0⟩ : ∃ b, w.heap.size = b := ⟨_, rfl⟩
  rw [hb0] at hz0 HK ⊢
  have HZ := hide hb0
  clear hw0 hb0 hW0
  go_wp2_with fail
  have hl := SL.lit W0 [1] (by decide) (cs := #[.int .i64 1]) rfl (m := 1) rfl
  have hb := (Below.refl W0.heap.size W0).alloc (Nat.le_refl _) (.cells #[.int .i64 1] 3)
  obtain ⟨V1, hV⟩ : ∃ V, W0.alloc (.cells #[.int .i64 1] 3) = V := ⟨_, rfl⟩
  rw [hV] at hl hb ⊢
  refine (bpoly_any 0 _ _ _ V1).mono ?_
  rintro e W1 ⟨rfl, hc⟩
  have hbc := hb.trans (hc.mono hb.size)
  have HS1 := hide (hl.below hc)
  replace HW := hide (HW.out.trans (hbc.mono HW.out.size))
  replace HK := hide (HK.out.below hbc (by omega))
  have hz1 : b0 < W1.heap.size := by have := hbc.size; omega
  clear hl hb hc hbc hV
  go_wp2_with fail
  have hl := SL.lit W1 [1] (by decide) (cs := #[.int .i64 1]) rfl (m := 1) rfl
  have hb := (Below.refl W1.heap.size W1).alloc (Nat.le_refl _) (.cells #[.int .i64 1] 3)
  obtain ⟨V2, hV⟩ : ∃ V, W1.alloc (.cells #[.int .i64 1] 3) = V := ⟨_, rfl⟩
  rw [hV] at hl hb ⊢
  refine (bpoly_any (-1) _ _ _ V2).mono ?_
  rintro e W2 ⟨rfl, hc⟩
  have hbc := hb.trans (hc.mono hb.size)
  have HS2 := hide (hl.below hc)
  replace HS1 := hide (HS1.out.below hbc)
  replace HW := hide (HW.out.trans (hbc.mono HW.out.size))
  replace HK := hide (HK.out.below hbc (by omega))
  have hz2 : b0 < W2.heap.size := by have := hbc.size; omega
  clear hl hb hc hbc hV
  go_wp2_with fail
  have hl := SL.lit W2 [-1, 1] (by decide) (cs := #[.int .i64 (-1), .int .i64 1]) rfl (m := 2) rfl
  have hb := (Below.refl W2.heap.size W2).alloc (Nat.le_refl _) (.cells #[.int .i64 (-1), .int .i64 1] 3)
  obtain ⟨V3, hV⟩ : ∃ V, W2.alloc (.cells #[.int .i64 (-1), .int .i64 1] 3) = V := ⟨_, rfl⟩
  rw [hV] at hl hb ⊢
  refine (bpoly_any (-1) _ _ _ V3).mono ?_
  rintro e W3 ⟨rfl, hc⟩
  have hbc := hb.trans (hc.mono hb.size)
  have HS3 := hide (hl.below hc)
  replace HS1 := hide (HS1.out.below hbc)
  replace HS2 := hide (HS2.out.below hbc)
  replace HW := hide (HW.out.trans (hbc.mono HW.out.size))
  replace HK := hide (HK.out.below hbc (by omega))
  have hz3 : b0 < W3.heap.size := by have := hbc.size; omega
  clear hl hb hc hbc hV
  have f0 := HK.out.frozen 0
  have g0 := HK.out.cell 0
  have f1 := HK.out.frozen 1
  have g1 := HK.out.cell 1
  have f2 := HK.out.frozen 2
  have g2 := HK.out.cell 2
  have f3 := HK.out.frozen 3
  have g3 := HK.out.cell 3
  have f4 := HK.out.frozen 4
  have g4 := HK.out.cell 4
  have f5 := HK.out.frozen 5
  have g5 := HK.out.cell 5
  have f6 := HK.out.frozen 6
  have g6 := HK.out.cell 6
  have f7 := HK.out.frozen 7
  have g7 := HK.out.cell 7
  simp at g0 g1 g2 g3 g4 g5 g6 g7
  go_wp2_with fail
  refine bodyPost_ret (results_sq rfl _ rfl ((((((((HK.out.set_ 0 (.int .i64 0)).set_ 1 (.slice none 0 0)).set_ 2 (.int .i64 0)).set_ 3 (.slice (some ⟨W0.heap.size, 0, none⟩) 1 1)).set_ 4 (.int .i64 (-1))).set_ 5 (.slice (some ⟨W1.heap.size, 0, none⟩) 1 1)).set_ 6 (.int .i64 (-1))).set_ 7 (.slice (some ⟨W2.heap.size, 0, none⟩) 2 2))) rfl ?_
  have n0 : ∀ {m : Nat}, 0 < m → ∀ ad, some (⟨W0.heap.size, 0, none⟩ : Addr) = some ad → ad.block ≠ b0 := fun _ ad e => by injection e with e; subst e; show W0.heap.size ≠ b0; omega
  have n1 : ∀ {m : Nat}, 0 < m → ∀ ad, some (⟨W1.heap.size, 0, none⟩ : Addr) = some ad → ad.block ≠ b0 := fun _ ad e => by injection e with e; subst e; show W1.heap.size ≠ b0; omega
  have n2 : ∀ {m : Nat}, 0 < m → ∀ ad, some (⟨W2.heap.size, 0, none⟩ : Addr) = some ad → ad.block ≠ b0 := fun _ ad e => by injection e with e; subst e; show W2.heap.size ≠ b0; omega
  have y1 := ((((((((HS1.out.setCell n0 0 (.int .i64 0)).setCell n0 1 (.slice none 0 0)).setCell n0 2 (.int .i64 0)).setCell n0 3 (.slice (some ⟨W0.heap.size, 0, none⟩) 1 1)).setCell n0 4 (.int .i64 (-1))).setCell n0 5 (.slice (some ⟨W1.heap.size, 0, none⟩) 1 1)).setCell n0 6 (.int .i64 (-1))).setCell n0 7 (.slice (some ⟨W2.heap.size, 0, none⟩) 2 2))
  have y2 := ((((((((HS2.out.setCell n1 0 (.int .i64 0)).setCell n1 1 (.slice none 0 0)).setCell n1 2 (.int .i64 0)).setCell n1 3 (.slice (some ⟨W0.heap.size, 0, none⟩) 1 1)).setCell n1 4 (.int .i64 (-1))).setCell n1 5 (.slice (some ⟨W1.heap.size, 0, none⟩) 1 1)).setCell n1 6 (.int .i64 (-1))).setCell n1 7 (.slice (some ⟨W2.heap.size, 0, none⟩) 2 2))
  have y3 := ((((((((HS3.out.setCell n2 0 (.int .i64 0)).setCell n2 1 (.slice none 0 0)).setCell n2 2 (.int .i64 0)).setCell n2 3 (.slice (some ⟨W0.heap.size, 0, none⟩) 1 1)).setCell n2 4 (.int .i64 (-1))).setCell n2 5 (.slice (some ⟨W1.heap.size, 0, none⟩) 1 1)).setCell n2 6 (.int .i64 (-1))).setCell n2 7 (.slice (some ⟨W2.heap.size, 0, none⟩) 2 2))
  have hw := ((((((((HW.out.setCell (p := ⟨b0, 0, none⟩) (Nat.le_of_eq HZ.out) (.int .i64 0)).setCell (p := ⟨b0, 1, none⟩) (Nat.le_of_eq HZ.out) (.slice none 0 0)).setCell (p := ⟨b0, 2, none⟩) (Nat.le_of_eq HZ.out) (.int .i64 0)).setCell (p := ⟨b0, 3, none⟩) (Nat.le_of_eq HZ.out) (.slice (some ⟨W0.heap.size, 0, none⟩) 1 1)).setCell (p := ⟨b0, 4, none⟩) (Nat.le_of_eq HZ.out) (.int .i64 (-1))).setCell (p := ⟨b0, 5, none⟩) (Nat.le_of_eq HZ.out) (.slice (some ⟨W1.heap.size, 0, none⟩) 1 1)).setCell (p := ⟨b0, 6, none⟩) (Nat.le_of_eq HZ.out) (.int .i64 (-1))).setCell (p := ⟨b0, 7, none⟩) (Nat.le_of_eq HZ.out) (.slice (some ⟨W2.heap.size, 0, none⟩) 2 2))
  unfold GivesB e00 e01 e10 e11
  simp only [if_neg (show ¬ 0 < x by omega), canon_one_tI, canon_tI, canon_one, canon_zero]
  exact ⟨_, _, _, _, _, _, _, _, _, _, _, _, rfl, SL.nil_ _, y1, y2, y3, fun _ ad e => by injection e with e; subst e; show w.heap.size ≤ W0.heap.size; have := HZ.out; omega, fun _ ad e => by injection e with e; subst e; show w.heap.size ≤ W2.heap.size; have := HZ.out; omega, hw⟩

theorem block_any (x : Int) (w : World) : Calls Try.prog 115 #[.int .i64 x] w (GivesB w x) := by
  by_cases h0 : 0 < x
  · exact block_pos x w h0
  · exact block_neg x w h0
end Go.Proofs.Ytndgffiihbdppaa
