/- Several texts of the walk in one. -/
import Derived.Test.YtgmjighgncpefaaPart5
import Derived.Test.YtgmjighgncpefaaPart1
import Derived.Test.YtgmjighgncpefaaBase
import Derived.Deep.DeepCutAuto
import Derived.Handy
import Derived.Laws.EntriesVeiled
/- Several slices that the call builds side by side: none of them touches what the others hold. -/
namespace Go.Proofs.Ytgmjighgncpefaa
set_option linter.unusedVariables false
set_option linter.unusedSimpArgs false
open Go.RowKit

/-- A slice that the call builds: its own row of cells, and items that are read outside it, in blocks of L. -/
structure BldO {α : Type} (L : Nat → Prop) (Q : RdI α) (e : TypeId) (sz base : Nat) (w : World) (A : Option Addr) (n c : Nat) (vs : List Value) (ys : List α) : Prop where
  own : OwnG e sz w base A n c vs
  len : ys.length = n
  row : ∀ j (hj : j < ys.length), Q (fun b => L b ∧ b < w.heap.size) w ((vs.drop (j * sz)).take sz) ys[j]
section
variable {α : Type} {L L' : Nat → Prop} {Q : RdI α} {e : TypeId} {sz base n c : Nat} {w w' : World} {A : Option Addr} {vs : List Value} {ys : List α}
theorem BldO.start (L : Nat → Prop) (Q : RdI α) (e : TypeId) (sz base : Nat) (w : World) : BldO L Q e sz base w none 0 0 [] [] := ⟨OwnG.nil_ _ _ _ _, rfl, fun j hj => by simp at hj⟩
theorem BldO.to (hQ : RdOk Q) (h : BldO L Q e sz base w A n c vs ys) (hb : Below w.heap.size w w') : BldO L Q e sz base w' A n c vs ys :=
  ⟨h.own.below hb, h.len, fun j hj => hQ.mono (fun b _ hb2 => ⟨hb2.1, Nat.lt_of_lt_of_le hb2.2 hb.size⟩) (hQ.keep ((SameK.below hb).mono fun b hb2 => hb2.2) hb.size (h.row j hj))⟩
/-- Something outside it has changed. -/
theorem BldO.same {K : Nat → Prop} (hQ : RdOk Q) (h : BldO L Q e sz base w A n c vs ys) (hk : SameK K w w') (hs : w.heap.size ≤ w'.heap.size) (hK : ∀ b, b < w.heap.size → L b → K b) (ho : ∀ k, (Value.slice A n c).ownBlock = some k → K k) : BldO L Q e sz base w' A n c vs ys :=
  ⟨h.own.keep hk ho, h.len, fun j hj => hQ.mono (fun b _ hb2 => ⟨hb2.1, Nat.lt_of_lt_of_le hb2.2 hs⟩) (hQ.keep (hk.mono fun b hb2 => hK b hb2.2 hb2.1) hs (h.row j hj))⟩
theorem BldO.relax (hQ : RdOk Q) (h : BldO L Q e sz base w A n c vs ys) (hl : ∀ b, b < w.heap.size → L b → L' b) : BldO L' Q e sz base w A n c vs ys :=
  ⟨h.own, h.len, fun j hj => hQ.mono (fun b _ hb2 => ⟨hl b hb2.2 hb2.1, hb2.2⟩) (h.row j hj)⟩
theorem BldO.add (hQ : RdOk Q) {A9 : Option Addr} {c9 : Nat} {w9 : World} {us : List Value} {y : α} (h : BldO L Q e sz base w A n c vs ys) (hl : us.length = sz)
    (hL : ∀ b, L b → (Value.slice A n c).ownBlock ≠ some b) (hy : Q (fun b => L b ∧ b < w.heap.size) w us y) (happ : AppG e sz w base A (n + 1) c (vs ++ us) A9 c9 w9) :
    BldO L Q e sz base w9 A9 (n + 1) c9 (vs ++ us) (ys ++ [y]) := by
  have hown : (Value.slice A (n + 1) c).ownBlock = (Value.slice A n c).ownBlock := ownBlock_len A (n + 1) n c c
  have hsame : SameK (fun b => L b ∧ b < w.heap.size) w w9 := by
    have := SameK.grown happ.grown
    rw [hown] at this
    exact this.mono fun b hb => ⟨hb.2, hL b hb.1⟩
  have hup : ∀ b, b < w9.heap.size → (L b ∧ b < w.heap.size) → L b ∧ b < w9.heap.size := fun b hb h2 => ⟨h2.1, hb⟩
  have hvl := h.own.len
  refine ⟨happ.own, by simp [h.len], fun j hj => ?_⟩
  have hj2 : j < n + 1 := by simp [h.len] at hj; exact hj
  by_cases hjn : j < n
  · have hj3 : j < ys.length := by rw [h.len]; exact hjn
    have hm : (j + 1) * sz ≤ n * sz := Nat.mul_le_mul_right _ hjn
    rw [Nat.add_mul, Nat.one_mul] at hm
    have e1 : ((vs ++ us).drop (j * sz)).take sz = (vs.drop (j * sz)).take sz := by
      rw [List.drop_append_of_le_length (by omega), List.take_append_of_le_length (by rw [List.length_drop]; omega)]
    have e2 : (ys ++ [y])[j] = ys[j] := List.getElem_append_left hj3
    rw [e1, e2]
    exact hQ.mono hup (hQ.keep hsame happ.grown.size (h.row j hj3))
  · have hjn2 : j = n := by omega
    subst hjn2
    have e1 : ((vs ++ us).drop (j * sz)).take sz = us := by
      rw [List.drop_append, show vs.drop (j * sz) = [] from List.drop_eq_nil_of_le (by omega), hvl, Nat.sub_self, List.drop_zero, List.nil_append, List.take_of_length_le (by omega)]
    have e2 : (ys ++ [y])[j] = y := by rw [List.getElem_append_right (by rw [h.len]; exact Nat.le_refl _)]; simp
    rw [e1, e2]
    exact hQ.mono hup (hQ.keep hsame happ.grown.size hy)
theorem BldO.rdK (hQ : RdOk Q) (hs0 : 0 < sz) {K : Nat → Prop} (hK : ∀ b, b < w.heap.size → L b → K b) (hO : ∀ k, (Value.slice A n c).ownBlock = some k → K k) (h : BldO L Q e sz base w A n c vs ys) : RdS Q sz K w A n c ys := by
  have hvl := h.own.len
  refine ⟨h.len, by have := h.own.small; omega, h.own.nilcap.1, h.own.nilcap.2, fun hn => ?_⟩
  obtain ⟨g, rfl, hgb, hl⟩ := h.own.form hn
  refine ⟨_, rfl, hl, hO g rfl, fun j hj => ⟨(vs.drop (j * sz)).take sz, ?_, ?_, ?_, hQ.mono (fun b hb h2 => hK b hb h2.1) (h.row j hj)⟩⟩
  · have hj2 := h.len
    have hm : (j + 1) * sz ≤ n * sz := Nat.mul_le_mul_right _ (by omega)
    rw [Nat.add_mul, Nat.one_mul] at hm
    rw [List.length_take, List.length_drop]; omega
  · have hj2 := h.len
    have hm : (j + 1) * sz ≤ n * sz := Nat.mul_le_mul_right _ (by omega)
    rw [Nat.add_mul, Nat.one_mul] at hm
    rw [show (⟨g, 0, none⟩ : Addr).add (j * sz) = ⟨g, j * sz, none⟩ by unfold Addr.add; split <;> simp_all, h.own.cellAt (by omega)]
    rw [List.getElem?_take, if_pos hs0, List.getElem?_drop, Nat.add_zero]
  · intro i hi
    have hj2 := h.len
    have hm : (j + 1) * sz ≤ n * sz := Nat.mul_le_mul_right _ (by omega)
    rw [Nat.add_mul, Nat.one_mul] at hm
    rw [show (⟨g, 0, none⟩ : Addr).add (j * sz) = ⟨g, j * sz, none⟩ by unfold Addr.add; split <;> simp_all]
    show w.cell? ⟨g, j * sz + i, none⟩ = _
    rw [h.own.cellAt (by omega), List.getElem?_take, if_pos hi, List.getElem?_drop]
theorem BldO.rd (hQ : RdOk Q) (hs0 : 0 < sz) (h : BldO L Q e sz base w A n c vs ys) : Rd Q sz w A n c ys := h.rdK hQ hs0 (fun b hb _ => hb) (fun k hk => (h.own.lt k hk).2)
end

/-- Block b is none of the blocks O. -/
def Fr (O : List (Option Nat)) (b : Nat) : Prop := ∀ o ∈ O, o ≠ some b
/-- The blocks of O are there, and are different. -/
structure Dis (s : Nat) (O : List (Option Nat)) : Prop where
  lt : ∀ o ∈ O, ∀ k, o = some k → k < s
  pw : O.Pairwise fun a b => ∀ k, a = some k → b ≠ some k
theorem Dis.up {s s' : Nat} {O : List (Option Nat)} (h : Dis s O) (hs : s ≤ s') : Dis s' O := ⟨fun o ho k e => Nat.lt_of_lt_of_le (h.lt o ho k e) hs, h.pw⟩
theorem Fr.mv {s : Nat} {O : List (Option Nat)} {i : Nat} {o o' : Option Nat} {b : Nat} (hn : o' = o ∨ o' = some s) (hi : O[i]? = some o) (hb : b < s) (h : Fr O b) : Fr (O.set i o') b := fun x hx => by
  rcases List.mem_or_eq_of_mem_set hx with h1 | h1
  · exact h x h1
  · subst h1
    rcases hn with h2 | h2
    · subst h2; exact h x (List.mem_of_getElem? hi)
    · subst h2; intro e; injection e with e; omega
theorem Dis.mv {s s' : Nat} {O : List (Option Nat)} {i : Nat} {o o' : Option Nat} (hn : o' = o ∨ o' = some s) (hi : O[i]? = some o) (hs : s ≤ s') (h9 : ∀ k, o' = some k → k < s') (h : Dis s O) : Dis s' (O.set i o') := by
  refine ⟨fun x hx k e => ?_, ?_⟩
  · rcases List.mem_or_eq_of_mem_set hx with h1 | h1
    · exact Nat.lt_of_lt_of_le (h.lt x h1 k e) hs
    · subst h1
      exact h9 k e
  · rcases hn with h2 | h2
    · subst h2
      obtain ⟨hlt, he⟩ := List.getElem?_eq_some_iff.1 hi
      rw [← he, List.set_getElem_self]
      exact h.pw
    · subst h2
      rw [List.pairwise_iff_getElem]
      intro a b ha hb hab k hk
      simp only [List.length_set] at ha hb
      have hp := List.pairwise_iff_getElem.1 h.pw a b ha hb hab k
      rw [List.getElem_set] at hk ⊢
      by_cases e1 : i = a
      · rw [if_pos e1] at hk
        injection hk with hk
        subst hk
        by_cases e2 : i = b
        · omega
        · rw [if_neg e2]
          intro e
          exact absurd (h.lt _ (List.getElem_mem hb) _ e) (Nat.lt_irrefl _)
      · rw [if_neg e1] at hk
        by_cases e2 : i = b
        · rw [if_pos e2]
          intro e; injection e with e
          have := h.lt _ (List.getElem_mem ha) _ hk
          omega
        · rw [if_neg e2]
          exact hp hk
/-- The block of a slice's head. -/
def ob (A : Option Addr) : Option Nat := A.map (·.block)
theorem ob_own (A : Option Addr) (n c : Nat) : (Value.slice A n c).ownBlock = ob A := by cases A <;> rfl
/-- A change of the block o, one of O; what was free of O is free of O'. -/
structure Step (O O' : List (Option Nat)) (w w' : World) (o : Option Nat) : Prop where
  grown : w.grownBy w' o
  mem : o ∈ O
  fr : ∀ b, b < w.heap.size → Fr O b → Fr O' b
  dis : Dis w'.heap.size O'
section
variable {O O' : List (Option Nat)} {w w' : World} {o : Option Nat}
theorem Step.same (h : Step O O' w w' o) : SameK (fun b => Fr O b ∧ b < w.heap.size) w w' := (SameK.grown h.grown).mono fun b hb => ⟨hb.2, hb.1 o h.mem⟩
theorem BldO.step {α : Type} {Q : RdI α} {e : TypeId} {sz base n c : Nat} {A : Option Addr} {vs : List Value} {ys : List α} (hQ : RdOk Q) (h : BldO (Fr O) Q e sz base w A n c vs ys) (hs : Step O O' w w' o) (hne : ∀ k, ob A = some k → o ≠ some k) : BldO (Fr O') Q e sz base w' A n c vs ys := by
  refine BldO.relax (L := fun b => Fr O b ∧ b < w.heap.size) hQ ?_ (fun b _ hb => hs.fr b hb.2 hb.1)
  refine BldO.same (K := fun b => b < w.heap.size ∧ o ≠ some b) hQ (h.relax hQ fun b hl hb => ⟨hb, hl⟩) (SameK.grown hs.grown) hs.grown.size (fun b _ hb => ⟨hb.2, hb.1 o hs.mem⟩) fun k hk => ⟨(h.own.lt k hk).2, hne k (by rw [← ob_own A n c]; exact hk)⟩
theorem BldO.addS {α : Type} {Q : RdI α} {e : TypeId} {sz base n c : Nat} {A A9 : Option Addr} {c9 : Nat} {vs us : List Value} {ys : List α} {y : α} (hQ : RdOk Q) (h : BldO (Fr O) Q e sz base w A n c vs ys) (hs : Step O O' w w' o) (ho : o = ob A) (hl : us.length = sz)
    (hy : Q (fun b => Fr O b ∧ b < w.heap.size) w us y) (happ : AppG e sz w base A (n + 1) c (vs ++ us) A9 c9 w') : BldO (Fr O') Q e sz base w' A9 (n + 1) c9 (vs ++ us) (ys ++ [y]) :=
  ((h.relax (L' := fun b => Fr O b ∧ b < w.heap.size) hQ fun b hl hb => ⟨hb, hl⟩).add hQ hl (fun b hb => by rw [ob_own, ← ho]; exact hb.1 o hs.mem) (hQ.mono (fun b hl hb => ⟨hb, hl⟩) hy) happ).relax hQ fun b _ hb => hs.fr b hb.2 hb.1
theorem RdS.step {α : Type} {Q : RdI α} {sz n c : Nat} {A : Option Addr} {ys : List α} (hQ : RdOk Q) (h : RdS Q sz (fun b => Fr O b ∧ b < w.heap.size) w A n c ys) (hs : Step O O' w w' o) : RdS Q sz (fun b => Fr O' b ∧ b < w'.heap.size) w' A n c ys :=
  (h.keep hQ hs.same hs.grown.size).mono hQ fun b hb h2 => ⟨hs.fr b h2.2 h2.1, hb⟩
theorem SLK.step {n c : Nat} {A : Option Addr} {xs : List Int} (h : SLK (fun b => Fr O b ∧ b < w.heap.size) w A n c xs) (hs : Step O O' w w' o) : SLK (fun b => Fr O' b ∧ b < w'.heap.size) w' A n c xs :=
  (h.keep hs.same hs.grown.size).mono fun b hb h2 => ⟨hs.fr b h2.2 h2.1, hb⟩
theorem Step.blk {g : Nat} {t : TypeId} {cs : Array Value} (hs : Step O O' w w' o) (h : Blk w g t cs) (hg : o ≠ some g) : Blk w' g t cs := (hs.grown.block g h.lt (fun e => hg e.symm)).trans h
/-- append. -/
theorem Step.app {e : TypeId} {sz base i n c : Nat} {A A' : Option Addr} {c' : Nat} {vs : List Value} (hd : Dis w.heap.size O) (hi : O[i]? = some (ob A)) (happ : AppG e sz w base A n c vs A' c' w') : Step O (O.set i (ob A')) w w' (ob A) := by
  have hg := happ.grown
  have hl := happ.lies
  rw [ob_own] at hg hl
  rw [ob_own] at hl
  refine ⟨hg, List.mem_of_getElem? hi, fun b hb h => h.mv hl hi hb, hd.mv hl hi hg.size fun k hk => (happ.own.lt k (by rw [ob_own]; exact hk)).2⟩
theorem Dis.ne {s i j : Nat} {a b : Option Nat} (h : Dis s O) (hi : O[i]? = some a) (hj : O[j]? = some b) (hij : i ≠ j) : ∀ k, b = some k → a ≠ some k := fun k hk => by
  obtain ⟨h1, rfl⟩ := List.getElem?_eq_some_iff.1 hi
  obtain ⟨h2, rfl⟩ := List.getElem?_eq_some_iff.1 hj
  have hp := List.pairwise_iff_getElem.1 h.pw
  rcases Nat.lt_or_gt_of_ne hij with h3 | h3
  · exact fun e => hp i j h1 h2 h3 k e hk
  · exact hp j i h2 h1 h3 k hk
/-- One of the slices is let go: nothing is built in it any more. -/
theorem Fr.drop {i : Nat} {b : Nat} (h : Fr O b) : Fr (O.set i none) b := fun x hx => by
  rcases List.mem_or_eq_of_mem_set hx with h1 | h1
  · exact h x h1
  · subst h1; simp
theorem Dis.drop {s i : Nat} (h : Dis s O) : Dis s (O.set i none) := by
  refine ⟨fun x hx k e => ?_, ?_⟩
  · rcases List.mem_or_eq_of_mem_set hx with h1 | h1
    · exact h.lt x h1 k e
    · subst h1; cases e
  · rw [List.pairwise_iff_getElem]
    intro a b ha hb hab k hk
    simp only [List.length_set] at ha hb
    have hp := List.pairwise_iff_getElem.1 h.pw a b ha hb hab k
    rw [List.getElem_set] at hk ⊢
    by_cases e1 : i = a
    · rw [if_pos e1] at hk; cases hk
    · rw [if_neg e1] at hk
      split
      · simp
      · exact hp hk
theorem Fr.dropped {i : Nat} {s b : Nat} {o : Option Nat} (hd : Dis s O) (hi : O[i]? = some o) (hb : o = some b) : Fr (O.set i none) b := fun x hx => by
  obtain ⟨j, hj, rfl⟩ := List.getElem_of_mem hx
  simp only [List.length_set] at hj
  rw [List.getElem_set]
  split
  · simp
  · next h => exact hd.ne (i := j) (j := i) (by rw [List.getElem?_eq_getElem hj]) hi (fun e => h e.symm) b hb
/-- A new block is taken into O. -/
theorem Fr.fresh {i s b : Nat} (h : Fr O b) (hb : b < s) : Fr (O.set i (some s)) b := fun x hx => by
  rcases List.mem_or_eq_of_mem_set hx with h1 | h1
  · exact h x h1
  · subst h1; intro e; injection e with e; omega
theorem Dis.fresh {i s : Nat} (h : Dis s O) : Dis (s + 1) (O.set i (some s)) := by
  refine ⟨fun x hx k e => ?_, ?_⟩
  · rcases List.mem_or_eq_of_mem_set hx with h1 | h1
    · have := h.lt x h1 k e; omega
    · subst h1; injection e with e; omega
  · rw [List.pairwise_iff_getElem]
    intro a b ha hb hab k hk
    simp only [List.length_set] at ha hb
    have hp := List.pairwise_iff_getElem.1 h.pw a b ha hb hab k
    rw [List.getElem_set] at hk ⊢
    by_cases e1 : i = a
    · rw [if_pos e1] at hk
      injection hk with hk
      subst hk
      by_cases e2 : i = b
      · omega
      · rw [if_neg e2]
        intro e
        exact absurd (h.lt _ (List.getElem_mem hb) _ e) (Nat.lt_irrefl _)
    · rw [if_neg e1] at hk
      split
      · intro e; injection e with e
        have := h.lt _ (List.getElem_mem ha) _ hk
        omega
      · exact hp hk
theorem Fr.above {s b : Nat} (h : Dis s O) (hb : s ≤ b) : Fr O b := fun x hx e => by have := h.lt x hx b e; omega
/-- A store into a block of O. -/
theorem Step.put {g : Nat} (hd : Dis w.heap.size O) (hg : some g ∈ O) (hgr : w.grownBy w' (some g)) : Step O O w w' (some g) := ⟨hgr, hg, fun _ _ h => h, hd.up hgr.size⟩
end
end Go.Proofs.Ytgmjighgncpefaa
/- slices.Index where there is none, slices.Contains. -/
namespace Go.Proofs.Ytgmjighgncpefaa
set_option linter.unusedVariables false
set_option linter.unusedSimpArgs false
open Go.RowKit

theorem index_not (A : Option Addr) (n c : Nat) (us : List Nat) (x : Nat) (w : World) (ha : IL w A n (zs us)) (hx : x ∉ us) :
    Calls Try.prog 51 #[.slice A n c, .int .i64 x] w fun e w' => e = .returned (.int .i64 (-1)) ∧ w = w' := by
  have hna := ha.small
  have HL : Hid (us.length = n) := by have := ha.len; rwa [zs_length] at this
  have HX := hide hx
  clear hx
  go_enter Try.func51, Try.ntmps51
  go_wp2
  go_loop [8] (fun i => ∃ k : Nat, k ≤ n ∧ i = .int .i64 k) (fun i => n - (intOf i).toNat)
  case atStart => exact ⟨0, Nat.zero_le _, rfl⟩
  case round =>
    obtain ⟨k, hk, rfl⟩ := hrel
    by_cases hlt : k < n
    · obtain ⟨ad, rfl, hca⟩ := ha.at_ hlt
      rw [zs_getD] at hca
      have he : us.getD k 0 ≠ x := fun e => HX.out (by rw [← e]; exact getD_mem (by rw [HL.out]; exact hlt))
      have hb : ((x : Int) == ((us.getD k 0 : Nat) : Int)) = false := by
        have : ¬ (x : Int) = ((us.getD k 0 : Nat) : Int) := fun e => he (by omega)
        simpa using this
      clear he
      generalize us.getD k 0 = y at *
      go_wp2
      go_round
      case rel => exact ⟨k + 1, by omega, by go_num⟩
      case measure => simp [intOf]; omega
    · go_wp2
      go_ret
      exact ⟨rfl, rfl⟩
theorem contains_any (A : Option Addr) (n c : Nat) (us : List Nat) (x : Nat) (w : World) (ha : IL w A n (zs us)) :
    Calls Try.prog 42 #[.slice A n c, .int .i64 x] w fun e w' => e = .returned (.bool (us.contains x)) ∧ w = w' := by
  by_cases hx : x ∈ us
  · have HX : Hid (us.contains x = true) := hide (by simpa using hx)
    have HI := hide (index_mem A n c us x w ha hx)
    have hlt := idxOf_lt hx
    clear ha hx
    go_enter Try.func42, Try.ntmps42
    go_wp2_with fail
    refine HI.out.mono ?_
    rintro e w1 ⟨rfl, rfl⟩
    have hg : decide ((0 : Int) ≤ ((us.idxOf x : Nat) : Int)) = true := decide_eq_true (by omega)
    generalize us.idxOf x = q at *
    clear HI
    go_wp2_with fail
    go_ret
    rw [HX.out]
    exact ⟨by simp, rfl⟩
  · have HX : Hid (us.contains x = false) := hide (by simpa using hx)
    have HI := hide (index_not A n c us x w ha hx)
    clear ha hx
    go_enter Try.func42, Try.ntmps42
    go_wp2_with fail
    refine HI.out.mono ?_
    rintro e w1 ⟨rfl, rfl⟩
    clear HI
    go_wp2_with fail
    go_ret
    rw [HX.out]
    exact ⟨by simp, rfl⟩
end Go.Proofs.Ytgmjighgncpefaa
/- Closures that visit lists of numbers; timbref1.Permutations. -/
namespace Go.Proofs.Ytgmjighgncpefaa
set_option linter.unusedVariables false
set_option linter.unusedSimpArgs false
open Go.RowKit

theorem IL.kept {w w' : World} {A : Option Addr} {n : Nat} {xs : List Int} (h : IL w A n xs) {g : Nat} (hg : w.grownBy w' (some g)) (hne : ∀ ad, A = some ad → ad.block ≠ g) : IL w' A n xs :=
  ⟨h.len, h.small, fun hn => by
    obtain ⟨ad, e, hl, hc⟩ := h.mem hn
    refine ⟨ad, e, Nat.lt_of_lt_of_le hl hg.size, fun j hj => ?_⟩
    rw [hg.cell_far (ad.add j) (by rw [block_of_add]; exact hl) (by rw [block_of_add]; exact fun e' => hne ad e (by injection e'))]
    exact hc j hj⟩
theorem Blk.kept {w w' : World} {g k : Nat} {t : TypeId} {cs : Array Value} (h : Blk w k t cs) (hg : w.grownBy w' (some g)) (hne : k ≠ g) : Blk w' k t cs := h.grown hg (fun e => hne (by injection e))
theorem grownBy_of_below {w w' : World} (h : Below w.heap.size w w') (g : Option Nat) : w.grownBy w' g := ⟨h.os, h.tape, h.output, h.size, fun k hk _ => h.block k hk⟩

/-- The word for what is handed to a visiting closure: called with a list, it takes the state s to step s p. It changes block g alone. -/
structure Visit (P : Program) (fid : FuncId) (caps : List Value) (g : Nat) (σ : Type) (J : σ → World → Prop) (good : List Nat → Prop) (step : σ → List Nat → σ) : Prop where
  keep : ∀ s w w', J s w → Below w.heap.size w w' → J s w'
  lt : ∀ s w, J s w → g < w.heap.size
  call : ∀ (p : List Nat) (A : Option Addr) (n c : Nat) (s : σ) (w : World), SL w A n c (zs p) → (∀ ad, A = some ad → ad.block ≠ g) → good p → J s w →
    Calls P fid (.slice A n c :: caps).toArray w fun e w' => e = .returned (.tuple #[]) ∧ J (step s p) w' ∧ w.grownBy w' (some g)

/-- The lists that go on from p, k elements longer, of numbers below n that are not yet there. -/
def compl (n : Nat) : Nat → List Nat → List (List Nat)
  | 0, p => [p]
  | k + 1, p => ((List.range n).filter fun i => !p.contains i).flatMap fun i => compl n k (p ++ [i])

/-- One operation that calls a function value, in a straight region. -/
theorem wpList_callV {P : Program} {ops : Array Oper} {rest : List Oper} {o : Oper} {a : Act} {w : World} {Q : Exit → Act → World → Prop} (hg : o.guard = none) {x : Operand} {f : FuncId} {l : List Operand} {ts : Array TypeId} {cap : List Value} (al : List Value)
    (ho : o.op = .call { callee := .value x, args := l.toArray, argTypes := ts }) (hx : l.map a.eval = al) (hcall : ∀ args w, (callFunc f args).run P w = .ok (.enter f args) w) (hev : a.eval x = .func (.func f) #[] cap.toArray)
    (h : Calls P f (al ++ cap).toArray w fun e w' => ∃ v, e = .returned v ∧ wpList P ops Q rest (a.put o.dst v) w') : wpList P ops Q (o :: rest) a w :=
  wpList_plain hg fun K hK => wp_callV al ho hx hcall hev (h.mono fun e w' ⟨v, he, hw⟩ => ⟨v, he, hK _ _ hw⟩)

theorem compl_succ (n k : Nat) (p : List Nat) : compl n (k + 1) p = ((List.range n).filter fun i => !p.contains i).flatMap fun i => compl n k (p ++ [i]) := rfl
/-- What is visited by the first i rounds. -/
def complTo (n k : Nat) (p : List Nat) (i : Nat) : List (List Nat) := ((List.range i).filter fun i => !p.contains i).flatMap fun i => compl n k (p ++ [i])
theorem complTo_zero (n k : Nat) (p : List Nat) : complTo n k p 0 = [] := rfl
theorem complTo_old {n k : Nat} {p : List Nat} {i : Nat} (h : p.contains i = true) : complTo n k p (i + 1) = complTo n k p i := by
  unfold complTo
  rw [List.range_succ, List.filter_append]
  have h2 : [i].filter (fun i => !p.contains i) = [] := by simp only [List.filter_cons, h]; rfl
  rw [h2, List.append_nil]
theorem complTo_new {n k : Nat} {p : List Nat} {i : Nat} (h : p.contains i = false) : complTo n k p (i + 1) = complTo n k p i ++ compl n k (p ++ [i]) := by
  unfold complTo
  rw [List.range_succ, List.filter_append]
  have h2 : [i].filter (fun i => !p.contains i) = [i] := by simp only [List.filter_cons, h]; rfl
  rw [h2, List.flatMap_append]
  simp

theorem ePermClone : ∀ args w, (callFunc 34 args).run Try.prog w = .ok (.enter 34 args) w := enters (fn := Try.f34) (by kernel_rfl) (by kernel_rfl) (by kernel_rfl)
theorem ePermX : ∀ args w, (callFunc 41 args).run Try.prog w = .ok (.enter 41 args) w := enters (fn := Try.f41) (by kernel_rfl) (by kernel_rfl) (by kernel_rfl)

section
variable {fid : FuncId} {caps : List Value} {g : Nat} {σ : Type} {J : σ → World → Prop} {step : σ → List Nat → σ} {n : Nat}
set_option maxRecDepth 100000 in
set_option maxHeartbeats 2000000 in
theorem extend_any (V : Visit Try.prog fid caps g σ J (fun p => p.Perm (List.range n)) step) (hfid : ∀ args w, (callFunc fid args).run Try.prog w = .ok (.enter fid args) w) (hn : n ≤ 1000) (bn bf be : Nat) (h1 : bn ≠ g) (h2 : bf ≠ g) (h3 : be ≠ g) :
    ∀ (k : Nat) (p : List Nat) (A : Option Addr) (m c : Nat) (s : σ) (w : World), p.length + k = n → p.Nodup → (∀ x ∈ p, x < n) → SL w A m c (zs p) → (∀ ad, A = some ad → ad.block ≠ g) →
      Blk w bn 3 #[.int .i64 n] → Blk w bf 56 #[.func (.func fid) #[] caps.toArray] → Blk w be 56 #[.func (.func 41) #[] #[.pointer (some ⟨bn, 0, none⟩), .pointer (some ⟨bf, 0, none⟩), .pointer (some ⟨be, 0, none⟩)]] → J s w →
      Calls Try.prog 41 #[.slice A m c, .pointer (some ⟨bn, 0, none⟩), .pointer (some ⟨bf, 0, none⟩), .pointer (some ⟨be, 0, none⟩)] w fun e w' => e = .returned (.tuple #[]) ∧ J ((compl n k p).foldl step s) w' ∧ w.grownBy w' (some g) := by
  intro k
  induction k with
  | zero =>
    intro p A m c s w hpl hpn hpx ha hA hbn hbf hbe hJ
    have hlen := ha.il.len
    rw [zs_length] at hlen
    obtain rfl : m = n := by omega
    have hperm : p.Perm (List.range m) := (List.perm_ext_iff_of_nodup hpn List.nodup_range).2 fun x => by
      have hP : isP p := ⟨fun x hx => by rw [hlen]; exact hpx x hx, hpn⟩
      constructor
      · intro hx; exact List.mem_range.2 (hpx x hx)
      · intro hx; exact hP.mem (by rw [hlen]; exact List.mem_range.1 hx)
    have HC := hide (V.call p A m c s w ha hA hperm hJ)
    have hcn := hbn.cell 0
    have hcf := hbf.cell 0
    simp at hcn hcf
    clear V ha hA hbn hbf hbe hJ hperm hpn hpx hpl hlen
    go_enter Try.func41, Try.ntmps41
    go_wp2_with fail
    refine HC.out.mono ?_
    rintro e w1 ⟨rfl, hJ1, hg1⟩
    go_wp2_with fail
    go_returns
    exact ⟨rfl, hJ1, hg1⟩
  | succ k ih =>
    intro p A m c s w hpl hpn hpx ha hA hbn hbf hbe hJ
    have hlen := ha.il.len
    rw [zs_length] at hlen
    obtain ⟨i0, hi0, hz0, hz1, hz2⟩ := info_parts int_info
    have HI0 := hide hi0
    have HZ0 := hide hz0
    have HZ1 := hide hz1
    have HZ2 := hide hz2
    have hms := ha.il.small
    have hcn := hbn.cell 0
    simp at hcn
    have hmn : ((m : Int) == (n : Int)) = false := by simp; omega
    have HIH := hide ih
    have HA := hide ha
    have HAA := hide hA
    have HBN := hide hbn
    have HBF := hide hbf
    have HBE := hide hbe
    have HPN := hide hpn
    have HPX := hide hpx
    have HPL := hide hpl
    have HLEN := hide hlen
    have HJ := hide hJ
    have HV := hide V
    have hmm : m ≤ n := by omega
    have HPL2 : Hid (∀ i : Nat, (p ++ [i]).length + k = n) := hide (fun i => by rw [List.length_append]; simp; omega)
    clear ih V ha hA hbn hbf hbe hJ hpn hpx hpl hlen hi0 hz0 hz1 hz2
    go_enter Try.func41, Try.ntmps41
    go_wp2_with fail
    go_loopw [14] (fun iv wr => ∃ i : Nat, iv = .int .i64 i ∧ i ≤ n ∧ J ((complTo n k p i).foldl step s) wr ∧ w.grownBy wr (some g)) (fun iv _ => n - (intOf iv).toNat)
    case atStart => exact ⟨0, rfl, Nat.zero_le _, HJ.out, World.grownBy.refl _ _⟩
    case round =>
      obtain ⟨i, rfl, hi, hJ, hg⟩ := hrel
      have HJr := hide hJ
      have HG := hide hg
      clear hJ hg
      by_cases hlt : i < n
      · have HAr : Hid (SL wr A m c (zs p)) := hide ⟨HA.out.il.kept HG.out HAA.out, HA.out.nil, HA.out.cap⟩
        have HBNr := hide (HBN.out.kept HG.out h1)
        have HBFr := hide (HBF.out.kept HG.out h2)
        have HBEr := hide (HBE.out.kept HG.out h3)
        have HCON := hide (contains_any A m c p i wr HAr.out.il)
        by_cases hip : p.contains i = true
        · have HO := hide (complTo_old (n := n) (k := k) hip)
          have HIP := hide hip
          clear hip
          go_wp2_with fail
          refine HCON.out.mono ?_
          rintro e w1 ⟨rfl, rfl⟩
          rw [HIP.out]
          clear HCON
          go_wp2_with fail
          refine ⟨⟨i + 1, by go_num, by omega, by rw [HO.out]; exact HJr.out, HG.out⟩, ?_⟩
          simp [intOf]
          omega
        · have hip' : p.contains i = false := by simpa using hip
          have HO := hide (complTo_new (n := n) (k := k) hip')
          have HIP := hide hip'
          have HNI : Hid (i ∉ p) := hide (by simpa using hip')
          have HPN2 : Hid ((p ++ [i]).Nodup) := hide (by
            rw [List.nodup_append]
            exact ⟨HPN.out, by simp, fun a ha b hb e => HNI.out (by rw [List.mem_singleton.1 hb] at e; rw [← e]; exact ha)⟩)
          have HPX2 : Hid (∀ x ∈ p ++ [i], x < n) := hide (fun x hx => by
            rcases List.mem_append.1 hx with h | h
            · exact HPX.out x h
            · rw [List.mem_singleton.1 h]; exact hlt)
          clear hip hip'
          go_wp2_with fail
          refine HCON.out.mono ?_
          rintro e w1 ⟨rfl, rfl⟩
          rw [HIP.out]
          clear HCON
          go_upto_region 6 with fail
          refine wp_region_noPanic ?_
          refine wp_region_held_drew (S := fun w' => wr.grownBy w' (some g)) (by kernel_rfl) ((World.grownBy.refl _ _).trans (grownBy_of_below (Below.refl _ _).drew _)) (fun hS => ?_)
          refine wpAnyH_tk 0 (v := .func (.func 41) #[] #[.pointer (some ⟨bn, 0, none⟩), .pointer (some ⟨bf, 0, none⟩), .pointer (some ⟨be, 0, none⟩)]) rfl (by kernel_rfl) (by kernel_rfl) (by kernel_rfl) (yi rfl fun w' hw' => gives_load1 rfl (by kernel_rfl) rfl (by have h := (HBEr.out.kept hw' h3).cell 0; simpa using h)) hS ?_
          go_frame
          refine wpAnyH_tk 1 (v := .slice A m c) rfl (by kernel_rfl) (by kernel_rfl) (by kernel_rfl) (yi rfl fun w' hw' => gives_move (.inl rfl) rfl) hS ?_
          go_frame
          refine wpAnyH_tk 3 (v := .int .i64 i) rfl (by kernel_rfl) (by kernel_rfl) (by kernel_rfl) (yi rfl fun w' hw' => gives_move (.inl rfl) rfl) hS ?_
          go_frame
          have hbd : Below wr.heap.size wr wr.drew := (Below.refl _ _).drew
          refine wpAnyH_2 2 4 rfl rfl (by kernel_rfl) ?_ ?_
          · refine wp_call [.slice A m c] rfl rfl ePermClone rfl ((clone_any A m c _ _ (HAr.out.il.below hbd) HAr.out.nil).mono ?_)
            rintro e w6 ⟨A6, n6, c6, rfl, ho6, hb6⟩
            have hn6 : n6 = m := by rw [← ho6.len]; exact HAr.out.il.len
            subst hn6
            have hb6' : Below wr.heap.size wr w6 := hbd.trans (hb6.mono hbd.size)
            have ho6' := ho6.mono hbd.size
            refine ⟨_, rfl, grownBy_of_below hb6' _, ?_⟩
            go_frame
            refine wpAnyH_1 4 rfl (by kernel_rfl) ?_
            refine wp_lit_int rfl Try.underlying23 i0 HI0.out HZ0.out HZ1.out (v := (i : Int)) rfl ?_
            have hb7 := hb6'.alloc hb6'.size (.cells #[.int .i64 (i : Int)] 3)
            refine ⟨grownBy_of_below hb7 _, ?_⟩
            go_frame
            refine wpAnyH_1 5 rfl (by kernel_rfl) ?_
            refine wp_append_int _ (.tmp 23) (.tmp 25) 23 rfl wr.heap.size i0 Try.underlying23 HI0.out HZ0.out HZ1.out HZ2.out A6 n6 c6 _ rfl (ho6'.alloc _) (some ⟨w6.heap.size, 0, none⟩) 1 1 [(i : Int)] rfl (IL.lit w6 [(i : Int)] (by simp) rfl rfl) (by omega) hb7.size ?_
            intro A8 c8 w8 hap
            have hb8 : Below wr.heap.size wr w8 := hb7.grown hap.grown hb7.size (fun j hj => (ho6'.lt j (by rw [ownBlock_len A6 n6 (n6 + 1) c6 c6]; exact hj)).1)
            have hown : OwnI w8 wr.heap.size A8 (n6 + 1) c8 (zs (p ++ [i])) := by
              have h := hap.own
              rw [show zs (p ++ [i]) = zs p ++ [(i : Int)] by simp [zs]]
              exact h
            have hA8 : ∀ ad, A8 = some ad → ad.block ≠ g := fun ad he e => by
              have h1 := (hown.lt ad.block (by rw [he]; exact rfl)).1
              have h2 := HV.out.lt _ _ HJr.out
              omega
            have hg8 : wr.grownBy w8 (some g) := grownBy_of_below hb8 _
            refine ⟨hg8, ?_⟩
            go_frame
            refine wpAnyH_1 6 rfl (by kernel_rfl) ?_
            refine wp_callV (cap := [.pointer (some ⟨bn, 0, none⟩), .pointer (some ⟨bf, 0, none⟩), .pointer (some ⟨be, 0, none⟩)]) [.slice A8 (n6 + 1) c8] rfl rfl ePermX rfl ((HIH.out (p ++ [i]) A8 (n6 + 1) c8 _ w8 (HPL2.out i) HPN2.out HPX2.out hown.sl hA8 (HBNr.out.kept hg8 h1) (HBFr.out.kept hg8 h2) (HBEr.out.kept hg8 h3) (HV.out.keep _ _ _ HJr.out hb8)).mono ?_)
            rintro e w9 ⟨rfl, hJ9, hg9⟩
            have hg09 := hg8.trans hg9
            refine ⟨_, rfl, hg09, ?_⟩
            go_frame
            refine wpAnyH_done (by kernel_rfl) (noPanic_mk ?_) _
            have HG9 := hide (HG.out.trans hg09)
            have HJ9 : Hid (J ((complTo n k p (i + 1)).foldl step s) w9) := hide (by rw [HO.out, List.foldl_append]; exact hJ9)
            clear hg09 hg9 hJ9 hg8 hb8 hap hown hA8
            go_wp2_with fail
            refine ⟨⟨i + 1, by go_num, by omega, HJ9.out, HG9.out⟩, ?_⟩
            simp [intOf]
            omega
          · refine wp_lit_int rfl Try.underlying23 i0 HI0.out HZ0.out HZ1.out (v := (i : Int)) rfl ?_
            have hb6 : Below wr.heap.size wr (wr.drew.alloc (.cells #[.int .i64 (i : Int)] 3)) := hbd.alloc hbd.size _
            have hlit : IL (wr.drew.alloc (.cells #[.int .i64 (i : Int)] 3)) (some ⟨wr.drew.heap.size, 0, none⟩) 1 [(i : Int)] := IL.lit wr.drew [(i : Int)] (by simp) rfl rfl
            refine ⟨grownBy_of_below hb6 _, ?_⟩
            go_frame
            refine wpAnyH_1 2 rfl (by kernel_rfl) ?_
            refine wp_call [.slice A m c] rfl rfl ePermClone rfl ((clone_any A m c _ _ (HAr.out.il.below hb6) HAr.out.nil).mono ?_)
            rintro e w6 ⟨A6, n6, c6, rfl, ho6, hb7⟩
            have hn6 : n6 = m := by rw [← ho6.len]; exact HAr.out.il.len
            subst hn6
            have hb7' : Below wr.heap.size wr w6 := hb6.trans (hb7.mono hb6.size)
            have ho6' := ho6.mono hb6.size
            refine ⟨_, rfl, grownBy_of_below hb7' _, ?_⟩
            go_frame
            refine wpAnyH_1 5 rfl (by kernel_rfl) ?_
            refine wp_append_int _ (.tmp 23) (.tmp 25) 23 rfl wr.heap.size i0 Try.underlying23 HI0.out HZ0.out HZ1.out HZ2.out A6 n6 c6 _ rfl ho6' (some ⟨wr.drew.heap.size, 0, none⟩) 1 1 [(i : Int)] rfl (hlit.below hb7) (by omega) hb7'.size ?_
            intro A8 c8 w8 hap
            have hb8 : Below wr.heap.size wr w8 := hb7'.grown hap.grown hb7'.size (fun j hj => (ho6'.lt j (by rw [ownBlock_len A6 n6 (n6 + 1) c6 c6]; exact hj)).1)
            have hown : OwnI w8 wr.heap.size A8 (n6 + 1) c8 (zs (p ++ [i])) := by
              have h := hap.own
              rw [show zs (p ++ [i]) = zs p ++ [(i : Int)] by simp [zs]]
              exact h
            have hA8 : ∀ ad, A8 = some ad → ad.block ≠ g := fun ad he e => by
              have h1 := (hown.lt ad.block (by rw [he]; exact rfl)).1
              have h2 := HV.out.lt _ _ HJr.out
              omega
            have hg8 : wr.grownBy w8 (some g) := grownBy_of_below hb8 _
            refine ⟨hg8, ?_⟩
            go_frame
            refine wpAnyH_1 6 rfl (by kernel_rfl) ?_
            refine wp_callV (cap := [.pointer (some ⟨bn, 0, none⟩), .pointer (some ⟨bf, 0, none⟩), .pointer (some ⟨be, 0, none⟩)]) [.slice A8 (n6 + 1) c8] rfl rfl ePermX rfl ((HIH.out (p ++ [i]) A8 (n6 + 1) c8 _ w8 (HPL2.out i) HPN2.out HPX2.out hown.sl hA8 (HBNr.out.kept hg8 h1) (HBFr.out.kept hg8 h2) (HBEr.out.kept hg8 h3) (HV.out.keep _ _ _ HJr.out hb8)).mono ?_)
            rintro e w9 ⟨rfl, hJ9, hg9⟩
            have hg09 := hg8.trans hg9
            refine ⟨_, rfl, hg09, ?_⟩
            go_frame
            refine wpAnyH_done (by kernel_rfl) (noPanic_mk ?_) _
            have HG9 := hide (HG.out.trans hg09)
            have HJ9 : Hid (J ((complTo n k p (i + 1)).foldl step s) w9) := hide (by rw [HO.out, List.foldl_append]; exact hJ9)
            clear hg09 hg9 hJ9 hg8 hb8 hap hown hA8
            go_wp2_with fail
            refine ⟨⟨i + 1, by go_num, by omega, HJ9.out, HG9.out⟩, ?_⟩
            simp [intOf]
            omega
      · have hin : i = n := by omega
        have HE : Hid (complTo n k p i = compl n (k + 1) p) := hide (by rw [hin]; exact (compl_succ n k p).symm)
        rw [HE.out] at HJr
        clear HE
        go_wp2_with fail
        go_end0
        exact ⟨rfl, HJr.out, HG.out⟩
end
end Go.Proofs.Ytgmjighgncpefaa
/- timbref1.Permutations: all permutations, in order. -/
namespace Go.Proofs.Ytgmjighgncpefaa
set_option linter.unusedVariables false
set_option linter.unusedSimpArgs false
open Go.RowKit

theorem filter_ne_getD : ∀ {us : List Nat} {j : Nat}, us.Nodup → j < us.length → us.filter (fun x => !(x == us.getD j 0)) = us.take j ++ us.drop (j + 1)
  | u :: t, 0, hn, _ => by
    have hn' := List.nodup_cons.1 hn
    show (u :: t).filter (fun x => !(x == u)) = t
    rw [List.filter_cons]
    simp only [beq_self_eq_true, Bool.not_true, Bool.false_eq_true, if_false]
    exact List.filter_eq_self.2 fun x hx => by
      simp
      rintro rfl
      exact hn'.1 hx
  | u :: t, j + 1, hn, hj => by
    have hn' := List.nodup_cons.1 hn
    have hj' : j < t.length := by simpa using hj
    have e : (u :: t).getD (j + 1) 0 = t.getD j 0 := by simp [List.getD]
    rw [e, List.filter_cons]
    have hne : (u == t.getD j 0) = false := by
      have hm : t.getD j 0 ∈ t := getD_mem hj'
      simp
      intro h
      rw [List.getD_eq_getElem?_getD, ← h] at hm
      exact hn'.1 hm
    rw [hne]
    simp only [Bool.not_false, if_true]
    rw [filter_ne_getD hn'.2 hj']
    simp
theorem getD_cut (us : List Nat) (j b : Nat) (hj : j < us.length) : (us.take j ++ us.drop (j + 1)).getD b 0 = us.getD (CR.skip j b) 0 := by
  unfold CR.skip
  simp only [List.getD_eq_getElem?_getD, List.getElem?_append, List.length_take, List.getElem?_take, List.getElem?_drop]
  by_cases h : b < j
  · rw [if_pos (by omega), if_pos h, if_pos h]
  · rw [if_neg (by omega), if_neg h]
    congr 2
    omega
theorem flatMap_range {α : Type} (us : List Nat) (f : Nat → List α) : us.flatMap f = (List.range us.length).flatMap fun j => f (us.getD j 0) := by
  have e : us = (List.range us.length).map fun j => us.getD j 0 := by
    apply List.ext_getElem
    · simp
    · intro i h1 h2
      simp [List.getD, List.getElem?_eq_getElem h1]
  conv => lhs; rw [e]
  rw [List.flatMap_map]
theorem compl_perms (n : Nat) : ∀ (k : Nat) (p us : List Nat), (List.range n).filter (fun i => !p.contains i) = us → us.length = k → compl n k p = (permsN k).map fun q => p ++ q.map fun b => us.getD b 0
  | 0, p, us, h, hk => by simp [compl, permsN]
  | k + 1, p, us, h, hk => by
    have hn : us.Nodup := by rw [← h]; exact List.Nodup.sublist List.filter_sublist List.nodup_range
    rw [compl_succ, h, flatMap_range, hk]
    show _ = ((List.range (k + 1)).flatMap fun j => (permsN k).map fun q => j :: q.map (CR.skip j)).map _
    rw [List.map_flatMap]
    rw [List.flatMap_def, List.flatMap_def]
    congr 1
    apply List.map_congr_left
    intro j hj
    have hj' : j < us.length := by rw [hk]; exact List.mem_range.1 hj
    have e : (List.range n).filter (fun i => !(p ++ [us.getD j 0]).contains i) = us.take j ++ us.drop (j + 1) := by
      rw [← filter_ne_getD hn hj']
      conv => rhs; rw [← h]
      rw [List.filter_filter]
      apply List.filter_congr
      intro x _
      simp only [h]
      rw [Bool.eq_iff_iff]
      simp
      grind
    rw [compl_perms n k _ _ e (by simp; omega), List.map_map]
    apply List.map_congr_left
    intro q _
    simp only [Function.comp, List.map_cons, List.map_map]
    rw [List.append_assoc]
    congr 1
    show us.getD j 0 :: _ = us.getD j 0 :: _
    congr 1
    apply List.map_congr_left
    intro b _
    exact getD_cut us j b hj'
theorem compl_all (n : Nat) : compl n n [] = permsN n := by
  have h0 : (List.range n).filter (fun i => !([] : List Nat).contains i) = List.range n := List.filter_eq_self.2 fun x _ => rfl
  rw [compl_perms n n [] (List.range n) h0 (by simp)]
  have : ∀ q ∈ permsN n, ([] ++ q.map fun b => (List.range n).getD b 0) = q := fun q hq => by
    rw [List.nil_append]
    have h1 : q.map (fun b => (List.range n).getD b 0) = q.map id := List.map_congr_left fun b hb => by
      have : b ∈ List.range n := (permsN_perm hq).mem_iff.1 hb
      exact range_getD (List.mem_range.1 this)
    rw [h1, List.map_id]
  rw [List.map_congr_left this, List.map_id']

section
variable {fid : FuncId} {caps : List Value} {g : Nat} {σ : Type} {J : σ → World → Prop} {step : σ → List Nat → σ} {n : Nat}
set_option maxRecDepth 100000 in
set_option maxHeartbeats 2000000 in
theorem permutations_any (V : Visit Try.prog fid caps g σ J (fun p => p.Perm (List.range n)) step) (hfid : ∀ args w, (callFunc fid args).run Try.prog w = .ok (.enter fid args) w) (hn : n ≤ 1000) (s : σ) (w : World) (hJ : J s w) :
    Calls Try.prog 26 #[.int .i64 n, .func (.func fid) #[] caps.toArray] w fun e w' => e = .returned (.tuple #[]) ∧ J ((permsN n).foldl step s) w' ∧ w.grownBy w' (some g) := by
  have hlt := V.lt s w hJ
  have hmf : ∀ (fn : Fn) (first cap : Array Value) (w : World), (Instr.makeFunc fn first cap).run Try.prog w = .ok (.func fn first cap) w := fun _ _ _ _ => rfl
  obtain ⟨fv, hfv⟩ : ∃ fv : Value, fv = (.func (.func 41) #[] #[.pointer (some ⟨w.heap.size, 0, none⟩), .pointer (some ⟨w.heap.size + 1, 0, none⟩), .pointer (some ⟨w.heap.size + 1 + 1, 0, none⟩)]) := ⟨_, rfl⟩
  have HB2 : Hid (Blk (((w.alloc (.cells #[.int .i64 n] 3)).alloc (.cells #[.func (.func fid) #[] caps.toArray] 56)).alloc (.cells #[fv] 56)) (w.heap.size + 1 + 1) 56 #[fv]) := hide (by
    have := Blk.new ((w.alloc (.cells #[.int .i64 n] 3)).alloc (.cells #[.func (.func fid) #[] caps.toArray] 56)) 56 #[fv]
    simpa using this)
  have HB1 : Hid (Blk (((w.alloc (.cells #[.int .i64 n] 3)).alloc (.cells #[.func (.func fid) #[] caps.toArray] 56)).alloc (.cells #[fv] 56)) (w.heap.size + 1) 56 #[.func (.func fid) #[] caps.toArray]) := hide (by
    have := (Blk.new (w.alloc (.cells #[.int .i64 n] 3)) 56 #[.func (.func fid) #[] caps.toArray]).alloc (.cells #[fv] 56)
    simpa using this)
  have HB0 : Hid (Blk (((w.alloc (.cells #[.int .i64 n] 3)).alloc (.cells #[.func (.func fid) #[] caps.toArray] 56)).alloc (.cells #[fv] 56)) w.heap.size 3 #[.int .i64 n]) :=
    hide (((Blk.new w 3 #[.int .i64 n]).alloc _).alloc _)
  have hb4 : Below w.heap.size w (((w.alloc (.cells #[.int .i64 n] 3)).alloc (.cells #[.func (.func fid) #[] caps.toArray] 56)).alloc (.cells #[fv] 56)) :=
    (((Below.refl _ _).alloc (Nat.le_refl _) _).alloc (by simp) _).alloc (by simp; omega) _
  have HE := hide (extend_any V hfid hn w.heap.size (w.heap.size + 1) (w.heap.size + 1 + 1) (by omega) (by omega) (by omega) n [] none 0 0 s)
  have HJ := hide (V.keep _ _ _ hJ hb4)
  have HB4 := hide hb4
  subst hfv
  clear V hJ hb4
  go_enter Try.func26, Try.ntmps26
  go_wp2_with fail
  refine (HE.out _ (by simp) (by simp) (by simp) (SL.nil_ _) (fun ad h => by cases h) HB0.out HB1.out HB2.out HJ.out).mono ?_
  rintro e w5 ⟨rfl, hJ5, hg5⟩
  rw [compl_all] at hJ5
  have hg05 := (grownBy_of_below HB4.out (some g)).trans hg5
  clear HE HB0 HB1 HB2 HB4 HJ
  go_wp2_with fail
  go_returns
  exact ⟨rfl, hJ5, hg05⟩
end
end Go.Proofs.Ytgmjighgncpefaa
