/- A right matching is one of the planar ones; the enumeration by the first open place. -/
import Derived.Test.YthhcjnmlpojjeaaTlP
namespace Go.Proofs.Ythhcjnmlpojjeaa
set_option linter.unusedVariables false
set_option linter.unusedSimpArgs false

theorem setN_eq : ∀ (l : List Nat) (k x : Nat), Tl.setN l k x = l.set k x
  | [], _, _ => by simp [Tl.setN]
  | a :: l, 0, x => by simp [Tl.setN]
  | a :: l, k + 1, x => by simp [Tl.setN, setN_eq l k x]
theorem openN_none : ∀ {l : List Nat} {k : Nat}, Tl.openN l k = none → ∀ j, j < l.length → l.getD j 0 ≠ 0
  | x :: l, k, h, j, hj => by
    rw [Tl.openN] at h
    cases e : Nat.beq x 0
    · rw [e] at h
      match j with
      | 0 => exact fun e2 => by rw [show (x :: l).getD 0 0 = x from rfl] at e2; rw [e2] at e; exact absurd e (by decide)
      | j + 1 => rw [List.getD_cons_succ]; exact openN_none h j (by simpa using hj)
    · rw [e] at h; cases h
theorem openN_some : ∀ {l : List Nat} {k i : Nat}, Tl.openN l k = some i → k ≤ i ∧ i - k < l.length ∧ l.getD (i - k) 0 = 0 ∧ ∀ j, j < i - k → l.getD j 0 ≠ 0
  | [], k, i, h => by cases h
  | x :: l, k, i, h => by
    rw [Tl.openN] at h
    cases e : Nat.beq x 0
    · rw [e] at h
      obtain ⟨h1, h2, h3, h4⟩ := openN_some (l := l) h
      have hx : x ≠ 0 := fun e2 => by rw [e2] at e; exact absurd e (by decide)
      refine ⟨by omega, by simp; omega, ?_, ?_⟩
      · rw [show i - k = (i - (k + 1)) + 1 by omega, List.getD_cons_succ]; exact h3
      · intro j hj
        match j with
        | 0 => exact hx
        | j + 1 => rw [List.getD_cons_succ]; exact h4 j (by omega)
    · rw [e] at h
      injection h with h
      subst h
      exact ⟨Nat.le_refl _, by simp, by rw [Nat.sub_self]; exact Nat.eq_of_beq_eq_true e, fun j hj => by omega⟩
theorem mem_parts {i : Nat} {q : Nat → List (List Nat)} {x : List Nat} : ∀ {l : List Nat} {k : Nat}, x ∈ Tl.partsL i q l k ↔ ∃ j, j < l.length ∧ l.getD j 0 = 0 ∧ i < k + j ∧ x ∈ q (k + j)
  | [], k => by simp [Tl.partsL]
  | c :: l, k => by
    have ih := mem_parts (i := i) (q := q) (x := x) (l := l) (k := k + 1)
    have hs : (∃ j, j < (c :: l).length ∧ (c :: l).getD j 0 = 0 ∧ i < k + j ∧ x ∈ q (k + j)) ↔ (c = 0 ∧ i < k ∧ x ∈ q k) ∨ (∃ j, j < l.length ∧ l.getD j 0 = 0 ∧ i < k + 1 + j ∧ x ∈ q (k + 1 + j)) := by
      constructor
      · rintro ⟨j, h1, h2, h3, h4⟩
        match j with
        | 0 => exact .inl ⟨h2, h3, h4⟩
        | j + 1 => exact .inr ⟨j, by simpa using h1, by simpa using h2, by omega, by rw [show k + 1 + j = k + (j + 1) by omega]; exact h4⟩
      · rintro (⟨h1, h2, h3⟩ | ⟨j, h1, h2, h3, h4⟩)
        · exact ⟨0, by simp, h1, h2, h3⟩
        · exact ⟨j + 1, by simpa using h1, by simpa using h2, by omega, by rw [show k + (j + 1) = k + 1 + j by omega]; exact h4⟩
    rw [hs, ← ih, Tl.partsL]
    by_cases e : c = 0
    · subst e
      by_cases h : i < k
      · have hb : Nat.blt i k = true := by have h5 : i + 1 ≤ k := h; simpa [Nat.blt] using h5
        rw [hb]
        simp [h]
      · have hb : Nat.blt i k = false := Bool.eq_false_iff.2 fun hb => h (Nat.le_of_ble_eq_true hb)
        rw [hb]
        simp [h]
    · have hb : Nat.beq c 0 = false := Bool.eq_false_iff.2 fun h => e (Nat.eq_of_beq_eq_true h)
      rw [hb]
      simp [e]
/-- A matching: partners from 1 on. -/
structure Inv (N : Nat) (D : List Nat) : Prop where
  len : D.length = N
  at_ : ∀ i, i < N → 1 ≤ D.getD i 0 ∧ D.getD i 0 ≤ N ∧ D.getD i 0 ≠ i + 1 ∧ D.getD (D.getD i 0 - 1) 0 = i + 1
/-- A part of a matching. -/
structure Prt (N : Nat) (D d : List Nat) : Prop where
  len : d.length = N
  at_ : ∀ i, i < N → d.getD i 0 = 0 ∨ d.getD i 0 = D.getD i 0
  both : ∀ i, i < N → d.getD i 0 = 0 → d.getD (D.getD i 0 - 1) 0 = 0
theorem fill_step {d : List Nat} {f i : Nat} (h : Tl.openN d 0 = some i) (x : List Nat) : x ∈ Tl.fillN (f + 1) d ↔ ∃ k, k < d.length ∧ d.getD k 0 = 0 ∧ i < k ∧ x ∈ Tl.fillN f ((d.set i (k + 1)).set k (i + 1)) := by
  rw [Tl.fillN, h]
  simp only [mem_parts, Tl.forceL_eq, setN_eq, Nat.zero_add]
theorem fill_none {d : List Nat} {f : Nat} (h : Tl.openN d 0 = none) : Tl.fillN (f + 1) d = [d] := by rw [Tl.fillN, h]
theorem zeros_set {d : List Nat} {i k x y : Nat} (hi : i < d.length) (hk : k < d.length) (hik : i ≠ k) (h1 : d.getD i 0 = 0) (h2 : d.getD k 0 = 0) (hx : x ≠ 0) (hy : y ≠ 0) : ((d.set i x).set k y).count 0 + 2 = d.count 0 := by
  have c1 := List.count_set (l := d) (i := i) (a := x) (b := 0) hi
  have c2 := List.count_set (l := d.set i x) (i := k) (a := y) (b := 0) (by simpa using hk)
  have e1 : d[i] = 0 := by simpa [List.getD, hi] using h1
  have e2 : (d.set i x)[k]'(by simpa using hk) = 0 := by
    rw [List.getElem_set_ne hik]
    simpa [List.getD, hk] using h2
  rw [e1] at c1
  rw [e2, c1] at c2
  have p : 0 < d.count 0 := List.count_pos_iff.2 (by rw [← e1]; exact List.getElem_mem hi)
  have q : 0 < (d.set i x).count 0 := List.count_pos_iff.2 (by rw [← e2]; exact List.getElem_mem _)
  rw [c1] at q
  simp [hx, hy] at c1 c2 q
  omega
theorem set2_getD {d : List Nat} {i k x y j : Nat} (hj : j < d.length) : ((d.set i x).set k y).getD j 0 = if k = j then y else if i = j then x else d.getD j 0 := by
  rw [getD_setN (by simpa using hj), getD_setN hj]
theorem fill_mem {N : Nat} {D : List Nat} (hD : Inv N D) : ∀ (f : Nat) {d : List Nat}, Prt N D d → d.count 0 < 2 * f → D ∈ Tl.fillN f d
  | 0, d, _, h => by omega
  | f + 1, d, hp, hc => by
    cases ho : Tl.openN d 0 with
    | none =>
      rw [fill_none ho]
      have : D = d := by
        refine List.ext_getElem (by rw [hD.len, hp.len]) fun j h1 h2 => ?_
        have hj : j < N := by rw [← hD.len]; exact h1
        have h3 := openN_none ho j h2
        have h4 := (hp.at_ j hj).resolve_left h3
        simpa [List.getD, h1, h2] using h4.symm
      simp [this]
    | some i =>
      obtain ⟨_, h2, h3, h4⟩ := openN_some ho
      rw [Nat.sub_zero] at h2 h3 h4
      have hi : i < N := by rw [← hp.len]; exact h2
      obtain ⟨a1, a2, a3, a4⟩ := hD.at_ i hi
      obtain ⟨k, hk⟩ : ∃ k, D.getD i 0 = k + 1 := ⟨D.getD i 0 - 1, by omega⟩
      rw [hk] at a2 a3 a4
      rw [Nat.add_sub_cancel] at a4
      have hkN : k < N := by omega
      have hk0 := hp.both i hi h3
      rw [hk, Nat.add_sub_cancel] at hk0
      have hik : i < k := by
        rcases Nat.lt_trichotomy i k with h | h | h
        · exact h
        · omega
        · exact absurd hk0 (h4 k h)
      rw [fill_step ho]
      refine ⟨k, by rw [hp.len]; exact hkN, hk0, hik, fill_mem hD f ⟨by simp [hp.len], fun j hj => ?_, fun j hj => ?_⟩ ?_⟩
      · rw [set2_getD (by rw [hp.len]; exact hj)]
        by_cases e : k = j
        · rw [if_pos e, ← e, a4]; exact .inr rfl
        · rw [if_neg e]
          by_cases e2 : i = j
          · rw [if_pos e2, ← e2, hk]; exact .inr rfl
          · rw [if_neg e2]; exact hp.at_ j hj
      · obtain ⟨b1, b2, b3, b4⟩ := hD.at_ j hj
        rw [set2_getD (by rw [hp.len]; exact hj), set2_getD (by rw [hp.len]; omega)]
        intro h0
        by_cases e : k = j
        · rw [if_pos e] at h0; omega
        · rw [if_neg e] at h0
          by_cases e2 : i = j
          · rw [if_pos e2] at h0; omega
          · rw [if_neg e2] at h0
            have n1 : k ≠ D.getD j 0 - 1 := fun e3 => by
              rw [← e3, a4] at b4
              omega
            have n2 : i ≠ D.getD j 0 - 1 := fun e3 => by
              rw [← e3, hk] at b4
              omega
            rw [if_neg n1, if_neg n2]
            exact hp.both j hj h0
      · have := zeros_set (d := d) (i := i) (k := k) (x := k + 1) (y := i + 1) h2 (by rw [hp.len]; exact hkN) (by omega) h3 hk0 (by omega) (by omega)
        omega

/-- The same as integers from 0 on, -1 where it is open. -/
def toI (D : List Nat) : List Int := D.map fun (x : Nat) => (x : Int) - 1
theorem toI_length (D : List Nat) : (toI D).length = D.length := by simp [toI]
theorem toI_getD {D : List Nat} {i : Nat} (hi : i < D.length) : (toI D).getD i 0 = (D.getD i 0 : Int) - 1 := by simp [toI, List.getD, hi]
theorem toI_succ (x : List Nat) : toI (x.map (· + 1)) = zs x := by
  unfold toI zs
  rw [List.map_map]
  refine List.map_congr_left fun a _ => ?_
  simp
/-- The stack in base 16. -/
def encS (st : List Nat) : Nat := st.foldl (fun s p => s * 16 + (p + 1)) 0
theorem encS_snoc (st : List Nat) (q : Nat) : encS (st ++ [q]) = encS st * 16 + (q + 1) := by unfold encS; rw [List.foldl_append]; rfl
theorem snocN (st : List Nat) : st = [] ∨ ∃ st' q, st = st' ++ [q] := by
  by_cases h : st = []
  · exact .inl h
  · exact .inr ⟨st.dropLast, st.getLast h, (List.dropLast_concat_getLast h).symm⟩
theorem encS_zero {st : List Nat} : encS st = 0 ↔ st = [] := by
  rcases snocN st with rfl | ⟨st', q, rfl⟩
  · simp [encS]
  · rw [encS_snoc]; simp
theorem stE_spec {N : Nat} {D : List Nat} (hl : D.length = N) (h16 : ∀ x ∈ D, x < 16) (h1 : ∀ i, i < N → 1 ≤ D.getD i 0) : ∀ (ps : List Nat) (st : List Nat), (∀ p ∈ ps, p < N ∧ p < 15) → (∀ p ∈ st, p < 15) →
    (Tl.stE (Tl.enc D 1) ps (encS st) = true ↔ ps.foldl (Tl.stF (toI D)) (zs st) = [])
  | [], st, _, _ => by
    show Nat.beq (encS st) 0 = true ↔ zs st = []
    rw [Nat.beq_eq, encS_zero]
    unfold zs
    rw [List.map_eq_nil_iff]
  | p :: ps, st, hp, hst => by
    obtain ⟨hpN, hp15⟩ := hp p (by simp)
    have hdig := Tl.enc_dig h16 p (by rw [hl]; exact hpN)
    have hy := h1 p hpN
    have hget := toI_getD (D := D) (i := p) (by rw [hl]; exact hpN)
    have push : Tl.stE (Tl.enc D 1) ps (encS st * 16 + (p + 1)) = true ↔ ps.foldl (Tl.stF (toI D)) (zs st ++ [(p : Int)]) = [] := by
      have := stE_spec hl h16 h1 ps (st ++ [p]) (fun q hq => hp q (by simp [hq])) (fun q hq => (List.mem_append.1 hq).elim (hst q) (fun h => by rw [List.mem_singleton.1 h]; exact hp15))
      rw [encS_snoc] at this
      have e : zs (st ++ [p]) = zs st ++ [(p : Int)] := by simp [zs]
      rw [e] at this
      exact this
    rw [Tl.stE, Tl.forceN_eq, Tl.forceN_eq, hdig, List.foldl_cons]
    rcases snocN st with rfl | ⟨st', q, rfl⟩
    · have hb : Nat.beq (encS [] % 16) (D.getD p 0) = false := Bool.eq_false_iff.2 fun h => by
        have h5 := Nat.eq_of_beq_eq_true h
        rw [show encS [] % 16 = 0 from rfl] at h5
        omega
      rw [hb]
      have hF : Tl.stF (toI D) (zs []) p = zs [] ++ [(p : Int)] := by unfold Tl.stF; rw [if_neg (fun h => absurd h.1 (by simp [zs]))]
      rw [hF]
      exact push
    · have hq15 := hst q (by simp)
      have hm : encS (st' ++ [q]) % 16 = q + 1 := by rw [encS_snoc]; omega
      have hd : encS (st' ++ [q]) / 16 = encS st' := by rw [encS_snoc]; omega
      have hlen : (zs (st' ++ [q])).length = st'.length + 1 := by rw [zs_length]; simp
      have hlast : (zs (st' ++ [q])).getD ((zs (st' ++ [q])).length - 1) 0 = (q : Int) := by
        rw [zs_getD, hlen, Nat.add_sub_cancel]
        simp [List.getD]
      rw [hm, hd]
      by_cases e : q + 1 = D.getD p 0
      · have hb : Nat.beq (q + 1) (D.getD p 0) = true := by rw [e]; exact Nat.beq_refl _
        rw [hb]
        have hF : Tl.stF (toI D) (zs (st' ++ [q])) p = zs st' := by
          unfold Tl.stF
          rw [if_pos ⟨by rw [hlen]; omega, by rw [hlast, hget]; omega⟩, hlen, Nat.add_sub_cancel, zs_take]
          simp
        rw [hF]
        exact stE_spec hl h16 h1 ps st' (fun q hq => hp q (by simp [hq])) (fun q hq => hst q (by simp [hq]))
      · have hb : Nat.beq (q + 1) (D.getD p 0) = false := Bool.eq_false_iff.2 fun h => e (Nat.eq_of_beq_eq_true h)
        rw [hb]
        have hF : Tl.stF (toI D) (zs (st' ++ [q])) p = zs (st' ++ [q]) ++ [(p : Int)] := by
          unfold Tl.stF
          rw [if_neg (fun h => e (by have := h.2; rw [hlast, hget] at this; omega))]
        rw [hF]
        exact push
theorem posF_lt {n i : Nat} (h : i < 2 * n) : Tl.posF n i < 2 * n := by unfold Tl.posF; split <;> omega
theorem okE_spec {n : Nat} (hn : n ≤ 6) {D : List Nat} (h : Inv (2 * n) D) : Tl.okE (Tl.bnd n) D = true ↔ Tl.stsF n (toI D) (2 * n) = [] := by
  have hb : ∀ x ∈ D, x < 16 := fun x hx => by
    obtain ⟨i, hi, rfl⟩ := List.mem_iff_getElem.1 hx
    have := (h.at_ i (by rw [← h.len]; exact hi)).2.1
    rw [show D.getD i 0 = D[i] by simp [List.getD, hi]] at this
    omega
  have hs := stE_spec h.len hb (fun i hi => (h.at_ i hi).1) (Tl.bnd n) [] (fun p hp => by
    unfold Tl.bnd at hp
    obtain ⟨i, hi, rfl⟩ := List.mem_map.1 hp
    have := posF_lt (List.mem_range.1 hi)
    exact ⟨this, by omega⟩) (fun p hp => by cases hp)
  unfold Tl.okE
  rw [Tl.forceN_eq]
  have e : (Tl.bnd n).foldl (Tl.stF (toI D)) (zs []) = Tl.stsF n (toI D) (2 * n) := by
    unfold Tl.bnd Tl.stsF
    rw [List.foldl_map]
    rfl
  rw [e] at hs
  exact hs
theorem bdF_inv {n : Nat} {D : List Nat} (h : Inv (2 * n) D) {i : Nat} (hi : i < 2 * n) : Tl.bdF n (toI D) i = false := by
  obtain ⟨a1, a2, a3, a4⟩ := h.at_ i hi
  unfold Tl.bdF
  rw [toI_getD (by rw [h.len]; exact hi)]
  have e : ((D.getD i 0 : Int) - 1).toNat = D.getD i 0 - 1 := by omega
  rw [e, toI_getD (by rw [h.len]; omega), a4]
  rw [decide_eq_false (by omega), decide_eq_false (by omega), decide_eq_false (by omega), decide_eq_false (by omega)]
  rfl
theorem mtF_inv {n : Nat} (h0 : 1 ≤ n) (hn : n ≤ 6) {D : List Nat} (h : Inv (2 * n) D) : Tl.mtF n (toI D) = 0 ↔ Tl.okE (Tl.bnd n) D = true := by
  rw [okE_spec hn h]
  unfold Tl.mtF
  rw [if_neg (by omega), Int.toNat_natCast, if_neg (by rw [toI_length, h.len]; simp), if_neg]
  · by_cases e : Tl.stsF n (toI D) (2 * n) = []
    · rw [if_neg (fun k => k e)]; exact ⟨fun _ => e, fun _ => rfl⟩
    · rw [if_pos e]; exact ⟨fun k => absurd k (by decide), fun k => absurd k e⟩
  · rw [Tl.bdF_all (fun j hj => bdF_inv h (by rw [toI_length, h.len] at hj; exact hj))]
    simp
theorem mtF_zero {m : Int} {d : List Int} (h : Tl.mtF m d = 0) : ∃ n : Nat, m = (n : Int) ∧ 1 ≤ n ∧ n ≤ 6 ∧ ∃ D, Inv (2 * n) D ∧ d = toI D := by
  unfold Tl.mtF at h
  by_cases h1 : m < 1 ∨ 6 < m
  · rw [if_pos h1] at h; cases h
  rw [if_neg h1] at h
  obtain ⟨n, rfl⟩ : ∃ n : Nat, m = (n : Int) := ⟨m.toNat, by omega⟩
  rw [Int.toNat_natCast] at h
  by_cases h2 : d.length = 2 * n
  case neg => rw [if_pos h2] at h; cases h
  rw [if_neg (fun k => k h2)] at h
  by_cases h3 : (List.range d.length).any (Tl.bdF n d) = true
  · rw [if_pos h3] at h; cases h
  have h4 : ∀ i, i < 2 * n → Tl.bdF n d i = false := fun i hi => Bool.eq_false_iff.2 fun k => h3 (Tl.bdF_one (by rw [h2]; exact hi) k)
  have h5 : ∀ i, i < 2 * n → 0 ≤ d.getD i 0 ∧ d.getD i 0 < 2 * n ∧ d.getD i 0 ≠ i ∧ d.getD (d.getD i 0).toNat 0 = i := fun i hi => by
    have := h4 i hi
    unfold Tl.bdF at this
    simp only [Bool.or_eq_false_iff, decide_eq_false_iff_not] at this
    obtain ⟨⟨⟨b1, b2⟩, b3⟩, b4⟩ := this
    exact ⟨by omega, by omega, b3, Classical.not_not.1 b4⟩
  refine ⟨n, rfl, by omega, by omega, d.map fun x => (x + 1).toNat, ?_, ?_⟩
  · have hg : ∀ i, i < 2 * n → (d.map fun x => (x + 1).toNat).getD i 0 = (d.getD i 0 + 1).toNat := fun i hi => by simp [List.getD, h2, hi]
    refine ⟨by simp [h2], fun i hi => ?_⟩
    obtain ⟨c1, c2, c3, c4⟩ := h5 i hi
    rw [hg i hi]
    have e : (d.getD i 0 + 1).toNat - 1 = (d.getD i 0).toNat := by omega
    rw [e, hg _ (by omega), c4]
    exact ⟨by omega, by omega, by omega, by omega⟩
  · refine List.ext_getElem (by simp [toI]) fun i k1 k2 => ?_
    have := (h5 i (by rw [← h2]; exact k1)).1
    rw [show d.getD i 0 = d[i] by simp [List.getD, k1]] at this
    simp [toI]
    omega
theorem fill_all {n : Nat} (h0 : 1 ≤ n) (hn : n ≤ 6) : (Tl.fillN (n + 1) (List.replicate (2 * n) 0)).filter (Tl.okE (Tl.bnd n)) = (Tl.plan n).map (List.map (· + 1)) := by
  by_cases e : n = 6
  · subst e; exact fill_6
  · have h1 := fill_low
    rw [List.all_eq_true] at h1
    have h2 := h1 n (List.mem_range.2 (by omega))
    rw [Bool.or_eq_true, beq_iff_eq, beq_iff_eq] at h2
    rcases h2 with h2 | h2
    · omega
    · exact h2
theorem Prt.zero {N : Nat} (D : List Nat) : Prt N D (List.replicate N 0) := ⟨by simp, fun i hi => .inl (by simp [List.getD, hi]), fun i hi _ => by
  by_cases h : D.getD i 0 - 1 < N
  · rw [List.getD_eq_getElem?_getD, List.getElem?_replicate, if_pos h]; rfl
  · rw [List.getD_eq_getElem?_getD, List.getElem?_eq_none (by simpa using Nat.le_of_not_lt h)]; rfl⟩
/-- A right matching is one of the planar ones. -/
theorem valid_plan {m : Int} {d : List Int} (h : Tl.mtF m d = 0) : ∃ n : Nat, m = (n : Int) ∧ 1 ≤ n ∧ n ≤ 6 ∧ ∃ x, x ∈ Tl.plan n ∧ d = zs x := by
  obtain ⟨n, rfl, h0, h6, D, hD, rfl⟩ := mtF_zero h
  refine ⟨n, rfl, h0, h6, ?_⟩
  have hm := fill_mem hD (n + 1) (Prt.zero D) (by rw [List.count_replicate_self]; omega)
  have hf : D ∈ (Tl.fillN (n + 1) (List.replicate (2 * n) 0)).filter (Tl.okE (Tl.bnd n)) := List.mem_filter.2 ⟨hm, (mtF_inv h0 h6 hD).1 h⟩
  rw [fill_all h0 h6] at hf
  obtain ⟨x, hx, rfl⟩ := List.mem_map.1 hf
  exact ⟨x, hx, toI_succ x⟩
end Go.Proofs.Ythhcjnmlpojjeaa
