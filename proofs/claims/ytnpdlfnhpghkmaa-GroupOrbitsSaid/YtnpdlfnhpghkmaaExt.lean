/- The group of degree n, and the same group in degree 9. -/
import Derived.Test.YtnpdlfnhpghkmaaOrd
import Derived.Test.YtnpdlfnhpghkmaaBase
namespace Go.Proofs.Ytnpdlfnhpghkmaa

theorem ext_getD {n : Nat} {g : List Nat} (hg : PM n g) {j : Nat} (hj : j < 9) : (ext g).getD j 0 = if j < n then g.getD j 0 else j := by
  unfold ext
  rw [extK_getD _ _ hj, hg.2]
theorem ext_comp {n : Nat} {a b : List Nat} (ha : PM n a) (hb : PM n b) (hn : n ≤ 9) : ext (comp a b) = comp (ext a) (ext b) := by
  have hab := ha.comp hb
  refine (ext_PM hab hn).ext ((ext_PM ha hn).comp (ext_PM hb hn)) fun j hj => ?_
  rw [ext_getD hab hj, (ext_PM ha hn).getD_comp hj, ext_getD ha hj]
  by_cases h : j < n
  · rw [if_pos h, if_pos h, ha.getD_comp h, ext_getD hb (by have := ha.lt h; omega), if_pos (ha.lt h)]
  · rw [if_neg h, if_neg h, ext_getD hb hj, if_neg h]
theorem ext_one {n : Nat} (hn : n ≤ 9) : ext (List.range n) = idE := by
  refine (ext_PM (PM.range n) hn).ext idE_PM fun j hj => ?_
  rw [ext_getD (PM.range n) hj, idE_getD hj]
  split
  · exact range_getD ‹_›
  · rfl
theorem ext_inv {n : Nat} {a : List Nat} (ha : PM n a) (hn : n ≤ 9) : ext (inv a) = inv (ext a) := by
  refine inv_unique_r (ext_PM ha hn) (ext_PM ha.inv hn) ?_
  rw [← ext_comp ha.inv ha hn, ha.inv_comp]
  exact ext_one hn
theorem ext_inj {n : Nat} {a b : List Nat} (ha : PM n a) (hb : PM n b) (hn : n ≤ 9) (h : ext a = ext b) : a = b :=
  ha.ext hb fun j hj => by
    have := congrArg (fun l => l.getD j 0) h
    simp only [ext_getD ha (show j < 9 by omega), ext_getD hb (show j < 9 by omega), hj, if_true] at this
    exact this
section
variable {n : Nat} {gl : List (List Nat)}
theorem Gen.up (hn : n ≤ 9) (hP : PMs n gl) {p : List Nat} (h : Gen n gl p) : Gen 9 (gl.map ext) (ext p) := by
  induction h with
  | one => rw [ext_one hn]; exact .one
  | mul h hg ih => rw [ext_comp (h.pm hP) (hP _ hg) hn]; exact .mul ih (List.mem_map.2 ⟨_, hg, rfl⟩)
  | div h hg ih => rw [ext_comp (h.pm hP) (hP _ hg).inv hn, ext_inv (hP _ hg) hn]; exact .div ih (List.mem_map.2 ⟨_, hg, rfl⟩)
theorem Gen.down (hn : n ≤ 9) (hP : PMs n gl) {q : List Nat} (h : Gen 9 (gl.map ext) q) : ∃ p, Gen n gl p ∧ q = ext p := by
  induction h with
  | one => exact ⟨_, .one, (ext_one hn).symm⟩
  | mul _ hg ih =>
    obtain ⟨p, hp, rfl⟩ := ih
    obtain ⟨g, hg', rfl⟩ := List.mem_map.1 hg
    exact ⟨_, .mul hp hg', (ext_comp (hp.pm hP) (hP _ hg') hn).symm⟩
  | div _ hg ih =>
    obtain ⟨p, hp, rfl⟩ := ih
    obtain ⟨g, hg', rfl⟩ := List.mem_map.1 hg
    exact ⟨_, .div hp hg', by rw [ext_comp (hp.pm hP) (hP _ hg').inv hn, ext_inv (hP _ hg') hn]⟩
theorem gen_ext (hn : n ≤ 9) (hP : PMs n gl) {p : List Nat} (hp : PM n p) : Gen 9 (gl.map ext) (ext p) ↔ Gen n gl p := by
  constructor
  · intro h
    obtain ⟨q, hq, e⟩ := h.down hn hP
    rw [ext_inj hp (hq.pm hP) hn e]
    exact hq
  · exact fun h => h.up hn hP
theorem orb_ext (hn : n ≤ 9) (hP : PMs n gl) {x y : Nat} (hx : x < n) : Orb 9 (gl.map ext) x y ↔ Orb n gl x y := by
  constructor
  · rintro ⟨q, hq, rfl⟩
    obtain ⟨p, hp, rfl⟩ := hq.down hn hP
    exact ⟨p, hp, by rw [ext_getD (hp.pm hP) (by omega), if_pos hx]⟩
  · rintro ⟨p, hp, rfl⟩
    exact ⟨ext p, hp.up hn hP, by rw [ext_getD (hp.pm hP) (by omega), if_pos hx]⟩
/-- The order of the group, an orbit, a stabilizer. -/
theorem orb_stab (hn : n ≤ 9) (hP : PMs n gl) {xs : List (List Nat)} (he : EnumG 9 (gl.map ext) xs) {x : Nat} (hx : x < n) {o : List Nat} (ho : IsOrb n gl x o) :
    xs.length = o.length * (xs.filter fun p => decide (p.getD x 0 = x)).length :=
  orbit_stabilizer (gens_PM hP hn) (by omega) he (fun y => by rw [ho.mem, orb_ext hn hP hx]) ho.nodup
end
end Go.Proofs.Ytnpdlfnhpghkmaa
