/- Several texts of the walk in one. -/
import Derived.Test.YtgmjighgncpefaaBase
import Derived.Test.YtgmjighgncpefaaPart1
import Derived.Test.YtgmjighgncpefaaPart12
import Derived.Test.YtgmjighgncpefaaPart11
import Derived.Test.YtgmjighgncpefaaPart7
import Derived.Test.YtgmjighgncpefaaPart2
import Derived.Test.YtgmjighgncpefaaPart6
/- timbref1.Parity. -/
namespace Go.Proofs.Ytgmjighgncpefaa
set_option linter.unusedVariables false
set_option linter.unusedSimpArgs false
open Go.RowKit

set_option maxHeartbeats 2000000 in
theorem parity_ok (A : Option Addr) (n c : Nat) (a : List Nat) (w : World) (ha : IL w A n (zs a)) (h9 : n ≤ 1000) :
    Calls Try.prog 28 #[.slice A n c] w fun e w' => e = .returned (.int .i64 (parTo a n)) ∧ Below w.heap.size w w' := by
  go_enter Try.func28, Try.ntmps28
  go_wp2
  go_loopw [3, 8] (fun sv i wr => ∃ k : Nat, i = .int .i64 k ∧ sv = .int .i64 (parTo a k) ∧ k ≤ n ∧ Below w.heap.size w wr) (fun _ i _ => n - (intOf i).toNat)
  case atStart => exact ⟨0, rfl, rfl, Nat.zero_le _, Below.refl _ _⟩
  case round =>
    obtain ⟨k, rfl, rfl, hk, hnx⟩ := hrel
    rename World => wo
    by_cases hlt : k < n
    · have hone := parTo_one a k
      have hs1 : -1 ≤ parTo a k := by omega
      have hs2 : parTo a k ≤ 1 := by omega
      have HO := hide hone
      clear hone
      have HST : Hid (parIn a k (parTo a k) 0 = parTo a k) := rfl
      have HEND : Hid (parIn a k (parTo a k) k = parTo a (k + 1)) := rfl
      generalize parTo a k = s0 at *
      go_wp2
      go_loopw [3, 12] (fun sv i wx => ∃ j : Nat, i = .int .i64 j ∧ sv = .int .i64 (parIn a k s0 j) ∧ j ≤ k ∧ Below wo.heap.size wo wx) (fun _ i _ => k - (intOf i).toNat)
      case atStart => exact ⟨0, rfl, by rw [HST.out], Nat.zero_le _, Below.refl _ _⟩
      case round =>
        obtain ⟨j, rfl, rfl, hj, hny⟩ := hrel
        have ha' := ha.below (hnx.trans (hny.mono hnx.size))
        have HA := hide ha
        clear ha
        have hone := parIn_one a k HO.out j
        have ht1 : -1 ≤ parIn a k s0 j := by omega
        have ht2 : parIn a k s0 j ≤ 1 := by omega
        clear hone
        by_cases hjlt : j < k
        · obtain ⟨ad, rfl, hcj⟩ := ha'.at_ (show j < n by omega)
          obtain ⟨ad', e, hck⟩ := ha'.at_ hlt
          injection e with e
          subst e
          rw [zs_getD] at hcj hck
          have HS : Hid (parIn a k s0 (j + 1) = if a.getD k 0 < a.getD j 0 then -parIn a k s0 j else parIn a k s0 j) := rfl
          clear ha'
          generalize parIn a k s0 j = t at *
          generalize a.getD j 0 = x at *
          generalize a.getD k 0 = y at *
          by_cases hxy : y < x
          · have HS' : Hid (parIn a k s0 (j + 1) = -t) := by rw [HS.out, if_pos hxy]; exact rfl
            have hb : decide (y < x) = true := by simpa using hxy
            clear hxy
            go_wp2
            go_quiet (fail)
            go_wp2
            go_roundw
            case rel => exact ⟨j + 1, by go_num, by rw [HS'.out], by omega, below_drewN hny _⟩
            case measure => simp [intOf]; omega
          · have HS' : Hid (parIn a k s0 (j + 1) = t) := by rw [HS.out, if_neg hxy]; exact rfl
            have hb : decide (y < x) = false := by simpa using hxy
            clear hxy
            go_wp2
            go_quiet (fail)
            go_wp2
            go_roundw
            case rel => exact ⟨j + 1, by go_num, by rw [HS'.out], by omega, below_drewN hny _⟩
            case measure => simp [intOf]; omega
        · have hjk : j = k := by omega
          have HE : Hid (parIn a k s0 j = parTo a (k + 1)) := by rw [hjk]; exact HEND.out
          generalize parIn a k s0 j = t at *
          go_wp2
          go_roundw
          case rel => exact ⟨k + 1, by go_num, by rw [HE.out], by omega, hnx.trans (hny.mono hnx.size)⟩
          case measure => simp [intOf]; omega
    · have HE : Hid (parTo a k = parTo a n) := by rw [show k = n from by omega]; exact rfl
      generalize parTo a k = t at *
      go_wp2
      go_ret
      rw [HE.out]
      exact ⟨rfl, hnx⟩
end Go.Proofs.Ytgmjighgncpefaa
/- timbref1.Determinant. -/
namespace Go.Proofs.Ytgmjighgncpefaa
set_option linter.unusedVariables false
set_option linter.unusedSimpArgs false
open Go.RowKit

/-- The entries of a matrix. -/
def matF (xss : List (List Int)) : Mtx Int := fun i j => (xss.getD i []).getD j 0
/-- The product of the first k entries. -/
def pTo (M : Mtx Int) (p : List Nat) : Nat → Int
  | 0 => 1
  | k + 1 => pTo M p k * M k (p.getD k 0)
theorem pTo_drop (M : Mtx Int) (p : List Nat) : ∀ k, k ≤ p.length → pTo M p k * prodP M k (p.drop k) = prodP M 0 p
  | 0, _ => by rw [List.drop_zero]; exact Int.one_mul _
  | k + 1, h => by
    rw [← pTo_drop M p k (by omega), List.drop_eq_getElem_cons (by omega : k < p.length)]
    show pTo M p k * M k (p.getD k 0) * _ = pTo M p k * (M k p[k] * _)
    rw [getD_eq (by omega), Int.mul_assoc]
theorem pTo_all (M : Mtx Int) (p : List Nat) : pTo M p p.length = prodP M 0 p := by
  have h := pTo_drop M p p.length (Nat.le_refl _)
  rw [List.drop_length] at h
  rw [← h]
  exact (Int.mul_one _).symm
theorem abs_mul_le {a b : Int} {x y : Nat} (ha : a.natAbs ≤ x) (hb : b.natAbs ≤ y) : (a * b).natAbs ≤ x * y := by
  rw [Int.natAbs_mul]
  exact Nat.mul_le_mul ha hb
theorem pTo_le {M : Mtx Int} {p : List Nat} {B : Nat} (h : ∀ k, k < p.length → (M k (p.getD k 0)).natAbs ≤ B) : ∀ k, k ≤ p.length → (pTo M p k).natAbs ≤ B ^ k
  | 0, _ => by simp [pTo]
  | k + 1, hk => by
    rw [Nat.pow_succ]
    exact abs_mul_le (pTo_le h k (by omega)) (h k (by omega))
theorem pow_small {B k n : Nat} (hB : B ≤ 100) (hk : k ≤ n) (hn : n ≤ 6) : B ^ k ≤ 1000000000000 := by
  calc B ^ k ≤ 100 ^ k := Nat.pow_le_pow_left hB k
    _ ≤ 100 ^ 6 := Nat.pow_le_pow_right (by omega) (by omega)
    _ = 1000000000000 := by decide
theorem wrap_wrap_add (a b : Int) : wrap64 (wrap64 a + b) = wrap64 (a + b) := by
  unfold wrap64
  omega
def termI (M : Mtx Int) (p : List Nat) : Int := sg (invL p) * prodP M 0 p
def stepI (M : Mtx Int) (s : Int) (p : List Nat) : Int := wrap64 (s + termI M p)
theorem foldl_stepI (M : Mtx Int) : ∀ (l : List (List Nat)) (s : Int), l.foldl (stepI M) (wrap64 s) = wrap64 (s + sumLR (l.map (termI M)))
  | [], s => by
    show wrap64 s = wrap64 (s + 0)
    rw [Int.add_zero]
  | p :: t, s => by
    show t.foldl (stepI M) (wrap64 (wrap64 s + termI M p)) = wrap64 (s + (termI M p + _))
    rw [wrap_wrap_add, foldl_stepI M t, Int.add_assoc]
theorem grownBy_set1 (w : World) (b i : Nat) (v : Value) : w.grownBy (w.setCell ⟨b, i, none⟩ v) (some b) :=
  ⟨rfl, rfl, rfl, by simp, fun k _ hk => Below.heap_setCell w _ v k (fun e => hk (by rw [e]))⟩
theorem natAbs_sum_le {B : Nat} {f : Nat → Int} : ∀ {n : Nat}, (∀ i, i < n → (f i).natAbs ≤ B) → (CR.sumN n f).natAbs ≤ n * B
  | 0, _ => by simp [CR.sumN_zero]
  | n + 1, h => by
    rw [CR.sumN_succ]
    have h1 := natAbs_sum_le (n := n) fun i hi => h i (by omega)
    have h2 := h n (by omega)
    have h3 := Int.natAbs_add_le (CR.sumN n f) (f n)
    rw [Nat.add_one_mul]
    exact Nat.le_trans h3 (by omega)
theorem detR_le {B : Nat} : ∀ (n : Nat) (M : Mtx Int), (∀ i, i < n → ∀ j, j < n → (M i j).natAbs ≤ B) → (detR n M).natAbs ≤ fct n * B ^ n
  | 0, M, _ => by simp [detR, fct]
  | n + 1, M, h => by
    have := natAbs_sum_le (B := B * (fct n * B ^ n)) (n := n + 1) (f := fun j => CR.sgR Int j * (M 0 j * detR n fun a b => M (a + 1) (CR.skip j b))) (fun j hj => by
      have h1 : (CR.sgR Int j).natAbs ≤ 1 := by unfold CR.sgR; split <;> decide
      have h2 := abs_mul_le (h 0 (by omega) j hj) (detR_le n (fun a b => M (a + 1) (CR.skip j b)) fun a ha b hb => h _ (by omega) _ (skip_lt hb))
      have h3 := abs_mul_le h1 h2
      rwa [Nat.one_mul] at h3)
    refine Nat.le_trans this (Nat.le_of_eq ?_)
    show _ = (n + 1) * fct n * B ^ (n + 1)
    rw [Nat.pow_succ]
    ac_rfl

/-- A square matrix that came in before w0 was as it is. -/
structure DJ (w0 : World) (g bm : Nat) (A : Option Addr) (n c : Nat) (s : Int) (w : World) : Prop where
  below : Below w0.heap.size w0 w
  sum : Blk w g 3 #[.int .i64 s]
  box : Blk w bm 41 #[.slice A n c]
  val : ∃ z, s = wrap64 z

end Go.Proofs.Ytgmjighgncpefaa
/- The state of timbkeep1.PolyDetRows: two matrices, two rows, a polynomial and the diagonal's product. -/
namespace Go.Proofs.Ytgmjighgncpefaa
set_option linter.unusedVariables false
set_option linter.unusedSimpArgs false
open Go.RowKit

abbrev O6 (M T C E : Option Addr) (g : Nat) (p : Option Nat) : List (Option Nat) := [ob M, ob T, ob C, ob E, some g, p]
structure J4 (g base : Nat) (p : Option Nat) (w : World) (M T C E : Option Addr) (rm rt jc je mc tc cc ec : Nat) (vm vt vc ve : List Value) (xm xt : List (List Po)) (xc xe : List Po) (D : Option Addr) (dn dd : Nat) (dl : Int) (ds : List Int) : Prop where
  bm : BldO (Fr (O6 M T C E g p)) (QS QP 2) 30 1 base w M rm mc vm xm
  bt : BldO (Fr (O6 M T C E g p)) (QS QP 2) 30 1 base w T rt tc vt xt
  bc : BldO (Fr (O6 M T C E g p)) QP 25 2 base w C jc cc vc xc
  be : BldO (Fr (O6 M T C E g p)) QP 25 2 base w E je ec ve xe
  dis : Dis w.heap.size (O6 M T C E g p)
  dg : Blk w g 25 #[.int .i64 dl, .slice D dn dd]
  ds : SLK (fun b => Fr (O6 M T C E g p) b ∧ b < w.heap.size) w D dn dd ds
section
variable {g base : Nat} {p : Option Nat} {w w' : World} {M T C E : Option Addr} {rm rt jc je mc tc cc ec : Nat} {vm vt vc ve : List Value} {xm xt : List (List Po)} {xc xe : List Po} {D : Option Addr} {dn dd : Nat} {dl : Int} {ds : List Int}
theorem J4.to (h : J4 g base p w M T C E rm rt jc je mc tc cc ec vm vt vc ve xm xt xc xe D dn dd dl ds) (hb : Below w.heap.size w w') : J4 g base p w' M T C E rm rt jc je mc tc cc ec vm vt vc ve xm xt xc xe D dn dd dl ds :=
  ⟨h.bm.to QPs_ok hb, h.bt.to QPs_ok hb, h.bc.to QP_ok hb, h.be.to QP_ok hb, h.dis.up hb.size, h.dg.below hb h.dg.lt, (h.ds.keep ((SameK.below hb).mono fun b hb2 => hb2.2) hb.size).mono fun b hl hb2 => ⟨hb2.1, hl⟩⟩
theorem J4.stepC {vs : List Value} {C9 : Option Addr} {c9 k : Nat} (h : J4 g base p w M T C E rm rt jc je mc tc cc ec vm vt vc ve xm xt xc xe D dn dd dl ds) (happ : AppG 25 2 w base C k cc vs C9 c9 w') : Step (O6 M T C E g p) (O6 M T C9 E g p) w w' (ob C) := Step.app (i := 2) h.dis rfl happ
theorem J4.stepE {vs : List Value} {E9 : Option Addr} {c9 k : Nat} (h : J4 g base p w M T C E rm rt jc je mc tc cc ec vm vt vc ve xm xt xc xe D dn dd dl ds) (happ : AppG 25 2 w base E k ec vs E9 c9 w') : Step (O6 M T C E g p) (O6 M T C E9 g p) w w' (ob E) := Step.app (i := 3) h.dis rfl happ
theorem J4.stepT {vs : List Value} {T9 : Option Addr} {c9 k : Nat} (h : J4 g base p w M T C E rm rt jc je mc tc cc ec vm vt vc ve xm xt xc xe D dn dd dl ds) (happ : AppG 30 1 w base T k tc vs T9 c9 w') : Step (O6 M T C E g p) (O6 M T9 C E g p) w w' (ob T) := Step.app (i := 1) h.dis rfl happ
/-- A polynomial more in the row. -/
theorem J4.addC {us : List Value} {C9 : Option Addr} {c9 : Nat} {y : Po} (h : J4 g base p w M T C E rm rt jc je mc tc cc ec vm vt vc ve xm xt xc xe D dn dd dl ds) (hl : us.length = 2) (hy : QP (fun b => Fr (O6 M T C E g p) b ∧ b < w.heap.size) w us y)
    (happ : AppG 25 2 w base C (jc + 1) cc (vc ++ us) C9 c9 w') : J4 g base p w' M T C9 E rm rt (jc + 1) je mc tc c9 ec vm vt (vc ++ us) ve xm xt (xc ++ [y]) xe D dn dd dl ds := by
  have hs : Step (O6 M T C E g p) (O6 M T C9 E g p) w w' (ob C) := Step.app (i := 2) h.dis rfl happ
  exact ⟨h.bm.step QPs_ok hs (h.dis.ne (i := 2) (j := 0) rfl rfl (by decide)), h.bt.step QPs_ok hs (h.dis.ne (i := 2) (j := 1) rfl rfl (by decide)), h.bc.addS QP_ok hs rfl hl hy happ, h.be.step QP_ok hs (h.dis.ne (i := 2) (j := 3) rfl rfl (by decide)), hs.dis, hs.blk h.dg (h.dis.ne (i := 2) (j := 4) rfl rfl (by decide) g rfl), h.ds.step hs⟩
theorem J4.addE {us : List Value} {E9 : Option Addr} {c9 : Nat} {y : Po} (h : J4 g base p w M T C E rm rt jc je mc tc cc ec vm vt vc ve xm xt xc xe D dn dd dl ds) (hl : us.length = 2) (hy : QP (fun b => Fr (O6 M T C E g p) b ∧ b < w.heap.size) w us y)
    (happ : AppG 25 2 w base E (je + 1) ec (ve ++ us) E9 c9 w') : J4 g base p w' M T C E9 rm rt jc (je + 1) mc tc cc c9 vm vt vc (ve ++ us) xm xt xc (xe ++ [y]) D dn dd dl ds := by
  have hs : Step (O6 M T C E g p) (O6 M T C E9 g p) w w' (ob E) := Step.app (i := 3) h.dis rfl happ
  exact ⟨h.bm.step QPs_ok hs (h.dis.ne (i := 3) (j := 0) rfl rfl (by decide)), h.bt.step QPs_ok hs (h.dis.ne (i := 3) (j := 1) rfl rfl (by decide)), h.bc.step QP_ok hs (h.dis.ne (i := 3) (j := 2) rfl rfl (by decide)), h.be.addS QP_ok hs rfl hl hy happ, hs.dis, hs.blk h.dg (h.dis.ne (i := 3) (j := 4) rfl rfl (by decide) g rfl), h.ds.step hs⟩
theorem J4.stepM {vs : List Value} {M9 : Option Addr} {c9 k : Nat} (h : J4 g base p w M T C E rm rt jc je mc tc cc ec vm vt vc ve xm xt xc xe D dn dd dl ds) (happ : AppG 30 1 w base M k mc vs M9 c9 w') : Step (O6 M T C E g p) (O6 M9 T C E g p) w w' (ob M) := Step.app (i := 0) h.dis rfl happ
theorem J4.addM {us : List Value} {M9 : Option Addr} {c9 : Nat} {y : List Po} (h : J4 g base p w M T C E rm rt jc je mc tc cc ec vm vt vc ve xm xt xc xe D dn dd dl ds) (hl : us.length = 1) (hy : QS QP 2 (fun b => Fr (O6 M T C E g p) b ∧ b < w.heap.size) w us y)
    (happ : AppG 30 1 w base M (rm + 1) mc (vm ++ us) M9 c9 w') : J4 g base p w' M9 T C E (rm + 1) rt jc je c9 tc cc ec (vm ++ us) vt vc ve (xm ++ [y]) xt xc xe D dn dd dl ds := by
  have hs := h.stepM happ
  exact ⟨h.bm.addS QPs_ok hs rfl hl hy happ, h.bt.step QPs_ok hs (h.dis.ne (i := 0) (j := 1) rfl rfl (by decide)), h.bc.step QP_ok hs (h.dis.ne (i := 0) (j := 2) rfl rfl (by decide)), h.be.step QP_ok hs (h.dis.ne (i := 0) (j := 3) rfl rfl (by decide)), hs.dis, hs.blk h.dg (h.dis.ne (i := 0) (j := 4) rfl rfl (by decide) g rfl), h.ds.step hs⟩
theorem J4.addT {us : List Value} {T9 : Option Addr} {c9 : Nat} {y : List Po} (h : J4 g base p w M T C E rm rt jc je mc tc cc ec vm vt vc ve xm xt xc xe D dn dd dl ds) (hl : us.length = 1) (hy : QS QP 2 (fun b => Fr (O6 M T C E g p) b ∧ b < w.heap.size) w us y)
    (happ : AppG 30 1 w base T (rt + 1) tc (vt ++ us) T9 c9 w') : J4 g base p w' M T9 C E rm (rt + 1) jc je mc c9 cc ec vm (vt ++ us) vc ve xm (xt ++ [y]) xc xe D dn dd dl ds := by
  have hs : Step (O6 M T C E g p) (O6 M T9 C E g p) w w' (ob T) := Step.app (i := 1) h.dis rfl happ
  exact ⟨h.bm.step QPs_ok hs (h.dis.ne (i := 1) (j := 0) rfl rfl (by decide)), h.bt.addS QPs_ok hs rfl hl hy happ, h.bc.step QP_ok hs (h.dis.ne (i := 1) (j := 2) rfl rfl (by decide)), h.be.step QP_ok hs (h.dis.ne (i := 1) (j := 3) rfl rfl (by decide)), hs.dis, hs.blk h.dg (h.dis.ne (i := 1) (j := 4) rfl rfl (by decide) g rfl), h.ds.step hs⟩
/-- The diagonal's product is stored. -/
theorem J4.put {D9 : Option Addr} {n9 d9 : Nat} {l9 : Int} {s9 : List Int} (h : J4 g base p w M T C E rm rt jc je mc tc cc ec vm vt vc ve xm xt xc xe D dn dd dl ds) (hs9 : SLK (fun b => Fr (O6 M T C E g p) b ∧ b < w.heap.size) w D9 n9 d9 s9) :
    J4 g base p ((w.setCell ⟨g, 0, none⟩ (.int .i64 l9)).setCell ⟨g, 1, none⟩ (.slice D9 n9 d9)) M T C E rm rt jc je mc tc cc ec vm vt vc ve xm xt xc xe D9 n9 d9 l9 s9 := by
  have hs : Step (O6 M T C E g p) (O6 M T C E g p) w ((w.setCell ⟨g, 0, none⟩ (.int .i64 l9)).setCell ⟨g, 1, none⟩ (.slice D9 n9 d9)) (some g) := Step.put h.dis (by simp) ((grownBy_set1 w g 0 _).trans (grownBy_set1 _ g 1 _))
  refine ⟨h.bm.step QPs_ok hs (h.dis.ne (i := 4) (j := 0) rfl rfl (by decide)), h.bt.step QPs_ok hs (h.dis.ne (i := 4) (j := 1) rfl rfl (by decide)), h.bc.step QP_ok hs (h.dis.ne (i := 4) (j := 2) rfl rfl (by decide)), h.be.step QP_ok hs (h.dis.ne (i := 4) (j := 3) rfl rfl (by decide)), hs.dis, ?_, hs9.step hs⟩
  have h2 := (h.dg.set_ 0 (.int .i64 l9)).set_ 1 (.slice D9 n9 d9)
  simpa using h2
/-- The polynomial's block is written. -/
theorem J4.putP {q : Nat} (h : J4 g base (some q) w M T C E rm rt jc je mc tc cc ec vm vt vc ve xm xt xc xe D dn dd dl ds) (hgr : w.grownBy w' (some q)) : J4 g base (some q) w' M T C E rm rt jc je mc tc cc ec vm vt vc ve xm xt xc xe D dn dd dl ds := by
  have hs : Step (O6 M T C E g (some q)) (O6 M T C E g (some q)) w w' (some q) := Step.put h.dis (by simp) hgr
  exact ⟨h.bm.step QPs_ok hs (h.dis.ne (i := 5) (j := 0) rfl rfl (by decide)), h.bt.step QPs_ok hs (h.dis.ne (i := 5) (j := 1) rfl rfl (by decide)), h.bc.step QP_ok hs (h.dis.ne (i := 5) (j := 2) rfl rfl (by decide)), h.be.step QP_ok hs (h.dis.ne (i := 5) (j := 3) rfl rfl (by decide)), hs.dis, hs.blk h.dg (h.dis.ne (i := 5) (j := 4) rfl rfl (by decide) g rfl), h.ds.step hs⟩
/-- Another list of blocks. -/
theorem J4.re {O : List (Option Nat)} {p' : Option Nat} (h : J4 g base p w M T C E rm rt jc je mc tc cc ec vm vt vc ve xm xt xc xe D dn dd dl ds) (hf : ∀ b, b < w.heap.size → Fr (O6 M T C E g p) b → Fr (O6 M T C E g p') b) (hd : Dis w.heap.size (O6 M T C E g p')) : J4 g base p' w M T C E rm rt jc je mc tc cc ec vm vt vc ve xm xt xc xe D dn dd dl ds :=
  ⟨h.bm.relax QPs_ok hf, h.bt.relax QPs_ok hf, h.bc.relax QP_ok hf, h.be.relax QP_ok hf, hd, h.dg, h.ds.mono fun b hl hb => ⟨hf b hl hb.1, hl⟩⟩
theorem J4.newP (h : J4 g base p w M T C E rm rt jc je mc tc cc ec vm vt vc ve xm xt xc xe D dn dd dl ds) (o : Obj) : J4 g base (some w.heap.size) (w.alloc o) M T C E rm rt jc je mc tc cc ec vm vt vc ve xm xt xc xe D dn dd dl ds := by
  have hb : Below w.heap.size w (w.alloc o) := (Below.refl _ _).alloc (Nat.le_refl _) o
  have hd : Dis (w.alloc o).heap.size (O6 M T C E g (some w.heap.size)) := by
    rw [World.size_alloc]; exact h.dis.fresh (i := 5)
  have hf : ∀ b, b < w.heap.size → Fr (O6 M T C E g p) b → Fr (O6 M T C E g (some w.heap.size)) b := fun b hl hb => Fr.fresh (i := 5) hb hl
  have hsz := hb.size
  exact ⟨((h.bm.relax QPs_ok hf)).to QPs_ok hb, (h.bt.relax QPs_ok hf).to QPs_ok hb, (h.bc.relax QP_ok hf).to QP_ok hb, (h.be.relax QP_ok hf).to QP_ok hb, hd, h.dg.below hb h.dg.lt, (h.ds.keep ((SameK.below hb).mono fun b hb2 => hb2.2) hb.size).mono fun b hl hb2 => ⟨hf b hb2.2 hb2.1, hl⟩⟩
theorem J4.dropP (h : J4 g base p w M T C E rm rt jc je mc tc cc ec vm vt vc ve xm xt xc xe D dn dd dl ds) : J4 g base none w M T C E rm rt jc je mc tc cc ec vm vt vc ve xm xt xc xe D dn dd dl ds :=
  h.re (O := []) (fun b _ hb => Fr.drop (i := 5) hb) (Dis.drop (i := 5) h.dis)
/-- The rows are finished. -/
theorem J4.close (h : J4 g base p w M T C E rm rt jc je mc tc cc ec vm vt vc ve xm xt xc xe D dn dd dl ds) :
    J4 g base p w M T none none rm rt 0 0 mc tc 0 0 vm vt [] [] xm xt [] [] D dn dd dl ds ∧ RdS QP 2 (fun b => Fr (O6 M T none none g p) b ∧ b < w.heap.size) w C jc cc xc ∧ RdS QP 2 (fun b => Fr (O6 M T none none g p) b ∧ b < w.heap.size) w E je ec xe := by
  have hf : ∀ b, b < w.heap.size → Fr (O6 M T C E g p) b → Fr (O6 M T none none g p) b := fun b _ hb => Fr.drop (i := 3) (Fr.drop (i := 2) hb)
  have hd1 : Dis w.heap.size (O6 M T none E g p) := Dis.drop (i := 2) h.dis
  have hd2 : Dis w.heap.size (O6 M T C none g p) := Dis.drop (i := 3) h.dis
  have hd : Dis w.heap.size (O6 M T none none g p) := Dis.drop (i := 3) hd1
  refine ⟨⟨h.bm.relax QPs_ok hf, h.bt.relax QPs_ok hf, BldO.start _ _ _ _ _ _, BldO.start _ _ _ _ _ _, hd, h.dg, h.ds.mono fun b hl hb => ⟨hf b hl hb.1, hl⟩⟩, ?_, ?_⟩
  · refine h.bc.rdK QP_ok (by omega) (fun b hl hb => ⟨hf b hl hb, hl⟩) fun k hk => ?_
    have hk2 := hk
    rw [ob_own] at hk2
    exact ⟨Fr.dropped (i := 2) hd2 rfl hk2, (h.bc.own.lt k hk).2⟩
  · refine h.be.rdK QP_ok (by omega) (fun b hl hb => ⟨hf b hl hb, hl⟩) fun k hk => ?_
    have hk2 := hk
    rw [ob_own] at hk2
    exact ⟨Fr.dropped (i := 3) hd1 rfl hk2, (h.be.own.lt k hk).2⟩
end
theorem J4.start {w : World} {g base : Nat} {D : Option Addr} {dn dd : Nat} {dl : Int} {ds : List Int} (hg : Blk w g 25 #[.int .i64 dl, .slice D dn dd]) (hs : SL w D dn dd ds) (hne : ∀ ad, D = some ad → ad.block ≠ g) :
    J4 g base none w none none none none 0 0 0 0 0 0 0 0 [] [] [] [] [] [] [] [] D dn dd dl ds := by
  refine ⟨BldO.start _ _ _ _ _ _, BldO.start _ _ _ _ _ _, BldO.start _ _ _ _ _ _, BldO.start _ _ _ _ _ _, ⟨fun o ho k e => ?_, ?_⟩, hg, hs, fun hn ad e => ⟨fun o ho e2 => ?_, hs.inside hn ad e⟩⟩
  · simp [ob] at ho
    rcases ho with rfl | rfl | rfl
    · cases e
    · injection e with e; subst e; exact hg.lt
    · cases e
  · simp [ob]
  · simp [ob] at ho
    rcases ho with rfl | rfl | rfl
    · cases e2
    · injection e2 with e2; exact hne ad e e2.symm
    · cases e2
theorem grownBy_setRow (w : World) (g : Nat) (cs : Array Value) : w.grownBy (w.setRow g cs) (some g) := by
  have hs : w.heap.size ≤ (w.setRow g cs).heap.size := (Below.setRow_ (Below.refl 0 w) (Nat.zero_le g) cs).size
  have hb := Below.setRow_ (Below.refl 0 w) (Nat.zero_le g) cs
  exact ⟨hb.os, hb.tape, hb.output, hs, fun k _ hk => setRow_other w g k cs (fun e => hk (by rw [e]))⟩
theorem SL.cut0 {w : World} {A : Option Addr} {n c h : Nat} {xs : List Int} (ha : SL w A n c xs) (hh : h ≤ n) : SL w (cutA A 0 c) (h - 0) (c - 0) (xs.take h) := by
  have h1 := ha.il.cut (l := 0) (h := h) (by omega) hh ha.cap
  rw [List.drop_zero, Nat.sub_zero] at h1
  exact ⟨h1, fun e => cutA_none (fun e2 => by have := ha.nil e2; exact this) (by omega) hh e, by have := ha.cap; omega⟩
theorem cells_two {w : World} {g : Nat} {t : TypeId} {u v : Value} (h : Blk w g t #[u, v]) : ∀ j x, [u, v][j]? = some x → w.cell? ((⟨g, 0, none⟩ : Addr).add j) = some x := by
  intro j x hx
  have h0 := h.cell 0
  have h1 := h.cell 1
  simp at h0 h1
  rcases j with _ | _ | j
  · simp at hx; subst hx; simpa [Addr.add] using h0
  · simp at hx; subst hx; simpa [Addr.add] using h1
  · simp at hx
end Go.Proofs.Ytgmjighgncpefaa
/- slices.Clone of a slice of rows of polynomials. -/
namespace Go.Proofs.Ytgmjighgncpefaa
set_option linter.unusedVariables false
set_option linter.unusedSimpArgs false
open Go.RowKit

theorem prows_info : (Try.prog.info? 30).map (fun i => (i.zero, i.size, i.bytes)) = some (some (.slice none 0 0), 1, 24) := by kernel_rfl
theorem polys_info : (Try.prog.info? 25).map (fun i => (i.zero, i.size, i.bytes)) = some (some (.agg #[.int .i64 0, .slice none 0 0]), 2, 32) := by kernel_rfl
/-- The values are slices that read as the rows. -/
structure RowsP (w : World) (vs : List Value) (xss : List (List Po)) : Prop where
  len : vs.length = xss.length
  row : ∀ j, j < xss.length → ∃ B m d, vs[j]? = some (.slice B m d) ∧ SPo w B m d (xss.getD j [])
theorem RowsP.below {w w' : World} {vs : List Value} {xss : List (List Po)} (h : RowsP w vs xss) (hb : Below w.heap.size w w') : RowsP w' vs xss := ⟨h.len, fun j hj => by
  obtain ⟨B, m, d, h1, h2⟩ := h.row j hj
  exact ⟨B, m, d, h1, h2.below hb⟩⟩
theorem RowsP.set_ {w : World} {vs : List Value} {xss : List (List Po)} {j : Nat} {B : Option Addr} {m d : Nat} {r : List Po} (h : RowsP w vs xss) (hs : SPo w B m d r) : RowsP w (vs.set j (.slice B m d)) (xss.set j r) := by
  refine ⟨by simp [h.len], fun i hi => ?_⟩
  rw [List.length_set] at hi
  by_cases e : j = i
  · subst e
    refine ⟨B, m, d, by rw [List.getElem?_set_self (by rw [h.len]; exact hi)], ?_⟩
    have : (xss.set j r).getD j [] = r := by simp [List.getD, List.getElem?_set_self hi]
    rw [this]
    exact hs
  · obtain ⟨B', m', d', h1, h2⟩ := h.row i hi
    refine ⟨B', m', d', by rw [List.getElem?_set_ne e]; exact h1, ?_⟩
    have : (xss.set j r).getD i [] = xss.getD i [] := by simp [List.getD, List.getElem?_set_ne e]
    rw [this]
    exact h2
theorem OwnG.spp {e : TypeId} {w : World} {base n c : Nat} {A : Option Addr} {vs : List Value} {xss : List (List Po)} (h : OwnG e 1 w base A n c vs) (hr : RowsP w vs xss) : SPP w A n c xss := by
  have hl := h.len
  rw [Nat.mul_one] at hl
  refine ⟨by rw [← hr.len]; exact hl, by have := h.small; omega, h.nilcap.1, h.nilcap.2, fun hn => ?_⟩
  obtain ⟨g, rfl, _, hlt⟩ := h.form hn
  refine ⟨⟨g, 0, none⟩, rfl, hlt, fun j hj => ?_⟩
  obtain ⟨B, m, d, h1, h2⟩ := hr.row j (by rw [← hr.len]; omega)
  exact ⟨B, m, d, by rw [show (⟨g, 0, none⟩ : Addr).add j = ⟨g, j, none⟩ by unfold Addr.add; split <;> simp_all, h.cellAt (by omega), h1], h2⟩

set_option maxRecDepth 100000 in
set_option maxHeartbeats 1000000 in
theorem clonePP_any (A : Option Addr) (n c : Nat) (xss : List (List Po)) (w : World) (ha : SPP w A n c xss) (h0 : 0 < n) (hn : n ≤ 1000) :
    Calls Try.prog 16 #[.slice A n c] w fun e w' => ∃ g c' vs, e = .returned (.slice (some ⟨g, 0, none⟩) n c') ∧ OwnG 30 1 w' w.heap.size (some ⟨g, 0, none⟩) n c' vs ∧ RowsP w vs xss ∧ Below w.heap.size w w' := by
  obtain ⟨i0, hi0, hz0, hz1, hz2⟩ := info_parts prows_info
  obtain ⟨ad, rfl, hlt, hrow⟩ := ha.mem h0
  have hlen := ha.len
  obtain ⟨us, hus⟩ : ∃ us : List Value, us = (List.range n).map fun j => (w.cell? (ad.add j)).getD undef := ⟨_, rfl⟩
  have hul : us.length = n := by rw [hus]; simp
  have hug : ∀ j, j < n → us[j]? = w.cell? (ad.add j) := fun j hj => by
    obtain ⟨B, m, d, h1, _⟩ := hrow j hj
    rw [hus]
    simp [hj, h1]
  have HRS : Hid (RowsP w us xss) := hide ⟨by rw [hul, hlen], fun j hj => by
    obtain ⟨B, m, d, h1, h2⟩ := hrow j (by omega)
    exact ⟨B, m, d, by rw [hug j (by omega), h1], h2⟩⟩
  have hone : ∀ u, u ∈ us → u.oneCell' = true := fun u hu => by
    obtain ⟨j, hj, rfl⟩ := List.getElem_of_mem hu
    obtain ⟨B, m, d, h1, _⟩ := hrow j (by omega)
    have h2 := hug j (by omega)
    rw [List.getElem?_eq_getElem hj, h1] at h2
    injection h2 with h2
    rw [h2]
    rfl
  have hl0 : OwnG 30 1 (w.alloc (.cells #[] 30)) w.heap.size (some ⟨w.heap.size, 0, none⟩) 0 0 [] := ⟨by
    have := World.ownsRow_lit (base := w.heap.size) (e := 30) (size := 1) w #[] 0 (Nat.le_refl _) (by unfold maxLen; omega) (by simp)
    simpa using this, by omega⟩
  have hu1 : ∀ j u, us[j]? = some u → (w.alloc (.cells #[] 30)).cell? (ad.add j) = some u := fun j u hu => by
    have hj : j < n := by have := (List.getElem?_eq_some_iff.1 hu).1; omega
    rw [((Below.refl w.heap.size w).alloc (Nat.le_refl _) (.cells #[] 30)).cell (p := ad.add j) (by rw [block_of_add]; exact hlt), ← hug j hj, hu]
  have hb1 : Below w.heap.size w (w.alloc (.cells #[] 30)) := (Below.refl _ _).alloc (Nat.le_refl _) _
  have hnil := fun (W : World) => Lib.run_eql_slice_nil (P := Try.prog) W 22 30 (some ad) n c 0 0 Try.underlying22
  have HU := hide hu1
  have HUL := hide hul
  have HONE := hide hone
  have HL0 := hide hl0
  clear ha hlt hrow hus hug hone hl0 hu1 hlen hul
  go_enter Try.func16, Try.ntmps16
  go_wp2_with (at_builtin; refine wpList_append_G _ rfl (.tmp 5) (.tmp 6) 22 rfl w.heap.size 30 i0 (.slice none 0 0) 1 24 Try.underlying22 hi0 hz0 hz1 hz2 rfl (by omega) (by omega) (some ⟨w.heap.size, 0, none⟩) 0 0 [] rfl HL0.out ad n c us (by rw [HUL.out, Nat.mul_one]) rfl HU.out HONE.out (by omega) (by simp) ?_; intro A9 c9 w9 happ)
  go_ret
  have ho := happ.own
  rw [List.nil_append, Nat.zero_add] at ho
  obtain ⟨g, hg, _, _⟩ := ho.form h0
  subst hg
  refine ⟨g, c9, us, by simp, ho, HRS.out, hb1.grown happ.grown (by simp) (fun g hg => by simp [Value.ownBlock] at hg; omega)⟩
end Go.Proofs.Ytgmjighgncpefaa
/- timbkeep1's mul, add, same and multiplied in drawn regions. -/
namespace Go.Proofs.Ytgmjighgncpefaa
set_option linter.unusedVariables false
set_option linter.unusedSimpArgs false
open Go.RowKit

theorem eMulK : ∀ args w, (callFunc 15 args).run Try.prog w = .ok (.enter 15 args) w := enters (fn := Try.f15) (by kernel_rfl) (by kernel_rfl) (by kernel_rfl)
theorem eAddK : ∀ args w, (callFunc 19 args).run Try.prog w = .ok (.enter 19 args) w := enters (fn := Try.f19) (by kernel_rfl) (by kernel_rfl) (by kernel_rfl)
theorem eSameK : ∀ args w, (callFunc 18 args).run Try.prog w = .ok (.enter 18 args) w := enters (fn := Try.f18) (by kernel_rfl) (by kernel_rfl) (by kernel_rfl)
theorem eMultK : ∀ args w, (callFunc 17 args).run Try.prog w = .ok (.enter 17 args) w := enters (fn := Try.f17) (by kernel_rfl) (by kernel_rfl) (by kernel_rfl)
/-- The product of two polynomials, as the laws reckon it. -/
theorem mul_c (F : PolyC) {x y z : LP} (hx : LP.Rt x) (hy : LP.Rt y) (hz : LP.Rt z) (e : x * y = z) (w : World) (A : Option Addr) (n c : Nat) (B : Option Addr) (m d : Nat) (ha : SL w A n c (LP.canon x).2) (hb : SL w B m d (LP.canon y).2) :
    Calls Try.prog 15 #[PV (LP.canon x).1 A n c, PV (LP.canon y).1 B m d] w (GivesP w (LP.canon z).1 (LP.canon z).2) := by
  subst e
  have h := mul_k F (LP.canon x).1 A n c (LP.canon x).2 (LP.canon y).1 B m d (LP.canon y).2 w ha hb hx.wf hy.wf
  rw [LP.mulR_canon hx hy hz] at h
  exact h
theorem add_c (F : PolyC) {x y z : LP} (hx : LP.Rt x) (hy : LP.Rt y) (hz : LP.Rt z) (e : x + y = z) (w : World) (A : Option Addr) (n c : Nat) (B : Option Addr) (m d : Nat) (ha : SL w A n c (LP.canon x).2) (hb : SL w B m d (LP.canon y).2) :
    Calls Try.prog 19 #[PV (LP.canon x).1 A n c, PV (LP.canon y).1 B m d] w (GivesP w (LP.canon z).1 (LP.canon z).2) := by
  subst e
  have h := add_k F (LP.canon x).1 A n c (LP.canon x).2 (LP.canon y).1 B m d (LP.canon y).2 w ha hb hx.wf hy.wf
  rw [LP.addR_canon hx hy hz] at h
  exact h
theorem same_c (z : LP) (w : World) (A : Option Addr) (n c : Nat) (B : Option Addr) (m d : Nat) (ha : SL w A n c (LP.canon z).2) (hb : SL w B m d (LP.canon z).2) :
    Calls Try.prog 18 #[PV (LP.canon z).1 A n c, PV (LP.canon z).1 B m d] w fun e w' => e = .returned (.bool true) ∧ Below w.heap.size w w' := by
  have h := same_k (LP.canon z).1 A n c (LP.canon z).2 (LP.canon z).1 B m d (LP.canon z).2 w ha hb
  rw [show (decide ((LP.canon z).1 = (LP.canon z).1) && eqB (LP.canon z).2 (LP.canon z).2) = true by rw [eqB_true rfl]; simp] at h
  exact h

theorem gives_eqlE {P : Program} {o : Oper} {a : Act} {w : World} {x y : Operand} {ty : TypeId} {m k : Int} {b : Bool} (ho : o.op = .binOp .eql 26 x y ty) (hx : a.eval x = .int .i64 m) (hy : a.eval y = .int .i64 k) (hz : (m == k) = b) : Gives P o a w (.bool b) := by
  subst hz
  unfold Gives execOp
  rw [ho]
  simp [hx, hy, eqGuard, binOp, Op.intCmp, Sem.run_bind, Result.andThen]
theorem gives_neqE {P : Program} {o : Oper} {a : Act} {w : World} {x y : Operand} {ty : TypeId} {m k : Int} {b : Bool} (ho : o.op = .binOp .neq 26 x y ty) (hx : a.eval x = .int .i64 m) (hy : a.eval y = .int .i64 k) (hz : (m != k) = b) : Gives P o a w (.bool b) := by
  subst hz
  unfold Gives execOp
  rw [ho]
  simp [hx, hy, eqGuard, binOp, Op.intCmp, Sem.run_bind, Result.andThen]
theorem gives_notE {P : Program} {o : Oper} {a : Act} {w : World} {x : Operand} {t : TypeId} {b c : Bool} (ho : o.op = .unOp .not t x) (hx : a.eval x = .bool b) (hc : (!b) = c) : Gives P o a w (.bool c) := by
  subst hc
  unfold Gives execOp
  rw [ho]
  simp [hx, Op.unary, Sem.run_bind, Result.andThen]
theorem gives_build {P : Program} {o : Oper} {a : Act} {w : World} {t : TypeId} {l : List (Nat × Operand)} {cells : Array Value} (vs : List (Nat × Value)) (ho : o.op = .build t l.toArray) (hv : (l.map fun (i, x) => (i, a.eval x)) = vs) (hb : P.built t vs = some cells) : Gives P o a w (.agg cells) := by
  subst hv
  unfold Gives execOp
  rw [ho]
  have e : ((l.toArray.map fun (i, x) => (i, a.eval x)).toList) = l.map fun (i, x) => (i, a.eval x) := by simp
  have := run_build (P := P) w t (l.toArray.map fun (i, x) => (i, a.eval x)) cells (by rw [e]; exact hb)
  simp only [Sem.run_bind, this, Result.andThen_ok, Sem.run_pure]
end Go.Proofs.Ytgmjighgncpefaa
