/- Package polymatrix: addProduct. -/
import Derived.Test.YtgmjighgncpefaaPmM
namespace Go.Proofs.Ytgmjighgncpefaa
set_option linter.unusedVariables false
set_option linter.unusedSimpArgs false
open Go.RowKit

set_option maxRecDepth 100000 in
set_option maxHeartbeats 4000000 in
theorem addP_any (base g n cp : Nat) (ss : List Int) (sg lo : Int) (A : Option Addr) (m c : Nat) (xs : List Int) (B : Option Addr) (l d : Nat) (ys : List Int) (w : World) (b : Int)
    (ho : OwnI w base (some ⟨g, 0, none⟩) n cp (ss.map wr64)) (ha : SL w A m c xs) (hb : SL w B l d (ys.map wr64)) (hs : sg = 1 ∨ sg = -1) (hx : ∀ x ∈ xs, x.natAbs ≤ 1000) (hlo1 : -20 ≤ lo) (hlo2 : lo ≤ 20) (hm : m ≤ 20) (hn : n = l + 59) (hl : l ≤ 100000)
    (hga : 0 < m → ∀ ad, A = some ad → ad.block ≠ g) (hgb : 0 < l → ∀ ad, B = some ad → ad.block ≠ g) :
    Calls Try.prog 35 #[.slice (some ⟨g, 0, none⟩) n cp, .int .i64 sg, PV lo A m c, .slice B l d] w fun e w' => e = .returned (.tuple #[]) ∧ ∃ ts : List Int, ts.length = n ∧ LP.of (b - 20) ts = LP.of (b - 20) ss + LP.term 0 sg * (LP.of lo xs * LP.of b ys) ∧ OwnI w' base (some ⟨g, 0, none⟩) n cp (ts.map wr64) ∧ Below g w w' := by
  have hgs : g < w.heap.size := (ho.lt g rfl).2
  have HLX := hide ha.il.len
  have HLY : Hid (ys.length = l) := hide (by have := hb.il.len; simpa using this)
  have HLS : Hid (ss.length = n) := hide (by have := ho.len; simpa using this)
  have hb0 : Below w.heap.size w (w.alloc (.cells #[.int .i64 lo, .slice A m c] 25)) := (Below.refl _ _).alloc (Nat.le_refl _) _
  have HW : Hid (Below g w (w.alloc (.cells #[.int .i64 lo, .slice A m c] 25))) := hide (hb0.mono (Nat.le_of_lt hgs))
  have HA := hide (ha.below hb0)
  have HB := hide (hb.below hb0)
  have HO := hide (ho.alloc (.cells #[.int .i64 lo, .slice A m c] 25))
  have B0 := hide (Blk.new w 25 #[.int .i64 lo, .slice A m c])
  have HX := hide hx
  have HSG := hide hs
  have HGA := hide hga
  have HGB := hide hgb
  have HE := hide (apS_end (LP.of (b - 20) ss) sg lo xs b ys)
  have HZ := hide (apS_zero (LP.of (b - 20) ss) sg lo xs b ys)
  have HST : Hid (∀ i k, k < ys.length → apS (LP.of (b - 20) ss) sg lo xs b ys i (k + 1) = apS (LP.of (b - 20) ss) sg lo xs b ys i k + LP.term (lo + i + (b + k)) (sg * xs.getD i 0 * ys.getD k 0)) := hide (fun i k hk => apS_step _ sg lo xs b i hk)
  have HRW : Hid (∀ i, i < xs.length → apS (LP.of (b - 20) ss) sg lo xs b ys i ys.length = apS (LP.of (b - 20) ss) sg lo xs b ys (i + 1) 0) := hide (fun i hi => apS_row _ sg lo b ys hi)
  have HSS : Hid (LP.of (b - 20) ss = LP.of (b - 20) ss) := hide rfl
  clear hs hx hga hgb ha hb ho hb0
  rw [HLX.out] at HE HRW
  rw [HLY.out] at HST HRW
  generalize hS : LP.of (b - 20) ss = S at *
  obtain ⟨bx, hbx⟩ : ∃ q, w.heap.size = q := ⟨_, rfl⟩
  have hbg : bx ≠ g := by omega
  obtain ⟨w0, hw0⟩ : ∃ x, w.alloc (.cells #[.int .i64 lo, .slice A m c] 25) = x := ⟨_, rfl⟩
  rw [hw0] at HW HA HB HO B0
  rw [hbx] at B0
  have hq0 := B0.out.cell 0
  have hq1 := B0.out.cell 1
  simp at hq0 hq1
  go_enter Try.func35, Try.ntmps35
  go_upto_region 1 with fail
  clear hw0 hbx hgs
  go_wp2_with fail
  clear hq0 hq1
  go_loopw [15] (fun iv wx => ∃ (i : Nat) (ts : List Int), i ≤ m ∧ iv = .int .i64 i ∧ Hid (ts.length = n ∧ LP.of (b - 20) ts = apS S sg lo xs b ys i 0) ∧ Hid (OwnI wx base (some ⟨g, 0, none⟩) n cp (ts.map wr64)) ∧ Hid (SL wx A m c xs) ∧ Hid (SL wx B l d (ys.map wr64)) ∧ Hid (Blk wx bx 25 #[.int .i64 lo, .slice A m c]) ∧ Hid (Below g w wx)) (fun iv _ => m - (intOf iv).toNat)
  case atStart => exact ⟨0, ss, Nat.zero_le _, rfl, hide ⟨HLS.out, hS.trans HZ.out.symm⟩, HO, HA, HB, B0, HW⟩
  case round =>
    clear HO HA HB B0 HW
    obtain ⟨i, ts, hi, rfl, HT, HO, HA, HB, B0, HW⟩ := hrel
    by_cases him : i < m
    · obtain ⟨ad, hA, hcl⟩ := HA.out.il.at_ him
      subst hA
      have HXB : Hid ((xs.getD i 0).natAbs ≤ 1000) := hide (HX.out _ (LP.getD_mem' (by rw [HLX.out]; exact him)))
      have HST2 := hide (HST.out i)
      have HRW2 := hide (HRW.out i him)
      obtain ⟨x, hx⟩ : ∃ x, xs.getD i 0 = x := ⟨_, rfl⟩
      rw [hx] at hcl HXB HST2
      clear hx
      have HIM := hide him
      rename World => wo
      have hi20 : i < 20 := by omega
      clear hi
      go_wp2_with fail
      clear hcl him
      go_loopw [22] (fun kv wx => ∃ (k : Nat) (ts : List Int), k ≤ l ∧ kv = .int .i64 k ∧ Hid (ts.length = n ∧ LP.of (b - 20) ts = apS S sg lo xs b ys i k) ∧ Hid (OwnI wx base (some ⟨g, 0, none⟩) n cp (ts.map wr64)) ∧ Hid (SL wx (some ad) m c xs) ∧ Hid (SL wx B l d (ys.map wr64)) ∧ Hid (Blk wx bx 25 #[.int .i64 lo, .slice (some ad) m c]) ∧ Hid (Below g w wx)) (fun kv _ => l - (intOf kv).toNat)
      case atStart => exact ⟨0, ts, Nat.zero_le _, rfl, HT, HO, HA, HB, B0, HW⟩
      case round =>
        clear HT HO HA HB B0 HW
        obtain ⟨k, ts, hk, rfl, HT, HO, HA, HB, B0, HW⟩ := hrel
        by_cases hkl : k < l
        · obtain ⟨bd, hB, hcl⟩ := HB.out.il.at_ hkl
          subst hB
          rw [getD_wr64] at hcl
          have HN := hide (HST2.out k hkl)
          have hz0 := B0.out.cell 0
          simp at hz0
          obtain ⟨j, hj⟩ : ∃ j : Nat, 20 + lo + i + k = (j : Int) := ⟨(20 + lo + i + k).toNat, by omega⟩
          have hjn : j < n := by omega
          have hje : lo + i + (b + k) = b - 20 + j := by omega
          rw [hje] at HN
          have hcell := HO.out.cell hjn
          have hfr := HO.out.frozen j
          rw [getD_wr64] at hcell
          have HTS := hide (LP.of_set (b := b - 20) (ys := ts) (j := j) (by rw [HT.out.1]; exact hjn))
          have h3 := wr64_step (ts.getD j 0) sg x (ys.getD k 0)
          obtain ⟨v, hv⟩ : ∃ v, wr64 (ts.getD j 0 + sg * x * ys.getD k 0) = v := ⟨_, rfl⟩
          rw [hv] at h3
          have HO2 := HO.out.set_ j v
          rw [← hv, set_wr64, hv] at HO2
          have HT2 : Hid ((ts.set j (ts.getD j 0 + sg * x * ys.getD k 0)).length = n ∧ LP.of (b - 20) (ts.set j (ts.getD j 0 + sg * x * ys.getD k 0)) = apS S sg lo xs b ys i (k + 1)) := hide ⟨by rw [List.length_set]; exact HT.out.1, by rw [HTS.out, HT.out.2, HN.out]⟩
          generalize ts.set j (ts.getD j 0 + sg * x * ys.getD k 0) = ts2 at *
          have h1 : IntKind.i64.wrap (sg * x) = sg * x := by
            have := HXB.out
            rw [IntKind.wrap_i64]
            rcases HSG.out with h | h <;> rw [h] <;> omega
          obtain ⟨z, hz⟩ : ∃ z, IntKind.i64.wrap (sg * x * wr64 (ys.getD k 0)) = z := ⟨_, rfl⟩
          rw [hz] at h3
          have HO3 := hide HO2
          have hne1 : ad.block ≠ g := HGA.out (by have := HIM.out; omega) ad rfl
          have hne2 : bd.block ≠ g := HGB.out (by omega) bd rfl
          have HA2 := hide (HA.out.setCell (b := g) (fun _ a e => by injection e with e; subst e; exact hne1) j (.int .i64 v))
          have HB2 := hide (HB.out.setCell (b := g) (fun _ a e => by injection e with e; subst e; exact hne2) j (.int .i64 v))
          have B2 := hide (B0.out.far (p := ⟨g, j, none⟩) hbg (.int .i64 v))
          have HW2 := hide (HW.out.setCell (p := ⟨g, j, none⟩) (Nat.le_refl _) (.int .i64 v))
          generalize wr64 (ys.getD k 0) = yv at *
          generalize wr64 (ts.getD j 0) = tv at *
          have HKL := hide hkl
          have hi1 : IntKind.i64.wrap (20 + lo + i + k) = (j : Int) := by rw [IntKind.wrap_i64]; omega
          clear HTS HN HT HO HA HB B0 HW hne1 hne2 hv hje HO2 hkl
          go_wp2_with fail
          have hkl := HKL.out
          go_roundw
          case rel => exact ⟨k + 1, ts2, by omega, by go_num, HT2, HO3, HA2, HB2, B2, HW2⟩
          case measure => simp [intOf]; omega
        · have hkn : k = l := by omega
          subst hkn
          have HT2 : Hid (ts.length = n ∧ LP.of (b - 20) ts = apS S sg lo xs b ys (i + 1) 0) := hide ⟨HT.out.1, HT.out.2.trans HRW2.out⟩
          have him := HIM.out
          clear HT
          go_wp2_with fail
          go_roundw
          case rel => exact ⟨i + 1, ts, by omega, by go_num, HT2, HO, HA, HB, B0, HW⟩
          case measure => simp [intOf]; omega
    · have hin : i = m := by omega
      subst hin
      go_wp2_with fail
      go_returns
      exact ⟨rfl, ts, HT.out.1, HT.out.2.trans HE.out, HO.out, HW.out⟩
end Go.Proofs.Ytgmjighgncpefaa
