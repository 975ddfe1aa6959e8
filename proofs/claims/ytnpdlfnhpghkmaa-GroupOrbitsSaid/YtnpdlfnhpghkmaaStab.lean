/- permgroup.StabilizerOrder. -/
import Derived.Test.YtnpdlfnhpghkmaaOrbs
namespace Go.Proofs.Ytnpdlfnhpghkmaa
open Go.RowKit Go.Maps

theorem stabo_ok (A : Option Addr) (n l c x : Nat) (gl : List (List Nat)) (w : World) (hg : ILL w A l (zss gl)) (hn : n ≤ 9) (hl : gl.length ≤ 6) (hP : PMs n gl) (hx : x < n) (xs : List (List Nat)) (hxs : EnumG 9 (gl.map ext) xs) (os : List Nat) (hos : IsOrb n gl x os) :
    Calls Try.prog 18 #[.int .i64 n, .slice A l c, .int .i64 x] w fun e w' => ∃ s : Nat, xs.length = os.length * s ∧ s = (xs.filter fun p => decide (p.getD x 0 = x)).length ∧ e = .returned (.tuple #[.int .i64 s, .int .i64 0]) ∧ Below w.heap.size w w' := by
  have HX := hide hg
  have HF := hide (gf_ok hn hl hP)
  have HP := hide hP
  have HXS := hide hxs
  have HOS := hide hos
  have hwf : (Lit.int .i64 (n : Int)).wf = true := by
    simp [Lit.wf, IntKind.min, IntKind.max, IntKind.signed, IntKind.bits]
    omega
  have HWF := hide hwf
  clear hwf hg hP hxs hos
  go_enter Try.func18, Try.ntmps18
  go_wp2_with fail
  refine (gcheck_any A n l c (zss gl) w HX.out HWF.out).mono ?_
  rw [show gf n (zss gl) = 0 from HF.out]
  rintro e w1 ⟨rfl, hb1⟩
  have HX1 := hide (HX.out.below hb1)
  go_wp2_with fail
  refine (chainOf_any A l c n gl w1 HX1.out hn HP.out).mono ?_
  rintro e w2 ⟨ch, L, rfl, hm2, hok, hmem, hb2⟩
  have HE := hide (enum_chain hok hmem)
  have hb02 := hb1.trans (hb2.mono hb1.size)
  have HM2 := hide hm2
  have HLE : Hid ((enumS L 9).length ≤ 387420489) := by
    rw [← prodTo_nine]
    exact Nat.le_trans (prodTo_le L 9) (nine_pow 9 (by omega))
  clear hb1 hb2 hm2 hmem hok
  go_wp2_with fail
  refine (orderC_any ch L w2 HM2.out).mono ?_
  rintro e w3 ⟨rfl, hb3⟩
  have hb03 := hb02.trans (hb3.mono hb02.size)
  have HX3 := hide (HX.out.below hb03)
  clear hb02 hb3
  go_wp2_with fail
  refine (orbitOf_any A n l c x gl w3 HX3.out hn HP.out hx).mono ?_
  rintro e w4 ⟨os', B, m, d, hio, rfl, ho, hb4⟩
  have hb04 := hb03.trans (hb4.mono hb03.size)
  have hlen : (enumS L 9).length = xs.length := HE.out.unique HXS.out
  have hob : os' = os := hio.unique HOS.out
  have hstab := orb_stab hn HP.out HXS.out hx HOS.out
  have hm : m = os.length := by have := ho.len; rw [zs_length, hob] at this; exact this.symm
  have hmp : 0 < os.length := List.length_pos_of_mem ((HOS.out.mem x).2 (Orb.refl hx))
  obtain ⟨s, hs⟩ : ∃ s, (xs.filter fun p => decide (p.getD x 0 = x)).length = s := ⟨_, rfl⟩
  have HS := hide hs
  rw [hs] at hstab
  have hdiv0 : ((os.length * s : Nat) : Int) / (os.length : Int) = s := by
    rw [← Int.natCast_ediv, Nat.mul_div_cancel_left _ hmp]
  have HLE' := HLE.out
  rw [hlen, hstab] at HLE'
  have hsl : s ≤ 387420489 := Nat.le_trans (Nat.le_mul_of_pos_left s hmp) HLE'
  have hdiv : wrap64 (((os.length * s : Nat) : Int) / (os.length : Int)) = s := by
    rw [hdiv0]; exact (by unfold wrap64; omega)
  have HST := hide hstab
  rw [hlen, hstab]
  have hoss := ho.small
  obtain ⟨b, hb⟩ : ∃ b, os.length = b := ⟨_, rfl⟩
  have HD := hide hdiv
  obtain ⟨a, ha⟩ : ∃ a, os.length * s = a := ⟨_, rfl⟩
  have HA := hide ha
  rw [ha] at HLE' ⊢
  rw [hb] at hm hmp
  have HD2 : Hid (wrap64 ((a : Int) / (b : Int)) = s) := by rw [← ha, ← hb]; exact HD
  clear ho hio hob hlen hstab hdiv hdiv0 hs hb03 hb4 ha HD hb
  subst hm
  have hbb : ¬ ((m : Int) = 0) := by omega
  go_wp2
  go_ret2
  refine ⟨s, HST.out, HS.out.symm, ?_, hb04⟩
  show Ending.returned (Value.tuple #[.int .i64 (wrap64 ((a : Int) / (m : Int))), .int .i64 0]) = _
  rw [HD2.out]
end Go.Proofs.Ytnpdlfnhpghkmaa
