/- permgroup: order, contains, Check, checkWith, Order, Contains. -/
import Derived.Test.YtnpdlfnhpghkmaaChain
import Derived.Test.YtnpdlfnhpghkmaaBase
namespace Go.Proofs.Ytnpdlfnhpghkmaa
open Go.RowKit Go.Maps

theorem run_index_ch (w : World) (c : Nat → Nat) (k : Nat) (hk : k < 9) : (Instr.index 64 (.agg (chA c)) (.int .i64 k)).run Try.prog w = .ok (.map (some (c k))) w := by
  have hg := chA_get c k hk
  simp [Instr.index, Sem.run_bind, asIntOf, run_underlying Try.underlying64 w, hk, size62, part, agg62, hg]
theorem wpList_index_ch {ops : Array Oper} {rest : List Oper} {op : Oper} {a : Act} {w : World} {Q : Exit → Act → World → Prop} (hgd : op.guard = none) (x y : Operand) (ho : op.op = .index 64 x y)
    (c : Nat → Nat) (k : Nat) (hk : k < 9) (hx : a.eval x = .agg (chA c)) (hy : a.eval y = .int .i64 k)
    (h : wpList Try.prog ops Q rest (a.put op.dst (.map (some (c k)))) w) : wpList Try.prog ops Q (op :: rest) a w :=
  wpList_plain hgd fun _ hK => by
    unfold Oper.wp execOp
    simp only [ho, hx, hy, run_index_ch w c k hk, Sem.run_bind, Result.andThen_ok]
    exact hK _ _ h
theorem nine_pow : ∀ k, k ≤ 9 → 9 ^ k ≤ 387420489 := by
  intro k hk
  exact Nat.pow_le_pow_right (by omega) hk

set_option maxRecDepth 100000 in
set_option maxHeartbeats 1000000 in
theorem orderC_any (c : Nat → Nat) (L : Lv) (w : World) (hc : ChM w c L) :
    Calls Try.prog 38 #[.agg (chA c)] w fun e w' => e = .returned (.int .i64 ((enumS L 9).length : Nat)) ∧ Below w.heap.size w w' := by
  have HC := hide hc
  clear hc
  have HB := hide (Blk.new w 64 (chA c))
  go_enter Try.func38, Try.ntmps38
  go_wp2_with ((with_reducible show wpList _ _ _ (Oper.mk _ (.load 64 _) _ _ _ _ :: _) _ _); refine wpList_load_row rfl 64 _ rfl _ rfl 64 (chA c) (0, 0) _ HB.out Try.underlying64 rfl (size64 c) ?_)
  have HM := hide (HC.out.below ((Below.refl _ _).alloc (Nat.le_refl _) (.cells (chA c) 64)))
  have hbw : Below w.heap.size w (w.alloc (.cells (chA c) 64)) := (Below.refl _ _).alloc (Nat.le_refl _) _
  generalize w.alloc (.cells (chA c) 64) = w1 at *
  go_loop [3, 7] (fun v i => ∃ k : Nat, k ≤ 9 ∧ i = .int .i64 k ∧ v = .int .i64 (prodTo L k : Nat)) (fun _ i => 9 - (intOf i).toNat)
  case atStart => exact ⟨0, by omega, rfl, rfl⟩
  case round =>
    obtain ⟨k, hk, rfl, rfl⟩ := hrel
    by_cases hlt : k < 9
    · have hp := prodTo_le L (k + 1)
      have h9 := nine_pow (k + 1) (by omega)
      have HF : Hid (((prodTo L (k + 1) : Nat) : Int) = (prodTo L k : Nat) * (cnt L k : Nat)) := by
        rw [prodTo]; exact Int.natCast_mul _ _
      have hp0 : (0 : Int) ≤ (prodTo L k : Nat) * (cnt L k : Nat) := by rw [← HF.out]; omega
      have hp1 : (prodTo L k : Nat) * (cnt L k : Nat) ≤ (387420489 : Int) := by rw [← HF.out]; omega
      have HD := hide (HM.out.dict k hlt)
      clear hp h9
      generalize prodTo L k = p at *
      generalize cnt L k = s at *
      go_wp2_with (first | ((with_reducible show wpList _ _ _ (Oper.mk _ (.index 64 _ _) _ _ _ _ :: _) _ _); refine wpList_index_ch rfl _ _ rfl c k hlt rfl rfl ?_) | (at_len; refine wpList_mlen _ rfl _ 62 rfl 5 69 Try.underlying62 _ _ _ rfl HD.out ?_))
      go_round
      case rel => exact ⟨k + 1, by omega, by go_num, by rw [HF.out]⟩
      case measure => simp [intOf]; omega
    · have HE : Hid (prodTo L k = (enumS L 9).length) := by
        rw [show k = 9 by omega]; exact prodTo_nine L
      rw [HE.out]
      clear HE
      go_wp2
      go_ret
      exact ⟨rfl, hbw⟩

set_option maxRecDepth 100000 in
set_option maxHeartbeats 2000000 in
theorem gcheck_any (A : Option Addr) (n : Int) (l c : Nat) (xss : List (List Int)) (w : World) (hx : ILL w A l xss) (hn : (Lit.int .i64 n).wf = true) :
    Calls Try.prog 12 #[.int .i64 n, .slice A l c] w fun e w' => e = .returned (.int .i64 (gf n xss)) ∧ Below w.heap.size w w' := by
  have HX := hide hx
  have HL := hide hx.len
  have hsm := hx.small
  clear hx
  by_cases h1 : n < 0
  · have HE : Hid (gf n xss = 1) := by unfold gf; rw [if_pos (.inl h1)]; exact rfl
    go_enter Try.func12, Try.ntmps12
    go_wp2
    go_ret
    rw [HE.out]
    exact ⟨rfl, Below.refl _ _⟩
  · by_cases h2 : 9 < n
    · have HE : Hid (gf n xss = 1) := by unfold gf; rw [if_pos (.inr h2)]; exact rfl
      go_enter Try.func12, Try.ntmps12
      go_wp2
      go_ret
      rw [HE.out]
      exact ⟨rfl, Below.refl _ _⟩
    · by_cases h3 : 6 < l
      · have HE : Hid (gf n xss = 2) := by unfold gf; rw [if_neg (by omega), if_pos (by rw [HL.out]; exact h3)]; exact rfl
        go_enter Try.func12, Try.ntmps12
        go_wp2
        go_ret
        rw [HE.out]
        exact ⟨rfl, Below.refl _ _⟩
      · have HE : Hid (gf n xss = gfGo n xss) := by unfold gf; rw [if_neg (by omega), if_neg (by rw [HL.out]; exact h3)]; exact rfl
        go_enter Try.func12, Try.ntmps12
        go_wp2
        go_loopw [19] (fun i wr => ∃ k : Nat, k ≤ l ∧ i = .int .i64 k ∧ Hid (gf n xss = gfGo n (xss.drop k)) ∧ Below w.heap.size w wr) (fun i _ => l - (intOf i).toNat)
        case atStart => exact ⟨0, Nat.zero_le _, rfl, by rw [HE.out, List.drop_zero]; exact rfl, Below.refl _ _⟩
        case round =>
          obtain ⟨k, hk, rfl, hgf, hnx⟩ := hrel
          by_cases hlt : k < l
          · have hD := gfGo_drop (n := n) (xss := xss) (k := k) (by rw [HL.out]; exact hlt)
            have HD := hide hD
            obtain ⟨ad, B, m, d, rfl, hcl, hil⟩ := (HX.out.below hnx).at_ hlt
            have HIL := hide hil
            have hlen := hil.len
            have HLEN := hide hlen
            have hm := hil.small
            clear hD hil hlen
            generalize xss.getD k [] = x at *
            by_cases hp : pf x = 0
            · have HP := hide hp
              clear hp
              go_wp2_with fail
              refine (check_any B m d x wr HIL.out).mono ?_
              rw [HP.out]
              rintro e w2 ⟨rfl, hb2⟩
              have hnx2 := hnx.trans (hb2.mono hnx.size)
              clear hnx hb2 hcl
              by_cases hmn : (m : Int) = n
              · have HN : Hid (gf n xss = gfGo n (xss.drop (k + 1))) := by rw [hgf.out, HD.out, if_neg (by simp [HP.out]), if_neg (by rw [HLEN.out]; simp [hmn])]; exact rfl
                have hmb : ((m : Int) != n) = false := by simp [hmn]
                clear hmn
                go_wp2
                go_roundw
                case rel => exact ⟨k + 1, by omega, by go_num, HN, hnx2⟩
                case measure => simp [intOf]; omega
              · have HN : Hid (gf n xss = 3) := by rw [hgf.out, HD.out, if_neg (by simp [HP.out]), if_pos (by rw [HLEN.out]; exact hmn)]; exact rfl
                have hmb : ((m : Int) != n) = true := by simpa using hmn
                clear hmn
                go_wp2
                go_ret
                rw [HN.out]
                exact ⟨rfl, hnx2⟩
            · have HP := hide hp
              have HN : Hid (gf n xss = pf x) := by rw [hgf.out, HD.out, if_pos (by simpa using hp)]; exact rfl
              have hpb : (pf x == 0) = false := by simpa using hp
              have hpb2 : (pf x != 0) = true := by simpa using hp
              clear hp
              go_wp2_with fail
              refine (check_any B m d x wr HIL.out).mono ?_
              generalize pf x = f at *
              rintro e w2 ⟨rfl, hb2⟩
              have hnx2 := hnx.trans (hb2.mono hnx.size)
              clear hnx hb2 hcl
              go_wp2
              go_ret
              rw [HN.out]
              exact ⟨rfl, hnx2⟩
          · have HN : Hid (gf n xss = 0) := by
              rw [hgf.out, List.drop_eq_nil_of_le (by rw [HL.out]; omega)]; exact rfl
            go_wp2
            go_ret
            rw [HN.out]
            exact ⟨rfl, hnx⟩

/-- Order, of generators that are right. -/
theorem gorder_ok (A : Option Addr) (m l c : Nat) (gl : List (List Nat)) (w : World) (hx : ILL w A l (zss gl)) (hm : m ≤ 9) (hl : gl.length ≤ 6) (hP : PMs m gl) :
    Calls Try.prog 13 #[.int .i64 m, .slice A l c] w fun e w' => ∃ xs, EnumG 9 (gl.map ext) xs ∧ xs.length ≤ 387420489 ∧ e = .returned (.tuple #[.int .i64 (xs.length : Nat), .int .i64 0]) ∧ Below w.heap.size w w' := by
  have HX := hide hx
  have HF := hide (gf_ok hm hl hP)
  have HP := hide hP
  clear hx hP
  have hwf : (Lit.int .i64 (m : Int)).wf = true := by
    simp [Lit.wf, IntKind.min, IntKind.max, IntKind.signed, IntKind.bits]
    omega
  have HWF := hide hwf
  clear hwf
  go_enter Try.func13, Try.ntmps13
  go_wp2_with fail
  refine (gcheck_any A m l c (zss gl) w HX.out HWF.out).mono ?_
  rw [show gf m (zss gl) = 0 from HF.out]
  rintro e w1 ⟨rfl, hb1⟩
  have HX1 := hide (HX.out.below hb1)
  go_wp2_with fail
  refine (chainOf_any A l c m gl w1 HX1.out hm HP.out).mono ?_
  rintro e w2 ⟨ch, L, rfl, hm2, hok, hmem, hb2⟩
  have HE := hide (enum_chain hok hmem)
  have hb02 := hb1.trans (hb2.mono hb1.size)
  have HM2 := hide hm2
  have HLE : Hid ((enumS L 9).length ≤ 387420489) := by
    rw [← prodTo_nine]
    exact Nat.le_trans (prodTo_le L 9) (nine_pow 9 (by omega))
  clear hb1 hb2 hm2 hmem hok
  go_wp2_with fail
  refine (orderC_any ch L w2 HM2.out).mono ?_
  rintro e w3 ⟨rfl, hb3⟩
  have hb03 := hb02.trans (hb3.mono hb02.size)
  clear hb02 hb3
  go_wp2
  go_ret2
  exact ⟨_, HE.out, HLE.out, rfl, hb03⟩
theorem gorder_err (A : Option Addr) (n : Int) (l c : Nat) (xss : List (List Int)) (w : World) (hx : ILL w A l xss) (hn : (Lit.int .i64 n).wf = true) (hf : gf n xss ≠ 0) :
    Calls Try.prog 13 #[.int .i64 n, .slice A l c] w fun e w' => e = .returned (.tuple #[.int .i64 0, .int .i64 (gf n xss)]) ∧ Below w.heap.size w w' := by
  have HX := hide hx
  have HWF := hide hn
  have hpb : (gf n xss == 0) = false := by simpa using hf
  have hpb2 : (gf n xss != 0) = true := by simpa using hf
  obtain ⟨f, hff⟩ : ∃ f, gf n xss = f := ⟨_, rfl⟩
  have HF := hide hff
  rw [hff] at hpb hpb2
  clear hx hn hf hff
  go_enter Try.func13, Try.ntmps13
  go_wp2_with fail
  refine (gcheck_any A n l c xss w HX.out HWF.out).mono ?_
  rw [HF.out]
  rintro e w1 ⟨rfl, hb1⟩
  go_wp2
  go_ret2
  rw [HF.out]
  exact ⟨rfl, hb1⟩
end Go.Proofs.Ytnpdlfnhpghkmaa
