/- timbref1.PermFault: a map of booleans. -/
import Derived.Test.YtnpdlfnhpghkmaaCheck
import Derived.Maps.OwnOps
import Derived.Maps.Views
namespace Go.Proofs.Ytnpdlfnhpghkmaa
set_option linter.unusedVariables false
set_option linter.unusedSimpArgs false
open Go.RowKit Go.Maps

theorem plainElem_bool_inv {H : Type} {P : Program} {e : TypeId} (he : P.underlying e = some .bool) {v : Value} {z : DataW H × List MemPlace} (h : plainElem P e v = some z) : ∃ x, v = .bool x ∧ z = (.lit (.bool x), []) := by
  unfold plainElem at h
  rw [he] at h
  cases v <;> simp at h
  obtain rfl := h
  exact ⟨_, rfl, rfl⟩

theorem wpList_lookup_own_bool {H : Type} {P : Program} (w : World) {ops : Array Oper} {rest : List Oper} {o : Oper} {a : Act} {Q : Exit → Act → World → Prop}
    (hg : o.guard = none) (m x : Operand) (t : TypeId) (hop : o.op = Op.lookup t m x false)
    (k e : TypeId) (K : Keyed P k) (ht : P.underlying t = some (.map k e)) (he : P.underlying e = some .bool) (hz : (zeroValue e).run P w = .ok (.bool false) w) (b n : Nat) (D : DataW H)
    (hm : a.eval m = .map (some b)) (hown : w.ownsMap P k (plainElem P e) b n D) (key : Value) (kl : Lit) (hx : a.eval x = key) (hkey : keyOf P k key = some kl)
    (hK : ∀ c : Bool, D.atKey kl (.lit (.bool false)) = .lit (.bool c) → wpList P ops Q rest (a.put o.dst (.bool c)) w) :
    wpList P ops Q (o :: rest) a w := by
  refine wpList_plain hg fun K' hK' => ?_
  obtain ⟨v, ps, hrun, hv⟩ := hown.lookup K ht hz (plainElem_bool he false) hkey
  obtain ⟨c, rfl, hc⟩ := plainElem_bool_inv he hv
  simp only [Prod.mk.injEq] at hc
  unfold Oper.wp
  simp [execOp, hop, hm, hx, hrun, Result.andThen]
  exact hK' _ _ (hK c hc.1)

theorem wf_small {x : Nat} (h : x < 9) : (Lit.int .i64 (x : Int)).wf = true := by
  simp [Lit.wf, IntKind.min, IntKind.max, IntKind.signed, IntKind.bits]
  omega
theorem key3 : Keyed Try.prog 3 := int_keyed Try.underlying3
theorem zero4 (w : World) : (zeroValue 4).run Try.prog w = .ok (.bool false) w := by kernel_rfl
theorem key_is (x : Int) : WideAt.IsKeyLit (.int .i64 x) := by
  simp [WideAt.IsKeyLit]

/-- The map 'seen': true for what lies in xs. -/
structure SeenM (w : World) (b n : Nat) (xs : List Int) : Prop where
  own : ∃ D : DataW Unit, w.ownsMap Try.prog 3 (plainElem Try.prog 4) b n D ∧ IsMap D ∧ ∀ x : Int, D.atKey (.int .i64 x) (.lit (.bool false)) = .lit (.bool (decide (x ∈ xs)))
theorem SeenM.made (w : World) : SeenM (w.alloc (.map #[] 0)) w.heap.size 0 [] := ⟨⟨.map [], World.ownsMap_made _ _ _ _, ⟨[], rfl⟩, fun x => by simp; rfl⟩⟩
theorem SeenM.step {D : DataW Unit} {xs : List Int} (hD : IsMap D) (h : ∀ x : Int, D.atKey (.int .i64 x) (.lit (.bool false)) = .lit (.bool (decide (x ∈ xs)))) (y : Int) :
    IsMap (D.put (.int .i64 y) (.lit (.bool true))) ∧ ∀ x : Int, (D.put (.int .i64 y) (.lit (.bool true))).atKey (.int .i64 x) (.lit (.bool false)) = .lit (.bool (decide (x ∈ xs ++ [y]))) := by
  refine ⟨?_, fun x => ?_⟩
  · obtain ⟨es, rfl⟩ := hD
    exact ⟨_, rfl⟩
  · by_cases e : x = y
    · subst e
      rw [atKey_put_same hD (key_is x)]
      simp
    · rw [atKey_put_other (by simpa using e), h x]
      simp [e]

set_option maxRecDepth 100000 in
set_option maxHeartbeats 1000000 in
theorem fault_any (A : Option Addr) (n c : Nat) (xs : List Int) (w : World) (ha : IL w A n xs) :
    Calls Try.prog 35 #[.slice A n c] w fun e w' => e = .returned (.int .i64 (pf xs)) ∧ Below w.heap.size w w' := by
  have hna := ha.small
  have HL := hide ha.len
  have hmm := @run_makeMap Try.prog
  by_cases h9 : 9 < n
  · have HE := hide (pf_big (xs := xs) (by have := HL.out; omega))
    clear ha
    go_enter Try.func35, Try.ntmps35
    go_wp2
    go_ret
    rw [HE.out]
    exact ⟨rfl, Below.refl _ _⟩
  · go_enter Try.func35, Try.ntmps35
    go_wp2
    go_loopw [12] (fun i wr => ∃ k : Nat, k ≤ n ∧ i = .int .i64 k ∧ Hid (pf xs = pfGo xs.length (xs.take k) (xs.drop k)) ∧ SeenM wr w.heap.size k (xs.take k) ∧ Below w.heap.size w wr) (fun i _ => n - (intOf i).toNat)
    case atStart => exact ⟨0, Nat.zero_le _, rfl, pf_small (by have := HL.out; omega), SeenM.made w, (Below.refl _ _).alloc (Nat.le_refl _) _⟩
    case round =>
      obtain ⟨k, hk, rfl, hpf, hseen, hnx⟩ := hrel
      have ha' := ha.below hnx
      by_cases hlt : k < n
      · obtain ⟨ad, rfl, hca⟩ := ha'.at_ hlt
        have HT := hide (take_snoc xs k (by have := HL.out; omega))
        have HP := hide (pf_step (xs := xs) (k := k) (by have := HL.out; omega))
        clear ha ha'
        generalize xs.getD k 0 = x at *
        by_cases h1 : x < 0
        · have HE : Hid (pf xs = 1) := by rw [hpf.out, HP.out, if_pos (.inl h1)]; exact rfl
          go_wp2
          go_ret
          rw [HE.out]
          exact ⟨rfl, hnx⟩
        · by_cases h2 : (n : Int) ≤ x
          · have HE : Hid (pf xs = 1) := by rw [hpf.out, HP.out, if_pos (.inr (by rw [HL.out]; exact h2))]; exact rfl
            go_wp2
            go_ret
            rw [HE.out]
            exact ⟨rfl, hnx⟩
          · obtain ⟨u, rfl⟩ : ∃ u : Nat, x = (u : Int) := ⟨x.toNat, by omega⟩
            have hu9 : u < 9 := by omega
            have hun : u < n := by omega
            obtain ⟨D, hown, hD, hat⟩ := hseen.own
            have HAT := hide (hat u)
            have HST := hide (SeenM.step hD hat u)
            have hkey : keyOf Try.prog 3 (.int .i64 (u : Int)) = some (.int .i64 (u : Int)) := keyOf_int_mk Try.underlying3 (wf_small hu9)
            have HKEY := hide hkey
            clear hkey hat hD hseen
            by_cases h3 : (u : Int) ∈ xs.take k
            · have HE : Hid (pf xs = 5) := by rw [hpf.out, HP.out, if_neg (by rw [HL.out]; omega), if_pos h3]; exact rfl
              have HC : Hid (∀ c : Bool, D.atKey (.int .i64 (u : Int)) (.lit (.bool false)) = .lit (.bool c) → c = true) := by
                intro c hc
                rw [HAT.out, decide_eq_true h3] at hc
                injection hc with hc
                injection hc with hc
                exact hc.symm
              clear h3
              go_wp2_with (at_lookup; refine wpList_lookup_own_bool _ rfl _ _ 82 rfl 3 4 key3 Try.underlying82 Try.underlying4 (zero4 _) w.heap.size k _ rfl hown _ _ rfl HKEY.out ?_; intro c hc; have hct := HC.out c hc; clear hc; subst hct)
              go_ret
              rw [HE.out]
              exact ⟨rfl, hnx⟩
            · have HE : Hid (pf xs = pfGo xs.length (xs.take (k + 1)) (xs.drop (k + 1))) := by rw [hpf.out, HP.out, if_neg (by rw [HL.out]; omega), if_neg h3]; exact rfl
              have HC : Hid (∀ c : Bool, D.atKey (.int .i64 (u : Int)) (.lit (.bool false)) = .lit (.bool c) → c = false) := by
                intro c hc
                rw [HAT.out, decide_eq_false h3] at hc
                injection hc with hc
                injection hc with hc
                exact hc.symm
              clear h3
              go_wp2_with (first | (at_lookup; refine wpList_lookup_own_bool _ rfl _ _ 82 rfl 3 4 key3 Try.underlying82 Try.underlying4 (zero4 _) w.heap.size k _ rfl hown _ _ rfl HKEY.out ?_; intro c hc; have hct := HC.out c hc; clear hc; subst hct) | (at_mapUpdate; refine wpList_mapUpdate_own _ rfl _ _ _ 82 rfl 3 4 key3 Try.underlying82 _ w.heap.size k _ rfl hown (by unfold maxLen; omega) _ _ _ rfl rfl HKEY.out _ [] (plainElem_bool Try.underlying4 true) ?_; intro w1 hown1 hgrow1))
              go_roundw
              case rel => exact ⟨k + 1, by omega, by go_num, HE, ⟨⟨_, hown1, HST.out.1, by rw [HT.out]; exact HST.out.2⟩⟩, hnx.grown hgrow1 hnx.size (fun j hj => by cases hj; exact Nat.le_refl _)⟩
              case measure => simp [intOf]; omega
      · have HE : Hid (pf xs = 0) := by rw [hpf.out, pf_end xs _ k (by rw [HL.out]; omega)]; exact rfl
        go_wp2
        go_ret
        rw [HE.out]
        exact ⟨rfl, hnx⟩
end Go.Proofs.Ytnpdlfnhpghkmaa
