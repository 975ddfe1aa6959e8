/- timbref1.Planar's closure, all of it. -/
import Derived.Test.YthhcjnmlpojjeaaTlE2
namespace Go.Proofs.Ythhcjnmlpojjeaa
set_option linter.unusedVariables false
set_option linter.unusedSimpArgs false
open Go.RowKit

theorem ptT_pre (i : Nat) (q : Nat → List (List Nat)) (d : List Nat) (k : Nat) : ∃ r, ptT i q d d.length = ptT i q d k ++ r := by
  rw [ptT_all]
  unfold ptT
  conv => enter [1, r, 1, 3]; rw [← List.take_append_drop k d]
  exact ⟨_, parts_append i q _ _ 0⟩
theorem unset2 {D : List Nat} {i k a b : Nat} (hi : i < D.length) (hk : k < D.length) (h1 : D.getD i 0 = 0) (h2 : D.getD k 0 = 0) : ((((D.set i a).set k b).set i 0).set k 0) = D := by
  refine List.ext_getElem (by simp) fun j h3 h4 => ?_
  simp only [List.getElem_set]
  have e1 : D[i] = 0 := by simpa [List.getD, hi] using h1
  have e2 : D[k] = 0 := by simpa [List.getD, hk] using h2
  by_cases g1 : k = j
  · subst g1; simp [e2]
  · by_cases g2 : i = j
    · subst g2; simp [g1, e1]
    · simp [g1, g2]
theorem add_at (g i : Nat) : (⟨g, 0, none⟩ : Addr).add i = ⟨g, i, none⟩ := by unfold Addr.add; split <;> simp_all
theorem gives_idxG {P : Program} {o : Oper} {a : Act} {w : World} {t e : TypeId} {x y : Operand} {g k n c : Nat} {q : IntKind} (ho : o.op = .indexAddr t x y) (ht : P.underlying t = some (.slice e)) (he : ∀ w, (sizeOf e).run P w = .ok 1 w) (hx : a.eval x = .slice (some ⟨g, 0, none⟩) n c) (hy : a.eval y = .int q k) (hk : k < n) :
    Gives P o a w (.pointer (some ⟨g, k, none⟩)) := by
  have h := gives_indexA (w := w) ho ht he hx hy hk
  rwa [add_at] at h
theorem grown_set1 (w : World) (g i : Nat) (v : Value) : w.grownBy (w.setCell ⟨g, i, none⟩ v) (some g) := ⟨rfl, rfl, rfl, by simp [World.setCell], fun k _ hne => Below.heap_setCell w ⟨g, i, none⟩ v k (fun e => hne (by rw [e]))⟩
theorem ePlX : ∀ args w, (callFunc 51 args).run Try.prog w = .ok (.enter 51 args) w := enters (fn := Try.f51) (by kernel_rfl) (by kernel_rfl) (by kernel_rfl)
set_option maxRecDepth 100000 in
set_option maxHeartbeats 8000000 in
theorem planar1_any (w0 : World) (base bn bd bo bf g n N c : Nat) (hB : PnB w0.heap.size base bn bd bo bf g) (hN : 2 * n = N) (hn : n ≤ 1000) :
    ∀ (f : Nat) (D : List Nat) (os : List (List Nat)) (w : World), D.count 0 < 2 * f → os.length + ((Tl.fillN f D).filter (plF n)).length < 1000 →
      Pn w0 base bn bd bo bf g n N c (.func (.func 51) #[] #[.pointer (some ⟨bd, 0, none⟩), .pointer (some ⟨bn, 0, none⟩), .pointer (some ⟨bo, 0, none⟩), .pointer (some ⟨bf, 0, none⟩)]) D os w →
      Calls Try.prog 51 #[.pointer (some ⟨bd, 0, none⟩), .pointer (some ⟨bn, 0, none⟩), .pointer (some ⟨bo, 0, none⟩), .pointer (some ⟨bf, 0, none⟩)] w fun e w' => e = .returned (.tuple #[]) ∧ Pn w0 base bn bd bo bf g n N c (.func (.func 51) #[] #[.pointer (some ⟨bd, 0, none⟩), .pointer (some ⟨bn, 0, none⟩), .pointer (some ⟨bo, 0, none⟩), .pointer (some ⟨bf, 0, none⟩)]) D (os ++ (Tl.fillN f D).filter (plF n)) w' := by
  intro f
  induction f with
  | zero => intro D os w h; omega
  | succ f ih =>
    intro D os w hct hos hP
    cases ho : Tl.openN D 0 with
    | none =>
      rw [fill_none ho]
      have h := planar1_none w0 base bn bd bo bf g n N c _ hB hn D os w (by omega) ho hP
      refine h.mono ?_
      rintro e w1 ⟨rfl, h2⟩
      refine ⟨rfl, ?_⟩
      rw [List.filter_cons, List.filter_nil]
      exact h2
    | some i =>
      obtain ⟨_, hi, hi0, hlow⟩ := openN_some ho
      rw [Nat.sub_zero] at hi hi0 hlow
      have hF := fill_forced f ho
      obtain ⟨q, hq⟩ : ∃ q : Nat → List (List Nat), (fun k => Tl.fillN f ((D.set i (k + 1)).set k (i + 1))) = q := ⟨_, rfl⟩
      rw [hq] at hF
      rw [hF] at hos ⊢
      have hlN : D.length = N := by have := hP.own.len; rwa [toI_length] at this
      rw [hlN] at hi hos ⊢
      obtain ⟨ot, hot⟩ : ∃ ot, os ++ (ptT i q D N).filter (plF n) = ot := ⟨_, rfl⟩
      rw [hot]
      have HOT := hide hot
      have HIH := hide ih
      have HB := hide hB
      have HQ := hide hq
      have HLN := hide hlN
      have HI0 := hide hi0
      have HOS := hide hos
      have HCT := hide hct
      have HP := hide hP
      have HI := hide (indexI_some (some ⟨g, 0, none⟩) N c i (toI D) (-1) w hP.own.il hi (by rw [toI_getD (by omega)]; omega) (fun j hj => by rw [toI_getD (by omega)]; have := hlow j hj; omega))
      have hcd := hP.db.cell 0
      simp at hcd
      have hw2 : IntKind.i64.wrap (2 * (n : Int)) = (N : Int) := by rw [IntKind.wrap_i64]; omega
      have hwi : IntKind.i64.wrap ((i : Int) + 1) = ((i + 1 : Nat) : Int) := by rw [IntKind.wrap_i64]; omega
      have e1 := ePlX
      have hN2 : N ≤ 2000 := by omega
      clear hot ih hB hq hlN hi0 hos hct hP hF ho hlow hN hn
      go_enter Try.func51, Try.ntmps51
      go_wp2_with fail
      refine HI.out.mono ?_
      rintro e w1 ⟨rfl, hww⟩
      subst hww
      clear HI hcd
      go_wp2_with fail
      go_loopw [5] (fun kv wr => ∃ k : Nat, kv = .int .i64 k ∧ i + 1 ≤ k ∧ k ≤ N ∧ Pn w0 base bn bd bo bf g n N c (.func (.func 51) #[] #[.pointer (some ⟨bd, 0, none⟩), .pointer (some ⟨bn, 0, none⟩), .pointer (some ⟨bo, 0, none⟩), .pointer (some ⟨bf, 0, none⟩)]) D (os ++ (ptT i q D k).filter (plF n)) wr) (fun kv _ => N - (intOf kv).toNat)
      case atStart => exact ⟨i + 1, by go_num, Nat.le_refl _, by omega, by rw [ptT_low, List.filter_nil, List.append_nil]; exact HP.out⟩
      case round =>
        clear HP
        obtain ⟨k, rfl, hik, hkN, hP⟩ := hrel
        have hcn := hP.nb.cell 0
        have hcd := hP.db.cell 0
        simp at hcn hcd
        by_cases hlt : k < N
        · have hcl := hP.own.cell hlt
          have hkl : k < D.length := by rw [HLN.out]; exact hlt
          rw [toI_getD hkl] at hcl
          have hps := ptT_succ (q := q) hkl (show i < k by omega)
          have hkw : IntKind.i64.wrap ((k : Int) + 1) = ((k + 1 : Nat) : Int) := by rw [IntKind.wrap_i64]; omega
          by_cases hk0 : D.getD k 0 = 0
          · rw [hk0] at hcl
            rw [if_pos hk0] at hps
            rw [show (((0 : Nat) : Int) - 1) = -1 from rfl] at hcl
            have hil : i < D.length := by rw [HLN.out]; exact hi
            have hcount := zeros_set hil hkl (show i ≠ k by omega) HI0.out hk0 (show k + 1 ≠ 0 by omega) (show i + 1 ≠ 0 by omega)
            have hpre := ptT_pre i q D (k + 1)
            rw [HLN.out, hps] at hpre
            have HLEN : Hid ((os ++ (ptT i q D k).filter (plF n)).length + ((Tl.fillN f ((D.set i (k + 1)).set k (i + 1))).filter (plF n)).length < 1000) := hide (by
              have hqk : Tl.fillN f ((D.set i (k + 1)).set k (i + 1)) = q k := by rw [← HQ.out]
              rw [hqk]
              obtain ⟨r, hr⟩ := hpre
              have h1 := HOS.out
              rw [hr, List.filter_append, List.filter_append, List.length_append, List.length_append] at h1
              rw [List.length_append]
              omega)
            have HC2 : Hid (((D.set i (k + 1)).set k (i + 1)).count 0 < 2 * f) := hide (by have := HCT.out; omega)
            have HUN := hide (unset2 (a := k + 1) (b := i + 1) hil hkl HI0.out hk0)
            have HRES : Hid ((os ++ (ptT i q D k).filter (plF n)) ++ (Tl.fillN f ((D.set i (k + 1)).set k (i + 1))).filter (plF n) = os ++ (ptT i q D (k + 1)).filter (plF n)) := hide (by
              have hqk : Tl.fillN f ((D.set i (k + 1)).set k (i + 1)) = q k := by rw [← HQ.out]
              rw [hqk, hps, List.filter_append, List.append_assoc])
            have HPk := hide hP
            clear hps hpre hcount hk0 hP
            go_upto_region 8 with fail
            refine wp_region_noPanic ?_
            refine wp_region_held_drew (S := fun w' => wr.grownBy w' (some g)) (by kernel_rfl) (grownBy_of_below (Below.refl _ _).drew _) (fun hS => ?_)
            have HPd := hide (HPk.out.below (Below.refl wr.heap.size wr).drew)
            have hld : ∀ w', wr.grownBy w' (some g) → w'.cell? ⟨bd, 0, none⟩ = some (.slice (some ⟨g, 0, none⟩) N c) := fun w' hw' => by
              have h := (HPk.out.db.kept hw' HB.out.ng.2.1).cell 0
              simpa using h
            have HLD := hide hld
            clear hld
            refine wpAnyH_tk 0 (v := .slice (some ⟨g, 0, none⟩) N c) rfl (by kernel_rfl) (by kernel_rfl) (by kernel_rfl) (yi rfl fun w' hw' => gives_load1 rfl (by kernel_rfl) rfl (HLD.out w' hw')) hS ?_
            go_frame
            refine wpAnyH_tk 1 (v := .int .i64 i) rfl (by kernel_rfl) (by kernel_rfl) (by kernel_rfl) (yi rfl fun w' hw' => gives_move (.inl rfl) rfl) hS ?_
            go_frame
            refine wpAnyH_tk 2 (v := .slice (some ⟨g, 0, none⟩) N c) rfl (by kernel_rfl) (by kernel_rfl) (by kernel_rfl) (yi rfl fun w' hw' => gives_load1 rfl (by kernel_rfl) rfl (HLD.out w' hw')) hS ?_
            go_frame
            refine wpAnyH_tk 3 (v := .int .i64 k) rfl (by kernel_rfl) (by kernel_rfl) (by kernel_rfl) (yi rfl fun w' hw' => gives_move (.inl rfl) rfl) hS ?_
            go_frame
            refine wpAnyH_tk 4 (v := .int .i64 k) rfl (by kernel_rfl) (by kernel_rfl) (by kernel_rfl) (yi rfl fun w' hw' => gives_move (.inl rfl) rfl) hS ?_
            go_frame
            refine wpAnyH_tk 5 (v := .int .i64 i) rfl (by kernel_rfl) (by kernel_rfl) (by kernel_rfl) (yi rfl fun w' hw' => gives_move (.inl rfl) rfl) hS ?_
            go_frame
            refine wpAnyH_tk 6 (v := .pointer (some ⟨g, i, none⟩)) rfl (by kernel_rfl) (by kernel_rfl) (by kernel_rfl) (yi rfl fun w' hw' => gives_idxG rfl Try.underlying22 (fun w => by kernel_rfl) rfl rfl hi) hS ?_
            go_frame
            refine wpAnyH_1 7 rfl (by kernel_rfl) ?_
            refine wp_storeI rfl (by kernel_rfl) (by kernel_rfl) rfl rfl (HPd.out.own.cell hi) (HPd.out.own.frozen i) ?_
            have h1 := HPd.out.set_ HB.out i (k + 1)
            rw [show ((k + 1 : Nat) : Int) - 1 = (k : Int) by omega] at h1
            have hg1 := hS.trans (grown_set1 wr.drew g i (.int .i64 k))
            refine ⟨hg1, ?_⟩
            go_frame
            refine wpAnyH_tk 8 (v := .pointer (some ⟨g, k, none⟩)) rfl (by kernel_rfl) (by kernel_rfl) (by kernel_rfl) (yi rfl fun w' hw' => gives_idxG rfl Try.underlying22 (fun w => by kernel_rfl) rfl rfl hlt) hg1 ?_
            go_frame
            refine wpAnyH_1 9 rfl (by kernel_rfl) ?_
            refine wp_storeI rfl (by kernel_rfl) (by kernel_rfl) rfl rfl (h1.own.cell hlt) (h1.own.frozen k) ?_
            have h2 := h1.set_ HB.out k (i + 1)
            rw [show ((i + 1 : Nat) : Int) - 1 = (i : Int) by omega] at h2
            refine ⟨hg1.trans (grown_set1 _ g k _), ?_⟩
            go_frame
            refine wpAnyH_done (by kernel_rfl) (noPanic_mk ?_) _
            have HP2 := hide h2
            clear h1 h2 hg1 hS HLD HPd HPk hcn hcd hcl
            generalize (wr.drew.setCell ⟨g, i, none⟩ (.int .i64 k)).setCell ⟨g, k, none⟩ (.int .i64 i) = w2 at *
            have HR := hide (HIH.out _ _ w2 HC2.out HLEN.out HP2.out)
            rw [HRES.out] at HR
            have hcf := HP2.out.fb.cell 0
            simp at hcf
            go_wp2_with fail
            refine HR.out.mono ?_
            rintro e w3 ⟨rfl, hP3⟩
            have HP3 := hide hP3
            clear hP3 HR HP2 hcf HIH HLEN HC2 HRES
            go_upto_region 10 with fail
            refine wp_region_noPanic ?_
            refine wp_region_held_drew (S := fun w' => w3.grownBy w' (some g)) (by kernel_rfl) (grownBy_of_below (Below.refl _ _).drew _) (fun hS => ?_)
            have HPd := hide (HP3.out.below (Below.refl w3.heap.size w3).drew)
            have hld : ∀ w', w3.grownBy w' (some g) → w'.cell? ⟨bd, 0, none⟩ = some (.slice (some ⟨g, 0, none⟩) N c) := fun w' hw' => by
              have h := (HP3.out.db.kept hw' HB.out.ng.2.1).cell 0
              simpa using h
            have HLD := hide hld
            clear hld
            refine wpAnyH_tk 0 (v := .slice (some ⟨g, 0, none⟩) N c) rfl (by kernel_rfl) (by kernel_rfl) (by kernel_rfl) (yi rfl fun w' hw' => gives_load1 rfl (by kernel_rfl) rfl (HLD.out w' hw')) hS ?_
            go_frame
            refine wpAnyH_tk 1 (v := .int .i64 i) rfl (by kernel_rfl) (by kernel_rfl) (by kernel_rfl) (yi rfl fun w' hw' => gives_move (.inl rfl) rfl) hS ?_
            go_frame
            refine wpAnyH_tk 2 (v := .slice (some ⟨g, 0, none⟩) N c) rfl (by kernel_rfl) (by kernel_rfl) (by kernel_rfl) (yi rfl fun w' hw' => gives_load1 rfl (by kernel_rfl) rfl (HLD.out w' hw')) hS ?_
            go_frame
            refine wpAnyH_tk 3 (v := .int .i64 k) rfl (by kernel_rfl) (by kernel_rfl) (by kernel_rfl) (yi rfl fun w' hw' => gives_move (.inl rfl) rfl) hS ?_
            go_frame
            refine wpAnyH_tk 4 (v := .pointer (some ⟨g, i, none⟩)) rfl (by kernel_rfl) (by kernel_rfl) (by kernel_rfl) (yi rfl fun w' hw' => gives_idxG rfl Try.underlying22 (fun w => by kernel_rfl) rfl rfl hi) hS ?_
            go_frame
            refine wpAnyH_1 5 rfl (by kernel_rfl) ?_
            refine wp_storeI rfl (by kernel_rfl) (by kernel_rfl) rfl rfl (HPd.out.own.cell hi) (HPd.out.own.frozen i) ?_
            have h1 := HPd.out.set_ HB.out i 0
            rw [show ((0 : Nat) : Int) - 1 = -1 from rfl] at h1
            have hg1 := hS.trans (grown_set1 w3.drew g i (.int .i64 (-1)))
            refine ⟨hg1, ?_⟩
            go_frame
            refine wpAnyH_tk 6 (v := .pointer (some ⟨g, k, none⟩)) rfl (by kernel_rfl) (by kernel_rfl) (by kernel_rfl) (yi rfl fun w' hw' => gives_idxG rfl Try.underlying22 (fun w => by kernel_rfl) rfl rfl hlt) hg1 ?_
            go_frame
            refine wpAnyH_1 7 rfl (by kernel_rfl) ?_
            refine wp_storeI rfl (by kernel_rfl) (by kernel_rfl) rfl rfl (h1.own.cell hlt) (h1.own.frozen k) ?_
            have h2 := h1.set_ HB.out k 0
            rw [show ((0 : Nat) : Int) - 1 = -1 from rfl, HUN.out] at h2
            refine ⟨hg1.trans (grown_set1 _ g k _), ?_⟩
            go_frame
            refine wpAnyH_done (by kernel_rfl) (noPanic_mk ?_) _
            have HPN := hide h2
            clear h1 h2 hg1 hS HLD HPd HP3
            generalize (w3.drew.setCell ⟨g, i, none⟩ (.int .i64 (-1))).setCell ⟨g, k, none⟩ (.int .i64 (-1)) = w4 at *
            go_wp2_with fail
            go_roundw
            case rel => exact ⟨k + 1, by go_num, by omega, by omega, HPN.out⟩
            case measure => simp [intOf]; omega
          · rw [if_neg hk0, List.append_nil] at hps
            obtain ⟨y, hy⟩ : ∃ y, (D.getD k 0 : Int) - 1 = y := ⟨_, rfl⟩
            rw [hy] at hcl
            have hy0 : decide (y < 0) = false := decide_eq_false (by omega)
            have HPN : Hid (Pn w0 base bn bd bo bf g n N c (.func (.func 51) #[] #[.pointer (some ⟨bd, 0, none⟩), .pointer (some ⟨bn, 0, none⟩), .pointer (some ⟨bo, 0, none⟩), .pointer (some ⟨bf, 0, none⟩)]) D (os ++ (ptT i q D (k + 1)).filter (plF n)) wr) := hide (by rw [hps]; exact hP)
            clear hps hy hk0 hP
            go_wp2_with fail
            go_roundw
            case rel => exact ⟨k + 1, by go_num, by omega, by omega, HPN.out⟩
            case measure => simp [intOf]; omega
        · have hkE : k = N := by omega
          subst hkE
          rw [HOT.out] at hP
          have HPN := hide hP
          clear hP
          go_wp2_with fail
          go_returns
          exact ⟨rfl, HPN.out⟩
end Go.Proofs.Ythhcjnmlpojjeaa
