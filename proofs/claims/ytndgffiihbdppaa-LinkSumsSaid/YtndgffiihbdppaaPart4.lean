/- Several texts in one. -/
import Derived.Test.YtndgffiihbdppaaPart3
import Derived.Test.YtndgffiihbdppaaBase1
import Derived.Test.YtndgffiihbdppaaPart1
import Derived.Maps.RangeWalk
import Derived.Maps.Keyed
import Derived.Test.YtndgffiihbdppaaPart2
/- Cycles. -/
namespace Go.Proofs.Ytndgffiihbdppaa
set_option linter.unusedVariables false
set_option linter.unusedSimpArgs false
open Go.RowKit

theorem slice_info : (Try.prog.info? 22).map (fun i => (i.zero, i.size, i.bytes)) = some (some (.slice none 0 0), 1, 24) := by kernel_rfl

/-- A slice of slices in new memory, and no error. -/
def GivesRows0 (w : World) (xss : List (List Int)) (e : Ending) (w' : World) : Prop :=
  ∃ A n c vs, e = .returned (.tuple #[.slice A n c, .int .i64 0]) ∧ OwnV w' w.heap.size A n c vs ∧ RowsI w' w.heap.size vs xss ∧ Below w.heap.size w w'

/-- What the loop over the elements knows. -/
structure CycSt (a : List Nat) (k : Nat) (w wr : World) (g6 : Nat) (A5 : Option Addr) (m c5 : Nat) (vs : List Value) (M : List Int) : Prop where
  own : OwnV wr w.heap.size A5 m c5 vs
  rows : RowsI wr w.heap.size vs ((cycsTo a k).map zs)
  seen : Blk wr g6 77 (seenA M)
  seenTo : SeenTo a k M
  below : Below w.heap.size w wr
  small : m ≤ k

/-- What the inner loop knows. -/
structure MarkSt (a : List Nat) (k : Nat) (w wr : World) (g6 : Nat) (A5 : Option Addr) (m c5 : Nat) (vs : List Value) (M : List Int) (A8 : Option Addr) (n8 c8 j : Nat) : Prop where
  own : OwnV wr w.heap.size A5 m c5 vs
  rows : RowsI wr w.heap.size vs ((cycsTo a k).map zs)
  seen : Blk wr g6 77 (seenA (M ++ zs ((cyc a k).take j)))
  below : Below w.heap.size w wr
  cyc : OwnI wr w.heap.size A8 n8 c8 (zs (cyc a k))

theorem cyc_start {a : List Nat} {k : Nat} {w wr w2 : World} {g6 : Nat} {A5 A8 : Option Addr} {m c5 n8 c8 : Nat} {vs : List Value} {M : List Int} (h : CycSt a k w wr g6 A5 m c5 vs M)
    (hown : OwnI w2 wr.heap.size A8 n8 c8 (zs (Go.Proofs.Ytndgffiihbdppaa.cyc a k))) (hb : Below wr.heap.size wr w2) : MarkSt a k w w2 g6 A5 m c5 vs M A8 n8 c8 0 :=
  ⟨h.own.keep (KeepT.below hb), h.rows.keep (KeepT.below hb), by simpa [zs] using h.seen.below hb h.seen.lt, h.below.trans (hb.mono h.below.size), hown.mono h.below.size⟩

theorem mark_step {a : List Nat} {k : Nat} {w wr : World} {g6 : Nat} {A5 A8 : Option Addr} {m c5 n8 c8 j x : Nat} {vs : List Value} {M : List Int} (h : MarkSt a k w wr g6 A5 m c5 vs M A8 n8 c8 j)
    (hj : j < n8) (hx : (Go.Proofs.Ytndgffiihbdppaa.cyc a k).getD j 0 = x) (hg : w.heap.size ≤ g6) : MarkSt a k w (wr.setCell ⟨g6, x, none⟩ (.bool true)) g6 A5 m c5 vs M A8 n8 c8 (j + 1) := by
  have hl := h.cyc.len
  rw [zs_length] at hl
  refine ⟨h.own.keep (KeepT.set_ h.seen (by decide) _ _), h.rows.keep (KeepT.set_ h.seen (by decide) _ _), ?_, h.below.setCell hg _, (KeepT.set_ h.seen (by decide) _ _).ownI h.cyc⟩
  have e : M ++ zs ((Go.Proofs.Ytndgffiihbdppaa.cyc a k).take (j + 1)) = M ++ zs ((Go.Proofs.Ytndgffiihbdppaa.cyc a k).take j) ++ [(x : Int)] := by
    rw [List.take_succ_eq_append_getElem (by omega), ← getD_eq (by omega), hx, List.append_assoc]
    simp [zs]
  rw [e, ← seenA_set]
  exact h.seen.set_ _ _

theorem mark_end {a : List Nat} {k : Nat} {w wr : World} {g6 : Nat} {A5 A8 : Option Addr} {m c5 n8 c8 : Nat} {vs : List Value} {M : List Int} (h : MarkSt a k w wr g6 A5 m c5 vs M A8 n8 c8 n8)
    (hM : SeenTo a k M) (hm : m ≤ k) (hp : ¬ 1 < n8) : CycSt a (k + 1) w wr g6 A5 m c5 vs (M ++ zs (Go.Proofs.Ytndgffiihbdppaa.cyc a k)) := by
  have hl := h.cyc.len
  rw [zs_length] at hl
  have hs := h.seen
  rw [List.take_of_length_le (by omega)] at hs
  have e : cycsTo a (k + 1) = cycsTo a k := by
    rw [cyc_length] at hl
    rw [cycsTo_succ, if_neg (by simp; omega), List.append_nil]
  exact ⟨h.own, by rw [e]; exact h.rows, hs, seen_add hM, h.below, by omega⟩

theorem mark_add {a : List Nat} {k : Nat} {w wr w9 : World} {g6 : Nat} {A5 A8 A9 : Option Addr} {m c5 n8 c8 c9 : Nat} {vs : List Value} {M : List Int} (h : MarkSt a k w wr g6 A5 m c5 vs M A8 n8 c8 n8)
    (hM : SeenTo a k M) (hm : m ≤ k) (hp : 1 < n8) (hmin : isMin a k = true) (happ : AppendedV (wr.alloc (.cells #[.slice A8 n8 c8] 22)) w.heap.size A5 (m + 1) c5 (vs ++ [.slice A8 n8 c8]) A9 c9 w9) (hg6 : g6 < wr.heap.size) :
    CycSt a (k + 1) w w9 g6 A9 (m + 1) c9 (vs ++ [.slice A8 n8 c8]) (M ++ zs (Go.Proofs.Ytndgffiihbdppaa.cyc a k)) := by
  have hl := h.cyc.len
  rw [zs_length] at hl
  have hs := h.seen
  rw [List.take_of_length_le (by omega)] at hs
  have hblk : ∀ g, (Value.slice A5 (m + 1) c5).ownBlock = some g → w.heap.size ≤ g ∧ g < wr.heap.size ∧ ∃ (cs : Array Value), wr.heap[g]? = some (.cells cs 22 (0, 0)) := by
    intro g hg
    rw [ownBlock_len A5 (m + 1) m c5 c5] at hg
    obtain ⟨h1, h2⟩ := h.own.lt g hg
    refine ⟨h1, h2, ?_⟩
    rcases h.own.own.2 with ⟨hv, _⟩ | ⟨g', cap, cur, hv, _, hh, _⟩
    · rw [hv] at hg; cases hg
    · rw [hv] at hg
      injection hg with hg
      subst hg
      exact ⟨cur, hh⟩
  have k3 : KeepT 3 wr w9 := (KeepT.alloc wr _).trans (KeepT.grown happ.grown (fun g hg => by
    obtain ⟨_, h2, cs, h3⟩ := hblk g hg
    exact ⟨22, cs, (Below.heap_alloc wr _ g h2).trans h3, by decide⟩))
  have e : cycsTo a (k + 1) = cycsTo a k ++ [Go.Proofs.Ytndgffiihbdppaa.cyc a k] := by
    rw [cyc_length] at hl
    rw [cycsTo_succ, if_pos (by simp [hmin]; omega)]
  refine ⟨happ.own, ?_, ?_, seen_add hM, ?_, by omega⟩
  · rw [e, List.map_append]
    exact (h.rows.keep k3).snoc (k3.ownI h.cyc)
  · refine ((hs.alloc _).grown happ.grown ?_)
    intro he
    obtain ⟨_, _, cs, h3⟩ := hblk g6 he.symm
    unfold Blk at hs
    rw [h3] at hs
    injection hs with hs
    injection hs with _ hs
    exact absurd hs (by decide)
  · exact (h.below.alloc h.below.size _).grown happ.grown (Nat.le_trans h.below.size (by simp)) (fun g hg => (hblk g hg).1)

theorem cyc_skip {a : List Nat} (pa : isP a) {k : Nat} {w wr : World} {g6 : Nat} {A5 : Option Addr} {m c5 : Nat} {vs : List Value} {M : List Int} (h : CycSt a k w wr g6 A5 m c5 vs M) (hk : k < a.length) (hs : (k : Int) ∈ M) :
    CycSt a (k + 1) w wr g6 A5 m c5 vs M := by
  have hm := (seen_min pa hk h.seenTo).1 hs
  have e : cycsTo a (k + 1) = cycsTo a k := by
    rw [cycsTo_succ, if_neg (by simp [hm]), List.append_nil]
  exact ⟨h.own, by rw [e]; exact h.rows, h.seen, seen_skip pa hk h.seenTo hs, h.below, by have := h.small; omega⟩

set_option maxRecDepth 100000 in
set_option maxHeartbeats 2000000 in
theorem cycles_ok (A : Option Addr) (n c : Nat) (a : List Nat) (w : World) (ha : IL w A n (zs a)) (pa : isP a) (h9 : a.length ≤ 9) :
    Calls Try.prog 30 #[.slice A n c] w (GivesRows0 w ((cycs a).map zs)) := by
  obtain ⟨i0, hi0, hz0, hz1, hz2⟩ := info_parts slice_info
  have HA := hide (pa.pf h9)
  have HL : Hid (a.length = n) := by have := ha.len; rwa [zs_length] at this
  have hn9 : n ≤ 9 := by have := HL.out; omega
  have HP := hide pa
  clear pa h9
  go_enter Try.func30, Try.ntmps30
  go_wp2_with fail
  refine (check_any _ _ _ _ _ ha).mono ?_
  rw [HA.out]
  rintro e w1 ⟨rfl, hb1⟩
  have hsz1 := hb1.size
  go_wp2
  go_loopw [5, 18] (fun cv i wr => ∃ (k m c5 : Nat) (A5 : Option Addr) (vs : List Value) (M : List Int), i = .int .i64 k ∧ cv = .slice A5 m c5 ∧ k ≤ n ∧ CycSt a k w wr w1.heap.size A5 m c5 vs M) (fun _ i _ => n - (intOf i).toNat)
  case atStart => exact ⟨0, 0, 0, none, [], [], rfl, rfl, Nat.zero_le _, OwnV.nil_ _ _, RowsI.nil_ _ _, Blk.new _ _ _, (fun x => by simp), hb1.alloc hsz1 _, Nat.le_refl _⟩
  case round =>
    obtain ⟨k, m, c5, A5, vs, M, rfl, rfl, hk, hst⟩ := hrel
    have ha' := ha.below hst.below
    by_cases hlt : k < n
    · have hkl : k < a.length := by have := HL.out; omega
      have hcell := (hst.seen.cell k).trans (seenA_get M k (by omega))
      by_cases hs : (k : Int) ∈ M
      · have HS := hide (cyc_skip HP.out hst hkl hs)
        rw [decide_eq_true hs] at hcell
        clear hs hst ha' ha
        go_wp2
        go_roundw
        case rel => exact ⟨k + 1, m, c5, A5, vs, M, by go_num, rfl, by omega, HS.out⟩
        case measure => simp [intOf]; omega
      · have HM := hide hs
        rw [decide_eq_false hs] at hcell
        clear hs
        have HST := hide hst
        clear hst
        have HA' := hide ha
        clear ha
        go_wp2_with fail
        refine (cycleFrom_any _ _ _ _ _ _ ha' HP.out hlt).mono ?_
        rintro e w2 ⟨A8, n8, c8, rfl, hown8, hb2⟩
        have hn8 : n8 ≤ 9 := by
          have h1 := hown8.len
          rw [zs_length, cyc_length] at h1
          have h2 := (per_spec HP.out hkl).2.1
          have h3 := HL.out
          omega
        have hms := cyc_start HST.out hown8 hb2
        have hsmall := HST.out.small
        clear hown8 hb2 hcell ha'
        go_wp2
        go_loopw [29] (fun jv wr => ∃ j : Nat, jv = .int .i64 j ∧ j ≤ n8 ∧ MarkSt a k w wr w1.heap.size A5 m c5 vs M A8 n8 c8 j) (fun jv _ => n8 - (intOf jv).toNat)
        case atStart => exact ⟨0, rfl, Nat.zero_le _, hms⟩
        case round =>
          obtain ⟨j, rfl, hj, hmj⟩ := hrel
          clear hms
          have hil := hmj.cyc.il
          by_cases hjlt : j < n8
          · obtain ⟨ad8, rfl, hcx⟩ := hil.at_ hjlt
            rw [zs_getD] at hcx
            have hxl : (cyc a k).getD j 0 < 9 := by
              have h1 := hmj.cyc.len
              rw [zs_length] at h1
              have h2 := cyc_lt HP.out hkl (getD_mem (show j < (cyc a k).length by omega))
              have h3 := HL.out
              omega
            have hcs := (hmj.seen.cell ((cyc a k).getD j 0)).trans (seenA_get _ _ hxl)
            have hfs := hmj.seen.frozen ((cyc a k).getD j 0)
            have HN := hide (fun x hx => mark_step (x := x) hmj hjlt hx hsz1)
            clear hil hmj
            generalize hxe : (cyc a k).getD j 0 = x at *
            have HX := hide hxe
            clear hxe
            generalize decide ((x : Int) ∈ M ++ zs ((cyc a k).take j)) = b0 at *
            go_wp2
            go_roundw
            case rel => exact ⟨j + 1, by go_num, by omega, HN.out x rfl⟩
            case measure => simp [intOf]; omega
          · have hjn : j = n8 := by omega
            subst hjn
            have hg6 : w1.heap.size < wr.heap.size := hmj.seen.lt
            by_cases h1 : 1 < j
            · have HN := hide (fun A9 c9 w9 happ => mark_add (A9 := A9) (c9 := c9) (w9 := w9) hmj HST.out.seenTo HST.out.small h1 (by
                have := seen_min HP.out hkl HST.out.seenTo
                cases hm : isMin a k
                · exact absurd (this.2 hm) HM.out
                · rfl) happ hg6)
              have hszr := hmj.below.size
              have hown := hmj.own
              have HMJ := hide hmj
              clear hmj hil
              go_wp2_with (at_builtin; refine wpList_append_val _ rfl (.tmp 39) (.tmp 41) 23 rfl w.heap.size i0 Try.underlying23 hi0 hz0 hz1 hz2 A5 m c5 vs rfl (hown.alloc _) ⟨_, 0, none⟩ 1 (.slice A8 j c8) rfl (by simp [World.cell?_alloc_new]) rfl (by omega) (Nat.le_trans hszr (by simp)) ?_; intro A9 c9 w9 happ)
              have hst9 := HN.out A9 c9 w9 happ
              clear happ hown
              go_roundw
              case rel => exact ⟨k + 1, m + 1, c9, A9, _, _, by go_num, rfl, by omega, hst9⟩
              case measure => simp [intOf]; omega
            · have HN := hide (mark_end hmj HST.out.seenTo HST.out.small h1)
              clear hmj hil
              go_wp2
              go_roundw
              case rel => exact ⟨k + 1, m, c5, A5, vs, _, by go_num, rfl, by omega, HN.out⟩
              case measure => simp [intOf]; omega
    · have hkn : k = n := by omega
      have HE : Hid (cycsTo a k = cycs a) := by
        unfold cycs
        rw [hkn, HL.out]
        exact rfl
      go_wp2
      go_ret2
      refine ⟨_, _, _, vs, rfl, hst.own, ?_, hst.below⟩
      have := hst.rows
      rw [HE.out] at this
      exact this
end Go.Proofs.Ytndgffiihbdppaa
/- timbmake.Strands for any greatest number; slices.Concat of two slices. -/
namespace Go.Proofs.Ytndgffiihbdppaa
set_option linter.unusedVariables false
set_option linter.unusedSimpArgs false
open Go.RowKit

set_option maxRecDepth 100000 in
theorem strands_gen (n : Int) (K : Nat) (kz : Int) (hkz : kz = (K : Int) + 1) (h1 : 1 ≤ K) (hK : K ≤ 10) (w : World) : Calls Try.prog 15 #[.int .i64 n, .int .i64 kz] w fun e w' => ∃ T : Nat, 1 ≤ T ∧ T ≤ K ∧ e = .returned (.int .i64 ((T : Int) + 1)) ∧ w = w' := by
  subst hkz
  obtain ⟨p, hp⟩ : ∃ p : Nat, n % (K : Int) = (p : Int) := ⟨(n % (K : Int)).toNat, by have := Int.emod_nonneg n (show (K : Int) ≠ 0 by omega); omega⟩
  have hp5 : p < K := by have := Int.emod_lt_of_pos n (show (0 : Int) < (K : Int) by omega); omega
  have HP := hide hp
  have hadd : IntKind.i64.wrap (2 + (p : Int)) = ((p + 1 : Nat) : Int) + 1 := by rw [IntKind.wrap_i64]; omega
  have HA := hide hadd
  have hs1 : (K : Int) + 1 - 1 = (K : Int) := by omega
  have hs2 : IntKind.i64.wrap (K : Int) = (K : Int) := by rw [IntKind.wrap_i64]; omega
  clear hp hadd
  go_enter Try.func15, Try.ntmps15
  go_wp2_with fail
  refine (mbelow_any n K _ h1 (by omega)).mono ?_
  rintro e w1 ⟨rfl, hww⟩
  subst hww
  rw [HP.out]
  go_wp2_with ((with_reducible show wpList _ _ _ (Oper.mk _ (.binOp .add _ _ _) _ _ _ _ :: _) _ _); refine wpList_gives rfl (gives_add rfl rfl rfl HA.out) ?_)
  go_ret
  exact ⟨p + 1, by omega, by omega, by
    have e : IntKind.i64.wrap (2 + (p : Int)) = ((p + 1 : Nat) : Int) + 1 := HA.out
    first | rfl | (simp; omega) | (simp [e]; omega), rfl⟩
end Go.Proofs.Ytndgffiihbdppaa
/- Maps from integers to integers as lists of terms; a range over one, whatever its order. -/
namespace Go.Proofs.Ytndgffiihbdppaa
set_option linter.unusedVariables false
set_option linter.unusedSimpArgs false
open Go.RowKit Go.Maps

theorem keyI : Keyed Try.prog 3 := int_keyed Try.underlying3
theorem keyI_mk {x : Int} (h : (Lit.int .i64 x).wf = true) : keyOf Try.prog 3 (.int .i64 x) = some (.int .i64 x) := keyOf_int_mk Try.underlying3 h
theorem wfI {x : Int} (h : x.natAbs ≤ 4000000000000000000) : (Lit.int .i64 x).wf = true := by
  have h1 : IntKind.i64.min = -9223372036854775808 := by decide
  simp [Lit.wf, h1]
  omega
/-- The element at a key. -/
def lookT : List Tm → Int → Option Int
  | [], _ => none
  | (e, c) :: l, x => if e = x then some c else lookT l x
def lookV (o : List Tm) : Value → Option Value
  | .int .i64 x => (lookT o x).map (Value.int .i64)
  | _ => none
theorem lookT_of_mem : ∀ {o : List Tm} {x c : Int}, (o.map (·.1)).Nodup → (x, c) ∈ o → lookT o x = some c
  | (e, d) :: l, x, c, hn, h => by
    have hn' := List.nodup_cons.1 hn
    unfold lookT
    rcases List.mem_cons.1 h with h | h
    · injection h with h1 h2
      subst h1; subst h2
      rw [if_pos rfl]
    · have : e ≠ x := fun e' => hn'.1 (by rw [e']; exact List.mem_map.2 ⟨(x, c), h, rfl⟩)
      rw [if_neg this]
      exact lookT_of_mem hn'.2 h
theorem coefT_not {o : List Tm} {x : Int} (h : ∀ p ∈ o, p.1 ≠ x) : coefT o x = 0 := by
  induction o with
  | nil => rfl
  | cons p l ih =>
    show (if p.1 = x then p.2 else 0) + coefT l x = 0
    rw [if_neg (h p (by simp)), ih fun q hq => h q (by simp [hq])]
    rfl
theorem coefT_look : ∀ {o : List Tm} {x : Int}, (o.map (·.1)).Nodup → coefT o x = (lookT o x).getD 0
  | [], x, _ => rfl
  | (e, d) :: l, x, hn => by
    have hn' := List.nodup_cons.1 hn
    show (if e = x then d else 0) + coefT l x = _
    unfold lookT
    by_cases h : e = x
    · rw [if_pos h, if_pos h, coefT_not fun p hp e' => hn'.1 (by rw [h, ← e']; exact List.mem_map.2 ⟨p, hp, rfl⟩)]
      show d + 0 = d
      omega
    · rw [if_neg h, if_neg h, coefT_look hn'.2, Int.zero_add]
/-- v is put at x. -/
def putT : List Tm → Int → Int → List Tm
  | [], x, v => [(x, v)]
  | (e, c) :: l, x, v => if e = x then (x, v) :: l else (e, c) :: putT l x v
theorem putT_keys : ∀ (o : List Tm) (x v : Int), ∀ p ∈ putT o x v, p ∈ o ∨ p = (x, v)
  | [], x, v, p, h => .inr (by simpa [putT] using h)
  | (e, c) :: l, x, v, p, h => by
    unfold putT at h
    by_cases he : e = x
    · rw [if_pos he] at h
      rcases List.mem_cons.1 h with h | h
      · exact .inr h
      · exact .inl (List.mem_cons_of_mem _ h)
    · rw [if_neg he] at h
      rcases List.mem_cons.1 h with h | h
      · exact .inl (by rw [h]; exact List.mem_cons_self)
      · rcases putT_keys l x v p h with h | h
        · exact .inl (List.mem_cons_of_mem _ h)
        · exact .inr h
theorem putT_look : ∀ (o : List Tm) (x v y : Int), lookT (putT o x v) y = if y = x then some v else lookT o y
  | [], x, v, y => by
    show (if x = y then some v else none) = if y = x then some v else none
    by_cases h : x = y
    · rw [if_pos h, if_pos h.symm]
    · rw [if_neg h, if_neg fun e => h e.symm]
  | (e, c) :: l, x, v, y => by
    unfold putT
    by_cases he : e = x
    · rw [if_pos he]
      show (if x = y then some v else lookT l y) = if y = x then some v else if e = y then some c else lookT l y
      by_cases h : x = y
      · rw [if_pos h, if_pos h.symm]
      · rw [if_neg h, if_neg fun e' => h e'.symm, if_neg (by omega)]
    · rw [if_neg he]
      show (if e = y then some c else lookT (putT l x v) y) = if y = x then some v else if e = y then some c else lookT l y
      rw [putT_look l x v y]
      by_cases h : e = y
      · rw [if_pos h, if_pos h, if_neg (by omega)]
      · rw [if_neg h, if_neg h]
theorem putT_nodup : ∀ (o : List Tm) (x v : Int), (o.map (·.1)).Nodup → ((putT o x v).map (·.1)).Nodup
  | [], x, v, _ => by simp [putT]
  | (e, c) :: l, x, v, h => by
    have h' := List.nodup_cons.1 h
    unfold putT
    by_cases he : e = x
    · rw [if_pos he]
      subst he
      exact h
    · rw [if_neg he]
      refine List.nodup_cons.2 ⟨fun hm => ?_, putT_nodup l x v h'.2⟩
      obtain ⟨p, hp, e1⟩ := List.mem_map.1 hm
      rcases putT_keys l x v p hp with h1 | h1
      · exact h'.1 (by rw [← show p.1 = e from e1]; exact List.mem_map.2 ⟨p, h1, rfl⟩)
      · rw [h1] at e1
        exact he e1.symm
theorem putT_length : ∀ (o : List Tm) (x v : Int), (putT o x v).length = if (lookT o x).isSome then o.length else o.length + 1
  | [], x, v => rfl
  | (e, c) :: l, x, v => by
    unfold putT lookT
    by_cases he : e = x
    · rw [if_pos he, if_pos he]; rfl
    · rw [if_neg he, if_neg he]
      show (putT l x v).length + 1 = _
      rw [putT_length l x v]
      split <;> rfl
/-- Block b is a map with just the entries o. -/
structure MapI (w : World) (b : Nat) (o : List Tm) : Prop where
  dict : Dict Try.prog 3 w b o.length (lookV o)
  nodup : (o.map (·.1)).Nodup
section
variable {w w' : World} {b : Nat} {o : List Tm}
theorem MapI.lt (h : MapI w b o) : b < w.heap.size := h.dict.lt
theorem MapI.below (h : MapI w b o) (hb : Below w.heap.size w w') : MapI w' b o := ⟨h.dict.below hb, h.nodup⟩
theorem MapI.kept {row : Option Nat} (h : MapI w b o) (hg : w.grownBy w' row) (hne : some b ≠ row) : MapI w' b o := ⟨h.dict.kept hg hne, h.nodup⟩
theorem MapI.made (w : World) : MapI (w.alloc (.map #[] 0)) w.heap.size [] := ⟨(Dict.made w _ _).congr rfl fun key kl _ => by unfold lookV; split <;> rfl, List.nodup_nil⟩
theorem MapI.store (h : MapI w b o) {t : TypeId} (ht : Try.prog.underlying t = some (.map 3 3)) {x v : Int} (hx : (Lit.int .i64 x).wf = true) (hn : o.length < 1000000) :
    ∃ w', (Instr.mapUpdate t (.map (some b)) (.int .i64 x) (.int .i64 v)).run Try.prog w = .ok () w' ∧ MapI w' b (putT o x v) ∧ w.grownBy w' (some b) ∧ w'.heap.size = w.heap.size := by
  obtain ⟨w', h1, h2, h3, h4⟩ := h.dict.store keyI ht (by unfold maxLen; omega) (keyI_mk hx) (.int .i64 v) (f' := lookV (putT o x v)) (by
    show ((lookT (putT o x v) x).map _) = _
    rw [putT_look, if_pos rfl]; rfl) (fun y l hy hne => by
    obtain ⟨z, rfl, _, _⟩ := keyOf_int_inv Try.underlying3 hy
    show ((lookT (putT o x v) z).map _) = (lookT o z).map _
    rw [putT_look, if_neg fun e => hne (by rw [e])])
  refine ⟨w', h1, ⟨h2.congr ?_ fun _ _ _ => rfl, putT_nodup o x v h.nodup⟩, h3, h4⟩
  rw [putT_length]
  show (if ((lookT o x).map (Value.int .i64)).isSome = true then _ else _) = _
  rw [Option.isSome_map]
end

/-! ### a range -/
/-- A range over the map with entries T: done and rem(aining). -/
structure RangeI (w : World) (b r : Nat) (T done rem : List Tm) (cnt : Nat) : Prop where
  nodup : (T.map (·.1)).Nodup
  perm : (done ++ rem).Perm T
  run : ∃ (n : Nat) (D : DataW Value) (left : Lit → Bool), w.ranges Try.prog 3 HR b r n D left cnt ∧ (∀ p ∈ T, ∀ z, D.atKey (.int .i64 p.1) z = .held (.int .i64 p.2)) ∧ (∀ x : Int, (Lit.int .i64 x).wf = true → (left (.int .i64 x) = true ↔ ∃ c, (x, c) ∈ rem)) ∧ ∀ p ∈ T, (Lit.int .i64 p.1).wf = true
section
variable {w w' : World} {b r cnt : Nat} {T done rem : List Tm}
theorem RangeI.kept {row : Option Nat} (h : RangeI w b r T done rem cnt) (hg : w.grownBy w' row) (hb : some b ≠ row) (hr : some r ≠ row) : RangeI w' b r T done rem cnt := by
  obtain ⟨n, D, left, h1, h2⟩ := h.run
  exact ⟨h.nodup, h.perm, n, D, left, h1.kept hg hb hr, h2⟩
theorem RangeI.lt (h : RangeI w b r T done rem cnt) : r < w.heap.size := by
  obtain ⟨n, D, left, h1, _⟩ := h.run
  exact h1.lt
theorem RangeI.mem (h : RangeI w b r T done rem cnt) : ∀ p ∈ done, p ∈ T := fun p hp => h.perm.subset (List.mem_append_left _ hp)
end
section
variable (w : World) {ops : Array Oper} {rest : List Oper} {o : Oper} {a : Act} {Q : Exit → Act → World → Prop}
end
end Go.Proofs.Ytndgffiihbdppaa
/- timbkeep1.LinkSums, for packages link, braid and perm that answer as they should. (Written by tools/gen_lsum.py.) -/
namespace Go.Proofs.Ytndgffiihbdppaa
set_option linter.unusedVariables false
set_option linter.unusedSimpArgs false
open Go.RowKit

theorem expo_inv_ : ∀ w : List Int, LP.expo (invw w) = -LP.expo w
  | [] => rfl
  | x :: w => by
    have ih := expo_inv_ w
    unfold LP.expo wsum at ih ⊢
    have e : invw (x :: w) = invw w ++ [-x] := by simp [invw]
    rw [e, List.map_append, List.sum_append, ih, List.map_cons, List.sum_cons]
    simp only [List.map_cons, List.map_nil, List.sum_cons, List.sum_nil, Int.sign_neg]
    omega
set_option maxRecDepth 100000 in
set_option maxHeartbeats 8000000 in
theorem linkSums_any (FL : LinkC) (FB : BraidC) (nn : Int) (A : Option Addr) (n c : Nat) (us : List Int) (w : World) (ha : SL w A n c us) :
    Calls Try.prog 7 #[.int .i64 nn, .slice A n c] w fun e w' => e = .returned (.bool true) ∧ Below w.heap.size w w' := by
  have HLK := hide (linked_k FL)
  have HFL := hide FL
  have HFB := hide FB
  have HA := hide ha
  clear FL FB ha
  go_enter Try.func7, Try.ntmps7
  go_wp2_with fail
  refine (strands_gen nn 5 6 rfl (by omega) (by omega) w).mono ?_
  rintro e w0 ⟨T, hT1, hT5, rfl, hww⟩
  subst hww
  have hw1 : IntKind.i64.wrap (T : Int) = (T : Int) := by rw [IntKind.wrap_i64]; omega
  have hs1 : (T : Int) + 1 - 1 = (T : Int) := by omega
  go_wp2_with fail
  refine (word_any A T n c 30 us w HA.out.il HA.out.cap (by omega) (by omega) (by omega)).mono ?_
  rintro e w1 ⟨xs, X, xn, xc, rfl, ho, hx, hxn, hb⟩
  have hxl := ho.len
  have SX := hide ho.sl
  have HW := hide hb
  clear ho hb HA
  have hok : okB (T + 1) xs := fun x hx' => by have := hx x hx'; omega
  obtain ⟨N, hN⟩ : ∃ N, T + 1 = N := ⟨_, rfl⟩
  rw [hN] at hok
  have hTi : (T : Int) + 1 = (N : Int) := by omega
  rw [hTi]
  have hN2 : 2 ≤ N := by omega
  have hN6 : N ≤ 6 := by omega
  have HWM := hide (wfI (x := (N : Int)) (by omega))
  have hbf : bfault (N : Int) xs = 0 := bfault_ok (by omega) (by omega) (by omega) fun y hy => by have := hok y hy; omega
  have HBF := hide hbf
  have hl30 : xs.length ≤ 30 := by omega
  have hokI : okB N (invw xs) := fun y hy => by
    unfold invw at hy
    obtain ⟨z, hz, rfl⟩ := List.mem_map.1 (List.mem_reverse.1 (by simpa using hy))
    have := hok z hz
    omega
  have hlI : (invw xs).length ≤ 30 := by simp only [invw, List.length_reverse, List.length_map]; omega
  have hbfI : bfault (N : Int) (invw xs) = 0 := bfault_ok (by omega) (by omega) (by omega) fun y hy => by have := hokI y hy; omega
  have HIV : Hid (invB (N : Int) xs = invw xs) := hide (by unfold invB; rw [if_pos hbf])
  have HPE : Hid (permE (N : Int) xs = zs (endsL N xs)) := hide (by unfold permE; rw [if_pos hbf, Int.toNat_natCast])
  have HEX : Hid (expoB (N : Int) xs = LP.expo xs) := hide (by unfold expoB; rw [if_pos hbf])
  have HBFI := hide hbfI
  have HPA : Hid (isP (endsL N xs)) := hide (ends_isP hok)
  have HC1 : Hid (∀ (w : World) (A : Option Addr) (n c : Nat), SLL w A n c (lkM (N : Int) xs) → ∃ ad, A = some ad ∧ (prtL (endsL N xs)).length = n ∧ ∀ i, i < n → ∃ bd d, w.cell? (ad.add i) = some (.slice (some bd) n d) ∧ ∀ k, k < n → w.cell? (bd.add k) = some (.int .i64 (lkE N xs i k))) := hide fun w A n c h => lkM_cells h hbf hok (by omega)
  have HC2 : Hid (∀ (w : World) (A : Option Addr) (n c : Nat), SLL w A n c (lkM (N : Int) (invw xs)) → ∃ ad, A = some ad ∧ (prtL (endsL N (invw xs))).length = n ∧ ∀ i, i < n → ∃ bd d, w.cell? (ad.add i) = some (.slice (some bd) n d) ∧ ∀ k, k < n → w.cell? (bd.add k) = some (.int .i64 (lkE N (invw xs) i k))) := hide fun w A n c h => lkM_cells h hbfI hokI (by omega)
  have HT1 : Hid (sumTo (fun i => sumTo (lkE N xs i) (prtL (endsL N xs)).length) (prtL (endsL N xs)).length = LP.expo xs) := hide (by rw [← sqS_to]; exact lk_total hok)
  have HT2 : Hid (sumTo (fun i => sumTo (lkE N (invw xs) i) (prtL (endsL N (invw xs))).length) (prtL (endsL N (invw xs))).length = -LP.expo xs) := hide (by rw [← sqS_to, lk_total hokI, expo_inv_])
  have HD1 : Hid (∀ i k, -30 ≤ lkE N xs i k ∧ lkE N xs i k ≤ 30) := hide (lkE_bd hok hl30)
  have HD2 : Hid (∀ i k, -30 ≤ lkE N (invw xs) i k ∧ lkE N (invw xs) i k ≤ 30) := hide (lkE_bd hokI hlI)
  have HSY : Hid (∀ i k, lkE N xs i k = lkE N xs k i) := hide lkE_symm
  have HKL := hide (prt_le (n := N) xs)
  have HKL2 := hide (prt_le (n := N) (invw xs))
  have hex := LP.expo_le xs
  obtain ⟨f1, hf1⟩ : ∃ f, lkE N xs = f := ⟨_, rfl⟩
  obtain ⟨f2, hf2⟩ : ∃ f, lkE N (invw xs) = f := ⟨_, rfl⟩
  rw [hf1] at HC1 HT1 HD1 HSY
  rw [hf2] at HC2 HT2 HD2
  obtain ⟨ex, hexx⟩ : ∃ e, LP.expo xs = e := ⟨_, rfl⟩
  rw [hexx] at HEX HT1 HT2 hex
  have hex1 : -30 ≤ ex := by omega
  have hex2 : ex ≤ 30 := by omega
  have HLC : Hid (∀ (w : World) (A : Option Addr) (n c : Nat), SLL w A n c (lkL (N : Int) xs) → (prtL (endsL N xs)).length = n ∧ ∀ j, j < n → ∃ ad B d, A = some ad ∧ w.cell? (ad.add j) = some (.slice B (((prtL (endsL N xs)).map List.length).getD j 0) d) ∧ IL w B (((prtL (endsL N xs)).map List.length).getD j 0) (zs ((prtL (endsL N xs)).getD j []))) := hide fun w A n c h => lkL_cells h hbf
  clear hf1 hf2 hexx hex hxl hxn hx hokI hlI hbfI hbf hok hTi hT1 hT5 hN
  go_wp2_with fail
  refine (HFL.out.parts (N : Int) X xn xc xs _ SX.out HWM.out).mono ?_
  rintro e w11 ⟨L, ln, lc, rfl, hs, hb⟩
  replace HW := hide (HW.out.trans (hb.mono HW.out.size))
  replace SX := hide (SX.out.below hb)
  rw [HBF.out]
  have SLl := hide hs
  clear hb hs
  go_wp2_with fail
  refine (HFL.out.link (N : Int) X xn xc xs _ SX.out HWM.out).mono ?_
  rintro e w12 ⟨M, mn, mc, rfl, hs, hb⟩
  replace HW := hide (HW.out.trans (hb.mono HW.out.size))
  replace SX := hide (SX.out.below hb)
  replace SLl := hide (SLl.out.below hb)
  rw [HBF.out]
  have SLM := hide hs
  clear hb hs
  go_wp2_with fail
  refine (HFB.out.expo (N : Int) X xn xc xs _ SX.out HWM.out).mono ?_
  rintro e w13 ⟨rfl, hb⟩
  replace HW := hide (HW.out.trans (hb.mono HW.out.size))
  replace SX := hide (SX.out.below hb)
  replace SLl := hide (SLl.out.below hb)
  replace SLM := hide (SLM.out.below hb)
  rw [HBF.out, HEX.out]
  clear hb
  obtain ⟨ad, rfl, hmn, hcl⟩ := HC1.out _ _ _ _ SLM.out
  obtain ⟨hln, hlc⟩ := HLC.out _ _ _ _ SLl.out
  rw [hmn] at hln
  subst hln
  rw [hmn] at HT1 HKL
  have HCL := hide hcl
  have HMN := hide hmn
  have hK6 : mn ≤ 6 := by have := HKL.out; omega
  clear hcl hlc hmn HC1
  go_wp2_with fail
  go_loopw [12, 62] (fun sv iv wr => ∃ i : Nat, iv = .int .i64 i ∧ sv = .int .i64 (sumTo (fun i => sumTo (f1 i) mn) i) ∧ i ≤ mn ∧ w13 = wr) (fun _ iv _ => mn - (intOf iv).toNat)
  case atStart => exact ⟨0, by go_num, rfl, Nat.zero_le _, by trivial⟩
  case round =>
    obtain ⟨i, rfl, rfl, hiK, hww⟩ := hrel
    subst hww
    by_cases hlt : i < mn
    · obtain ⟨bd, d, hc, hr⟩ := HCL.out i hlt
      have HR := hide hr
      obtain ⟨S, hS⟩ : ∃ S, sumTo (fun i => sumTo (f1 i) mn) i = S := ⟨_, rfl⟩
      have hSb := sumTo_bd (f := fun i => sumTo (f1 i) mn) (b := 180) (fun j => by have h := sumTo_bd (f := f1 j) (b := 30) (HD1.out j) mn; show -180 ≤ sumTo (f1 j) mn ∧ sumTo (f1 j) mn ≤ 180; omega) i
      rw [hS] at hSb ⊢
      have hS1 : -1080 ≤ S := by omega
      have hS2 : S ≤ 1080 := by omega
      have HSO : Hid (sumTo (fun i => sumTo (f1 i) mn) (i + 1) = S + sumTo (f1 i) mn) := hide (by rw [← hS]; rfl)
      clear hS hSb hr
      go_wp2_with fail
      go_loopw [12, 69] (fun sv iv wr => ∃ k : Nat, iv = .int .i64 k ∧ sv = .int .i64 (S + sumTo (f1 i) k) ∧ k ≤ mn ∧ w13 = wr) (fun _ iv _ => mn - (intOf iv).toNat)
      case atStart => exact ⟨0, by go_num, by simp [sumTo], Nat.zero_le _, by trivial⟩
      case round =>
        obtain ⟨k, rfl, rfl, hkK, hww⟩ := hrel
        subst hww
        by_cases hk : k < mn
        · have hc2 := HR.out k hk
          obtain ⟨be, d2, hc3, hr3⟩ := HCL.out k hk
          have hc4 := hr3 i hlt
          rw [HSY.out k i] at hc4
          obtain ⟨y, hy⟩ : ∃ y, f1 i k = y := ⟨_, rfl⟩
          have hyb := HD1.out i k
          rw [hy] at hc2 hyb hc4
          obtain ⟨t, ht⟩ : ∃ t, S + sumTo (f1 i) k = t := ⟨_, rfl⟩
          have htb := sumTo_bd (f := f1 i) (b := 30) (HD1.out i) k
          have hw2 : IntKind.i64.wrap (t + y) = t + y := by rw [IntKind.wrap_i64]; omega
          have HS2 : Hid (S + sumTo (f1 i) (k + 1) = t + y) := hide (by rw [sumTo_succ, ← ht, hy]; omega)
          have hyy : (y != y) = false := by simp
          rw [ht]
          clear ht hy htb hyb hr3
          go_wp2_with fail
          go_roundw
          case rel => exact ⟨k + 1, by go_num, by rw [HS2.out], by omega, by trivial⟩
          case measure => simp [intOf]; omega
        · have hkk : sumTo (f1 i) k = sumTo (f1 i) mn := by rw [show k = mn by omega]
          rw [hkk]
          clear hkk
          go_wp2_with fail
          go_roundw
          case rel => exact ⟨i + 1, by go_num, by rw [HSO.out], by omega, by trivial⟩
          case measure => simp [intOf]; omega
    · have hii : sumTo (fun i => sumTo (f1 i) mn) i = ex := by rw [show i = mn by omega]; exact HT1.out
      rw [hii]
      clear hii
      obtain ⟨ls, hls⟩ : ∃ l, (prtL (endsL N xs)).map List.length = l := ⟨_, rfl⟩
      rw [hls] at HLC
      have hlsl : ls.length = mn := by rw [← hls, List.length_map]; exact HMN.out
      have HMANY : Hid (sumTo (fun j => ((ls.getD j 0 : Nat) : Int)) mn = (N : Int)) := hide (by
        rw [sumTo_take ls mn (by omega), List.take_of_length_le (by omega), ← hls, prt_many HPA.out, endsL_length])
      have HLONG : Hid (sumTo (fun j => if 1 < ls.getD j 0 then 1 else 0) mn = ((cycs (endsL N xs)).length : Int)) := hide (by
        rw [sumTo_count ls mn (by omega), List.take_of_length_le (by omega), ← hls, List.countP_map, ← prt_longer HPA.out]
        rfl)
      have HLE : Hid (∀ j, ls.getD j 0 ≤ N) := hide (fun j => by
        by_cases hj : j < (prtL (endsL N xs)).length
        · rw [← hls]
          simp only [List.getD, List.getElem?_map, List.getElem?_eq_getElem hj, Option.map_some, Option.getD_some]
          obtain ⟨i, hi, e⟩ := List.mem_map.1 (List.getElem_mem hj)
          rw [← e]
          refine Nat.le_trans (List.length_filter_le _ _) ?_
          rw [List.length_range, endsL_length]
          exact Nat.le_refl _
        · rw [List.getD, List.getElem?_eq_none (by rw [hlsl]; have := HMN.out; omega)]
          exact Nat.zero_le _)
      have HSRT : Hid (∀ j, j < mn → ∀ i, 0 < i → i < ls.getD j 0 → ¬ (zs ((prtL (endsL N xs)).getD j [])).getD i 0 < (zs ((prtL (endsL N xs)).getD j [])).getD (i - 1) 0) := hide (fun j hj => prt_row_sorted (by have := HMN.out; omega) (by rw [hls]))
      clear hls hlsl HCL HT1 HD1 HSY SLM HMN HKL
      go_wp2_with fail
      go_loopw [13, 97] (fun sv iv wr => ∃ j : Nat, iv = .int .i64 j ∧ sv = .int .i64 (sumTo (fun j => ((ls.getD j 0 : Nat) : Int)) j) ∧ j ≤ mn ∧ Hid (Below w13.heap.size w13 wr)) (fun _ iv _ => mn - (intOf iv).toNat)
      case atStart => exact ⟨0, by go_num, rfl, Nat.zero_le _, hide (Below.refl _ _)⟩
      case round =>
        obtain ⟨j, rfl, rfl, hjK, hnx⟩ := hrel
        by_cases hlt : j < mn
        · obtain ⟨ad2, B, d, e, hc, hil⟩ := (HLC.out _ _ _ _ (SLl.out.below hnx.out)).2 j hlt
          subst e
          have hso := HSRT.out j hlt
          have hq6 := HLE.out j
          obtain ⟨q, hq⟩ : ∃ q, ls.getD j 0 = q := ⟨_, rfl⟩
          have HS2 : Hid (sumTo (fun j => ((ls.getD j 0 : Nat) : Int)) (j + 1) = sumTo (fun j => ((ls.getD j 0 : Nat) : Int)) j + (q : Int)) := hide (by rw [← hq]; rfl)
          have hSb := sumTo_bd (f := fun j => ((ls.getD j 0 : Nat) : Int)) (b := 6) (fun j => by have := HLE.out j; show -6 ≤ ((ls.getD j 0 : Nat) : Int) ∧ ((ls.getD j 0 : Nat) : Int) ≤ 6; omega) j
          rw [hq] at hc hil hso hq6
          obtain ⟨S, hS⟩ : ∃ S, sumTo (fun j => ((ls.getD j 0 : Nat) : Int)) j = S := ⟨_, rfl⟩
          rw [hS] at HS2 hSb ⊢
          have hw2 : IntKind.i64.wrap (S + (q : Int)) = S + (q : Int) := by rw [IntKind.wrap_i64]; omega
          have HSD := hide (isSorted_yes B q d _ wr hil (fun i h1 h2 => by have := hso i h1 h2; omega))
          clear hS hSb hq hil hso
          go_wp2_with fail
          refine (HSD.out).mono ?_
          rintro e w20 ⟨rfl, hb⟩
          have HN := hide (hnx.out.trans (hb.mono hnx.out.size))
          clear hb HSD hc hnx
          go_wp2_with fail
          go_roundw
          case rel => exact ⟨j + 1, by go_num, by rw [HS2.out], by omega, HN⟩
          case measure => simp [intOf]; omega
        · have hjj : sumTo (fun j => ((ls.getD j 0 : Nat) : Int)) j = (N : Int) := by rw [show j = mn by omega]; exact HMANY.out
          rw [hjj]
          replace SLl := hide (SLl.out.below hnx.out)
          replace SX := hide (SX.out.below hnx.out)
          replace HW := hide (HW.out.trans (hnx.out.mono HW.out.size))
          clear hjj hnx HMANY HSRT
          go_wp2_with fail
          refine (HFB.out.inverse (N : Int) X xn xc xs _ SX.out HWM.out).mono ?_
          rintro e w31 ⟨V, vn, vc, rfl, hs, hb⟩
          replace HW := hide (HW.out.trans (hb.mono HW.out.size))
          replace SX := hide (SX.out.below hb)
          replace SLl := hide (SLl.out.below hb)
          rw [HIV.out] at hs
          rw [HBF.out]
          have SV := hide hs
          clear hb hs
          go_wp2_with fail
          refine (HFL.out.link (N : Int) V vn vc (invw xs) _ SV.out HWM.out).mono ?_
          rintro e w32 ⟨O, on, oc, rfl, hs, hb⟩
          replace HW := hide (HW.out.trans (hb.mono HW.out.size))
          replace SX := hide (SX.out.below hb)
          replace SLl := hide (SLl.out.below hb)
          replace SV := hide (SV.out.below hb)
          rw [HBFI.out]
          have SLO := hide hs
          clear hb hs
          go_wp2_with fail
          refine (HFB.out.perm (N : Int) X xn xc xs _ SX.out HWM.out).mono ?_
          rintro e w33 ⟨P, pn, pc, rfl, hs, hb⟩
          replace HW := hide (HW.out.trans (hb.mono HW.out.size))
          replace SX := hide (SX.out.below hb)
          replace SLl := hide (SLl.out.below hb)
          replace SV := hide (SV.out.below hb)
          replace SLO := hide (SLO.out.below hb)
          rw [HPE.out] at hs
          rw [HBF.out]
          have SPm := hide hs
          clear hb hs
          go_wp2_with fail
          refine (cycles_ok P pn pc (endsL N xs) _ SPm.out.il HPA.out (by rw [endsL_length]; omega)).mono ?_
          rintro e w34 ⟨C, cn, cc, vs, rfl, hov, hri, hb⟩
          replace HW := hide (HW.out.trans (hb.mono HW.out.size))
          replace SX := hide (SX.out.below hb)
          replace SLl := hide (SLl.out.below hb)
          replace SV := hide (SV.out.below hb)
          replace SLO := hide (SLO.out.below hb)
          replace SPm := hide (SPm.out.below hb)
          have hcn : (cycs (endsL N xs)).length = cn := by rw [← hov.len, hri.len, List.length_map]
          rw [hcn] at HLONG
          clear hb hov hri hcn HPA SPm SV SX HFB HIV HPE HBF
          go_wp2_with fail
          go_loopw [28, 134] (fun sv iv wr => ∃ j : Nat, iv = .int .i64 j ∧ sv = .int .i64 (sumTo (fun j => if 1 < ls.getD j 0 then 1 else 0) j) ∧ j ≤ mn ∧ w34 = wr) (fun _ iv _ => mn - (intOf iv).toNat)
          case atStart => exact ⟨0, by go_num, rfl, Nat.zero_le _, by trivial⟩
          case round =>
            obtain ⟨j, rfl, rfl, hjK, hww⟩ := hrel
            subst hww
            by_cases hlt : j < mn
            · obtain ⟨ad2, B, d, e, hc, hil⟩ := (HLC.out _ _ _ _ SLl.out).2 j hlt
              subst e
              obtain ⟨q, hq⟩ : ∃ q, ls.getD j 0 = q := ⟨_, rfl⟩
              have HS2 : Hid (sumTo (fun j => if 1 < ls.getD j 0 then 1 else 0) (j + 1) = sumTo (fun j => if 1 < ls.getD j 0 then 1 else 0) j + (if 1 < q then 1 else 0)) := hide (by rw [← hq]; rfl)
              have hSb := sumTo_bd (f := fun j => if 1 < ls.getD j 0 then 1 else 0) (b := 1) (fun j => by show -1 ≤ (if 1 < ls.getD j 0 then (1 : Int) else 0) ∧ (if 1 < ls.getD j 0 then (1 : Int) else 0) ≤ 1; split <;> omega) j
              rw [hq] at hc
              obtain ⟨S, hS⟩ : ∃ S, sumTo (fun j => if 1 < ls.getD j 0 then 1 else 0) j = S := ⟨_, rfl⟩
              rw [hS] at HS2 hSb ⊢
              have hw2 : IntKind.i64.wrap (S + 1) = S + 1 := by rw [IntKind.wrap_i64]; omega
              clear hS hSb hq hil
              by_cases h1 : 1 < q
              · rw [if_pos h1] at HS2
                go_wp2_with fail
                go_roundw
                case rel => exact ⟨j + 1, by go_num, by rw [HS2.out], by omega, by trivial⟩
                case measure => simp [intOf]; omega
              · rw [if_neg h1, Int.add_zero] at HS2
                go_wp2_with fail
                go_roundw
                case rel => exact ⟨j + 1, by go_num, by rw [HS2.out], by omega, by trivial⟩
                case measure => simp [intOf]; omega
            · have hjj : sumTo (fun j => if 1 < ls.getD j 0 then 1 else 0) j = (cn : Int) := by rw [show j = mn by omega]; exact HLONG.out
              rw [hjj]
              clear hjj HLONG HLE HLC SLl
              obtain ⟨ae, rfl, hon, hcl⟩ := HC2.out _ _ _ _ SLO.out
              rw [hon] at HT2 HKL2
              have HCL := hide hcl
              have hK6 : on ≤ 6 := by have := HKL2.out; omega
              clear hcl hon HC2 SLO HKL2
              go_wp2_with fail
              go_loopw [31, 146] (fun sv iv wr => ∃ i : Nat, iv = .int .i64 i ∧ sv = .int .i64 (sumTo (fun i => sumTo (f2 i) on) i) ∧ i ≤ on ∧ w34 = wr) (fun _ iv _ => on - (intOf iv).toNat)
              case atStart => exact ⟨0, by go_num, rfl, Nat.zero_le _, by trivial⟩
              case round =>
                obtain ⟨i, rfl, rfl, hiK, hww⟩ := hrel
                subst hww
                by_cases hlt : i < on
                · obtain ⟨bd, d, hc, hr⟩ := HCL.out i hlt
                  have HR := hide hr
                  obtain ⟨S, hS⟩ : ∃ S, sumTo (fun i => sumTo (f2 i) on) i = S := ⟨_, rfl⟩
                  have hSb := sumTo_bd (f := fun i => sumTo (f2 i) on) (b := 180) (fun j => by have h := sumTo_bd (f := f2 j) (b := 30) (HD2.out j) on; show -180 ≤ sumTo (f2 j) on ∧ sumTo (f2 j) on ≤ 180; omega) i
                  rw [hS] at hSb ⊢
                  have hS1 : -1080 ≤ S := by omega
                  have hS2 : S ≤ 1080 := by omega
                  have HSO : Hid (sumTo (fun i => sumTo (f2 i) on) (i + 1) = S + sumTo (f2 i) on) := hide (by rw [← hS]; rfl)
                  clear hS hSb hr
                  go_wp2_with fail
                  go_loopw [31, 152] (fun sv iv wr => ∃ k : Nat, iv = .int .i64 k ∧ sv = .int .i64 (S + sumTo (f2 i) k) ∧ k ≤ on ∧ w34 = wr) (fun _ iv _ => on - (intOf iv).toNat)
                  case atStart => exact ⟨0, by go_num, by simp [sumTo], Nat.zero_le _, by trivial⟩
                  case round =>
                    obtain ⟨k, rfl, rfl, hkK, hww⟩ := hrel
                    subst hww
                    by_cases hk : k < on
                    · have hc2 := HR.out k hk
                      obtain ⟨y, hy⟩ : ∃ y, f2 i k = y := ⟨_, rfl⟩
                      have hyb := HD2.out i k
                      rw [hy] at hc2 hyb
                      obtain ⟨t, ht⟩ : ∃ t, S + sumTo (f2 i) k = t := ⟨_, rfl⟩
                      have htb := sumTo_bd (f := f2 i) (b := 30) (HD2.out i) k
                      have hw2 : IntKind.i64.wrap (t + y) = t + y := by rw [IntKind.wrap_i64]; omega
                      have HS2 : Hid (S + sumTo (f2 i) (k + 1) = t + y) := hide (by rw [sumTo_succ, ← ht, hy]; omega)
                      have hyy : (y != y) = false := by simp
                      rw [ht]
                      clear ht hy htb hyb
                      go_wp2_with fail
                      go_roundw
                      case rel => exact ⟨k + 1, by go_num, by rw [HS2.out], by omega, by trivial⟩
                      case measure => simp [intOf]; omega
                    · have hkk : sumTo (f2 i) k = sumTo (f2 i) on := by rw [show k = on by omega]
                      rw [hkk]
                      clear hkk
                      go_wp2_with fail
                      go_roundw
                      case rel => exact ⟨i + 1, by go_num, by rw [HSO.out], by omega, by trivial⟩
                      case measure => simp [intOf]; omega
                · have hii : sumTo (fun i => sumTo (f2 i) on) i = (-ex) := by rw [show i = on by omega]; exact HT2.out
                  rw [hii]
                  clear hii
                  have hneg : IntKind.i64.wrap (-ex) = -ex := by rw [IntKind.wrap_i64]; omega
                  clear HCL HT2 HD2
                  go_wp2_with fail
                  refine (HLK.out _).mono ?_
                  rintro e w50 ⟨rfl, hb⟩
                  replace HW := hide (HW.out.trans (hb.mono HW.out.size))
                  clear hb HLK
                  go_wp2_with fail
                  go_ret
                  exact ⟨rfl, HW.out⟩
end Go.Proofs.Ytndgffiihbdppaa
/- timbref1.Parts: components by joined points (mathematics). -/
namespace Go.Proofs.Ytndgffiihbdppaa
set_option linter.unusedVariables false
set_option linter.unusedSimpArgs false

/-! ### the list of components, strand by strand -/
def rowP (a : List Nat) (i m : Nat) : List Nat := (List.range i).filter fun j => decide (j ∈ cyc a m)
def minK (a : List Nat) (i : Nat) : List Nat := (List.range i).filter fun m => isMin a m
def prtK (a : List Nat) (i : Nat) : List (List Nat) := (minK a i).map (rowP a i)
theorem prtK_all (a : List Nat) : prtK a a.length = prtL a := rfl
theorem minK_mem {a : List Nat} {i m : Nat} : m ∈ minK a i ↔ m < i ∧ isMin a m = true := by unfold minK; rw [List.mem_filter, List.mem_range]
theorem prtK_length (a : List Nat) (i : Nat) : (prtK a i).length = (minK a i).length := by simp [prtK]
end Go.Proofs.Ytndgffiihbdppaa
