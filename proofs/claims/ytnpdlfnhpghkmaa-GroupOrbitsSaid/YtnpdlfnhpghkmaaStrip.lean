/- permgroup.chain: strip. -/
import Derived.Test.YtnpdlfnhpghkmaaElem
import Derived.Test.YtnpdlfnhpghkmaaBase
import Derived.Test.YtnpdlfnhpghkmaaFault
import Derived.Deep.RegionHeld3
import Derived.DeepKeys4
namespace Go.Proofs.Ytnpdlfnhpghkmaa
open Go.RowKit Go.Maps

/-- The nine maps of a chain. -/
def chA (c : Nat → Nat) : Array Value := ((List.range 9).map fun j : Nat => Value.map (some (c j))).toArray
theorem chA_size (c : Nat → Nat) : (chA c).size = 9 := by simp [chA]
theorem chA_get (c : Nat → Nat) (j : Nat) (hj : j < 9) : (chA c)[j]? = some (.map (some (c j))) := by simp [chA, hj]
theorem chA_one (c : Nat → Nat) : (chA c).all (·.oneCell') = true := by simp [chA, Value.oneCell']
theorem size64 (c : Nat → Nat) : (Try.prog.info? 64).map (·.size) = some (chA c).size := by rw [chA_size]; kernel_rfl

/-- A level as a map. -/
def lvF (f : Nat → Option (List Nat)) : Value → Option Value
  | .int .u8 x => (f x.toNat).map fun u => .agg (elA u)
  | _ => none
theorem lvF_nat (f : Nat → Option (List Nat)) (x : Nat) : lvF f (.int .u8 x) = (f x).map fun u => .agg (elA u) := by simp [lvF]
theorem key5 : Keyed Try.prog 5 := int_keyed Try.underlying5
theorem wf_u8 {x : Nat} (h : x < 9) : (Lit.int .u8 (x : Int)).wf = true := by
  simp [Lit.wf, IntKind.min, IntKind.max, IntKind.signed, IntKind.bits]
  omega
theorem keyOf5 {x : Nat} (h : x < 9) : keyOf Try.prog 5 (.int .u8 x) = some (.int .u8 x) := keyOf_int_mk Try.underlying5 (wf_u8 h)
theorem zero69 (w : World) : (zeroValue 69).run Try.prog w = .ok (.agg (elA zero9)) w := by kernel_rfl

theorem agg62 (w : World) : (isAgg 62).run Try.prog w = .ok false w := by kernel_rfl
theorem agg5 (w : World) : (isAgg 5).run Try.prog w = .ok false w := by kernel_rfl
theorem size62 (w : World) : (sizeOf 62).run Try.prog w = .ok 1 w := by kernel_rfl
theorem size5 (w : World) : (sizeOf 5).run Try.prog w = .ok 1 w := by kernel_rfl

/-- The chain in memory. -/
structure ChM (w : World) (c : Nat → Nat) (L : Lv) : Prop where
  dict : ∀ i, i < 9 → Dict Try.prog 5 w (c i) (cnt L i) (lvF (L i))
  ne : ∀ i j, i < 9 → j < 9 → i ≠ j → c i ≠ c j
theorem ChM.below {w w' : World} {c : Nat → Nat} {L : Lv} (h : ChM w c L) (hb : Below w.heap.size w w') : ChM w' c L := ⟨fun i hi => (h.dict i hi).below hb, h.ne⟩

theorem ChM.drew {w : World} {c : Nat → Nat} {L : Lv} (h : ChM w c L) : ChM w.drew c L := h.below (Below.refl _ _).drew
theorem ChM.look {w : World} {c : Nat → Nat} {L : Lv} (h : ChM w c L) {i x : Nat} (hi : i < 9) (hx : x < 9) :
    (Instr.lookup 62 (.map (some (c i))) (.int .u8 x) true).run Try.prog w = .ok (.tuple #[((L i x).map fun u => Value.agg (elA u)).getD (.agg (elA zero9)), .bool (L i x).isSome]) w := by
  have := (h.dict i hi).look_ok key5 Try.underlying62 (zero69 w) (keyOf5 hx)
  rw [this, lvF_nat]
  cases L i x <;> rfl

set_option maxRecDepth 100000 in
set_option maxHeartbeats 4000000 in
theorem strip_any (c : Nat → Nat) (L : Lv) (p : List Nat) (w : World) (hL : LvOK L) (hp : PM 9 p) (hc : ChM w c L) :
    Calls Try.prog 57 #[.agg (chA c), .agg (elA p)] w fun e w' => e = .returned (.tuple #[.agg (elA (stripG L 9 0 p).1), .int .i64 (stripG L 9 0 p).2]) ∧ Below w.heap.size w w' := by
  have HL := hide hL
  have HP := hide hp
  have HC := hide hc
  clear hL hp hc
  go_enter Try.func57, Try.ntmps57
  go_wp2_with fail
  have HW : ∃ w1, ((w.alloc (Obj.cells (chA c) 64)).alloc (Obj.cells (elA p) 69)).alloc (Obj.cells (elA zero9) 69) = w1 := ⟨_, rfl⟩
  obtain ⟨w1, hw1⟩ := HW
  have B0 : Blk w1 w.heap.size 64 (chA c) := by
    have := (((Blk.new w 64 (chA c)).alloc (Obj.cells (elA p) 69)).alloc (Obj.cells (elA zero9) 69))
    rwa [hw1] at this
  have B1 : Blk w1 (w.heap.size + 1) 69 (elA p) := by
    have := ((Blk.new (w.alloc (Obj.cells (chA c) 64)) 69 (elA p)).alloc (Obj.cells (elA zero9) 69))
    rw [hw1] at this
    simpa using this
  have B2 : Blk w1 (w.heap.size + 1 + 1) 69 (elA zero9) := by
    have := (Blk.new ((w.alloc (Obj.cells (chA c) 64)).alloc (Obj.cells (elA p) 69)) 69 (elA zero9))
    rw [hw1] at this
    simpa using this
  have hb1 : Below w.heap.size w w1 := by
    rw [← hw1]
    exact (((Below.refl _ _).alloc (Nat.le_refl _) _).alloc (by simp) _).alloc (by simp; omega) _
  change Code.wp _ _ _ _ (((w.alloc (Obj.cells (chA c) 64)).alloc (Obj.cells (elA p) 69)).alloc (Obj.cells (elA zero9) 69))
  rw [hw1]
  clear hw1
  go_loopw [9] (fun i wr => ∃ (k : Nat) (q : List Nat), k ≤ 9 ∧ i = .int .i64 k ∧ Hid (stripG L 9 0 p = stripG L (9 - k) k q ∧ PM 9 q) ∧ Blk wr w.heap.size 64 (chA c) ∧ Blk wr (w.heap.size + 1) 69 (elA q) ∧ Blk wr (w.heap.size + 1 + 1) 69 (elA zero9) ∧ Below w.heap.size w wr) (fun i _ => 9 - (intOf i).toNat)
  case atStart => exact ⟨0, p, Nat.zero_le _, rfl, ⟨rfl, HP.out⟩, B0, B1, B2, hb1⟩
  case round =>
    obtain ⟨k, q, hk, rfl, hst, C0, C1, C2, hnx⟩ := hrel
    clear B0 B1 B2 hb1
    by_cases hlt : k < 9
    · have hx9 : q.getD k 0 < 9 := hst.out.2.lt hlt
      have hcc := (C0.cell k).trans (chA_get c k hlt)
      have hcx := (C1.cell k).trans (elA_get _ _ hlt)
      have hlook := (HC.out.below hnx).look hlt hx9
      have k0 : (0 : Int) ≤ (k : Int) := Int.natCast_nonneg _
      have k1 : (k : Int) < 9 := by omega
      have sz := C2.lt
      obtain ⟨x, hx⟩ : ∃ x, q.getD k 0 = x := ⟨_, rfl⟩
      have HX := hide hx
      rw [hx] at hx9 hcx hlook
      clear hx
      obtain ⟨o, ho⟩ : ∃ o, L k x = o := ⟨_, rfl⟩
      have HO := hide ho
      rw [ho] at hlook
      clear ho
      obtain ⟨u, hu⟩ : ∃ u, o.getD zero9 = u := ⟨_, rfl⟩
      obtain ⟨ok, hok⟩ : ∃ ok, o.isSome = ok := ⟨_, rfl⟩
      have HD := hide (HC.out.below hnx)
      have HLK : Hid (∀ w', ChM w' c L → (Instr.lookup 62 (.map (some (c k))) (.int .u8 x) true).run Try.prog w' = .ok (.tuple #[.agg (elA u), .bool ok]) w') := by
        intro w' hw'
        have := hw'.look hlt hx9
        rw [HO.out] at this
        rw [this, ← hu, ← hok]
        cases o <;> rfl
      have HU := hide hu
      have HOK := hide hok
      clear hlook hcc hcx hu hok
      go_wp2_with fail
      refine wp_region_noPanic ?_
      refine wp_region_held_drew (S := fun w' => Blk w' w.heap.size 64 (chA c) ∧ Blk w' (w.heap.size + 1) 69 (elA q) ∧ ChM w' c L) (by kernel_rfl) ⟨C0, C1, HD.out.drew⟩ (fun hS => ?_)
      refine wpAnyH_tk 0 (v := .int .i64 k) rfl (by kernel_rfl) (by kernel_rfl) (by kernel_rfl) (yi rfl fun w' hw' => gives_move (.inl rfl) rfl) hS ?_
      go_frame
      refine wpAnyH_tk 1 (v := .pointer (some ⟨w.heap.size, k, none⟩)) rfl (by kernel_rfl) (by kernel_rfl) (by kernel_rfl) (yi rfl fun w' hw' => gives_indexArr rfl Try.underlying64 size62 rfl rfl hlt) hS ?_
      go_frame
      refine wpAnyH_tk 2 (v := .map (some (c k))) rfl (by kernel_rfl) (by kernel_rfl) (by kernel_rfl) (yi rfl fun w' hw' => gives_load1 rfl (agg62 _) rfl ((hw'.1.cell k).trans (chA_get c k hlt))) hS ?_
      go_frame
      refine wpAnyH_tk 3 (v := .int .i64 k) rfl (by kernel_rfl) (by kernel_rfl) (by kernel_rfl) (yi rfl fun w' hw' => gives_move (.inl rfl) rfl) hS ?_
      go_frame
      refine wpAnyH_tk 4 (v := .pointer (some ⟨w.heap.size + 1, k, none⟩)) rfl (by kernel_rfl) (by kernel_rfl) (by kernel_rfl) (yi rfl fun w' hw' => gives_indexArr rfl Try.underlying69 size5 rfl rfl hlt) hS ?_
      go_frame
      refine wpAnyH_tk 5 (v := .int .u8 x) rfl (by kernel_rfl) (by kernel_rfl) (by kernel_rfl) (yi rfl fun w' hw' => gives_load1 rfl (agg5 _) rfl (by rw [← HX.out]; exact (hw'.2.1.cell k).trans (elA_get q k hlt))) hS ?_
      go_frame
      refine wpAnyH_tk 6 (v := .tuple #[.agg (elA u), .bool ok]) rfl (by kernel_rfl) (by kernel_rfl) (by kernel_rfl) (yi rfl fun w' hw' => gives_lookup rfl rfl rfl (HLK.out w' hw'.2.2)) hS ?_
      go_frame
      refine wpAnyH_tk 7 (v := .tuple #[.agg (elA u), .bool ok]) rfl (by kernel_rfl) (by kernel_rfl) (by kernel_rfl) (yi rfl fun w' hw' => gives_move (.inl rfl) rfl) hS ?_
      go_frame
      refine wpAnyH_tk 8 (v := .agg (elA u)) rfl (by kernel_rfl) (by kernel_rfl) (by kernel_rfl) (yi rfl fun w' hw' => gives_extract rfl rfl rfl) hS ?_
      go_frame
      refine wpAnyH_tk 9 (v := .bool ok) rfl (by kernel_rfl) (by kernel_rfl) (by kernel_rfl) (yi rfl fun w' hw' => gives_extract rfl rfl rfl) hS ?_
      go_frame
      refine wpAnyH_1 10 rfl (by kernel_rfl) ?_
      refine wp_alloc rfl (zero69 _) rfl ?_
      have hS1 : (fun w' => Blk w' w.heap.size 64 (chA c) ∧ Blk w' (w.heap.size + 1) 69 (elA q) ∧ ChM w' c L) (wr.drew.alloc (.cells (elA zero9) 69)) := ⟨C0.alloc _, C1.alloc _, HD.out.drew.below ((Below.refl _ _).alloc (Nat.le_refl _) _)⟩
      refine ⟨hS1, ?_⟩
      go_frame
      refine wpAnyH_1 11 rfl (by kernel_rfl) ?_
      refine wp_store_el _ _ rfl _ zero9 u rfl rfl (Blk.new _ _ _) ?_
      rw [show (wr.drew.alloc (Obj.cells (Value.agg (elA zero9)).cells 69)).setRow wr.drew.heap.size (elA u) = wr.drew.alloc (.cells (elA u) 69) from World.setRow_alloc_new _ _ _ _]
      have D0 : Blk (wr.drew.alloc (.cells (elA u) 69)) w.heap.size 64 (chA c) := C0.alloc _
      have D1 : Blk (wr.drew.alloc (.cells (elA u) 69)) (w.heap.size + 1) 69 (elA q) := C1.alloc _
      have D2 : Blk (wr.drew.alloc (.cells (elA u) 69)) (w.heap.size + 1 + 1) 69 (elA zero9) := C2.alloc _
      have D3 : Blk (wr.drew.alloc (.cells (elA u) 69)) wr.heap.size 69 (elA u) := Blk.new _ _ _
      have hE : Below w.heap.size w (wr.drew.alloc (.cells (elA u) 69)) := (hnx.drew).alloc (by show w.heap.size ≤ wr.heap.size; omega) _
      have hS2 : (fun w' => Blk w' w.heap.size 64 (chA c) ∧ Blk w' (w.heap.size + 1) 69 (elA q) ∧ ChM w' c L) (wr.drew.alloc (.cells (elA u) 69)) := ⟨D0, D1, HD.out.drew.below ((Below.refl _ _).alloc (Nat.le_refl _) _)⟩
      refine ⟨hS2, ?_⟩
      go_frame
      refine wpAnyH_tk 12 (v := .bool ok) rfl (by kernel_rfl) (by kernel_rfl) (by kernel_rfl) (yi rfl fun w' hw' => gives_move (.inr rfl) rfl) hS2 ?_
      go_frame
      refine wpAnyH_done (by kernel_rfl) (noPanic_mk ?_) _
      clear hS hS1 hS2 C0 C1 C2 hnx
      generalize wr.drew.alloc (.cells (elA u) 69) = w2 at *
      have HST := hide hst.out.1
      have HQ := hide hst.out.2
      clear hst
      cases o with
      | none =>
        obtain rfl : ok = false := HOK.out.symm
        have HR : Hid (stripG L 9 0 p = (q, k)) := by
          rw [HST.out, show 9 - k = (8 - k) + 1 by omega, stripG, HX.out, HO.out]; exact rfl
        go_wp2_with (first | ((with_reducible show wpList _ _ _ (Oper.mk _ (.load 69 _) _ _ _ _ :: _) _ _); refine wpList_load_el rfl _ rfl _ _ rfl D1 ?_) | ((with_reducible show wpList _ _ _ (Oper.mk _ (.store 69 _ _) _ _ _ _ :: _) _ _); refine wpList_store_el rfl _ _ rfl _ _ _ rfl rfl D2 ?_))
        refine bodyPost_ret (v := .tuple #[.agg (elA q), .int .i64 k]) (results_elt rfl _ _ _ _ _ rfl D2.row rfl) rfl ⟨by rw [HR.out], below_setRow hE (by omega) _⟩
      | some u' =>
        obtain rfl : ok = true := HOK.out.symm
        obtain rfl : u' = u := HU.out
        have HUP := hide (HL.out.at_ k x u' hlt HO.out)
        have HR : Hid (stripG L 9 0 p = stripG L (9 - (k + 1)) (k + 1) (comp q u')) := by
          rw [HST.out, show 9 - k = (8 - k) + 1 by omega, stripG, HX.out, HO.out, show 9 - (k + 1) = 8 - k by omega]; exact rfl
        have HTH := hide (then_any q u' w2 HQ.out.1 HUP.out.1.1 HQ.out.2 HUP.out.1.2)
        go_wp2_with (first | ((with_reducible show wpList _ _ _ (Oper.mk _ (.load 69 (.tmp 3)) _ _ _ _ :: _) _ _); refine wpList_load_el rfl _ rfl _ _ rfl D1 ?_) | ((with_reducible show wpList _ _ _ (Oper.mk _ (.load 69 (.tmp 7)) _ _ _ _ :: _) _ _); refine wpList_load_el rfl _ rfl _ _ rfl D3 ?_))
        refine HTH.out.mono ?_
        rintro e w3 ⟨rfl, hb3⟩
        have E0 := D0.below hb3 D0.lt
        have E1 := D1.below hb3 D1.lt
        have E2 := D2.below hb3 D2.lt
        have hE3 := hE.trans (hb3.mono hE.size)
        clear D0 D1 D2 D3 hE hb3 HTH
        go_wp2_with ((with_reducible show wpList _ _ _ (Oper.mk _ (.store 69 _ _) _ _ _ _ :: _) _ _); refine wpList_store_el rfl _ _ rfl _ _ _ rfl rfl E1 ?_)
        go_roundw
        case rel => exact ⟨k + 1, comp q u', by omega, by go_num, ⟨HR.out, HQ.out.comp HUP.out.1⟩, E0.rowFar (by omega), E1.row, E2.rowFar (by omega), below_setRow hE3 (by omega) _⟩
        case measure => simp [intOf]; omega
    · obtain rfl : k = 9 := by omega
      have HR : Hid (stripG L 9 0 p = (q, 9)) := by rw [hst.out.1]; exact rfl
      go_wp2_with (first | ((with_reducible show wpList _ _ _ (Oper.mk _ (.load 69 _) _ _ _ _ :: _) _ _); refine wpList_load_el rfl _ rfl _ _ rfl C1 ?_) | ((with_reducible show wpList _ _ _ (Oper.mk _ (.store 69 _ _) _ _ _ _ :: _) _ _); refine wpList_store_el rfl _ _ rfl _ _ _ rfl rfl C2 ?_))
      refine bodyPost_ret (v := .tuple #[.agg (elA q), .int .i64 9]) (results_elt rfl _ _ _ _ _ rfl C2.row rfl) rfl ⟨by rw [HR.out]; exact rfl, below_setRow hnx (by omega) _⟩
end Go.Proofs.Ytnpdlfnhpghkmaa
