/- Several texts in one. -/
import Derived.Test.YtbedpgcbfbjgiaaGreatDoorPart2
import Derived.Test.YtbedpgcbfbjgiaaGreatDoorBase1
import Derived.Test.YtbedpgcbfbjgiaaGreatDoorPart1
import Derived.BigRegion
import Derived.Deep.DeepCutAuto
import Derived.Handy
import Derived.Laws.EntriesVeiled
namespace Go.Proofs.YtbedpgcbfbjgiaaGreatDoor
set_option linter.unusedVariables false
set_option linter.unusedSimpArgs false
open Go.RowKit

def mP (pss:List (List Po)):Mtx LP:=fun i j => LP.of ((pss.getD i []).getD j (0,[])).1 ((pss.getD i []).getD j (0,[])).2
theorem getD_of_lt {α:Type} {l:List α} {i:Nat} (d:α) (h:i < l.length):l.getD i d = l[i]:=by simp [List.getD,List.getElem?_eq_getElem h]
end Go.Proofs.YtbedpgcbfbjgiaaGreatDoor
namespace Go.Proofs.YtbedpgcbfbjgiaaGreatDoor
set_option linter.unusedVariables false
set_option linter.unusedSimpArgs false

section
open CR
variable {R:Type} [CR R]
end

noncomputable def cP (x:LP):Po:=((LP.canon x).1,(LP.canon x).2)
theorem of_cP (x:LP):LP.of (cP x).1 (cP x).2 = x:=LP.of_canon x
end Go.Proofs.YtbedpgcbfbjgiaaGreatDoor
namespace Go.Proofs.YtbedpgcbfbjgiaaGreatDoor
set_option linter.unusedVariables false
set_option linter.unusedSimpArgs false
open Go.RowKit

def expoB (n:Int) (w:List Int):Int:=if bfault n w = 0 then LP.expo w else 0
def burE (n:Int) (w:List Int):Int:=if bfault n w = 0 then (if 16 < w.length then 2 else 0) else bfault n w
noncomputable def buL (n:Nat) (w:List Int):List (List Po):=(List.range n).map fun i => (List.range n).map fun j => cP (bu n w i j)
noncomputable def burL (n:Int) (w:List Int):List (List Po):=if burE n w = 0 then buL n.toNat w else []
def GivesMP (w:World) (err:Int) (pss:List (List Po)) (e:Ending) (w':World):Prop:=
  ∃ A n c,e = .returned (.tuple #[.slice A n c,.int .i64 err]) ∧ SPP w' A n c pss ∧ Below w.heap.size w w'
structure BraidC:Prop where
  check:∀ (m:Int) (A:Option Addr) (n c:Nat) (xs:List Int) (w:World),SL w A n c xs → (Lit.int .i64 m).wf = true → Calls Tryz.prog 25 #[.int .i64 m,.slice A n c] w fun e w' => e = .returned (.int .i64 (bfault m xs)) ∧ Below w.heap.size w w'
  expo:∀ (m:Int) (A:Option Addr) (n c:Nat) (xs:List Int) (w:World),SL w A n c xs → (Lit.int .i64 m).wf = true → Calls Tryz.prog 16 #[.int .i64 m,.slice A n c] w fun e w' => e = .returned (.tuple #[.int .i64 (expoB m xs),.int .i64 (bfault m xs)]) ∧ Below w.heap.size w w'
  burau:∀ (m:Int) (A:Option Addr) (n c:Nat) (xs:List Int) (w:World),SL w A n c xs → (Lit.int .i64 m).wf = true → Calls Tryz.prog 45 #[.int .i64 m,.slice A n c] w (GivesMP w (burE m xs) (burL m xs))

end Go.Proofs.YtbedpgcbfbjgiaaGreatDoor
namespace Go.Proofs.YtbedpgcbfbjgiaaGreatDoor
set_option linter.unusedVariables false
set_option linter.unusedSimpArgs false
open Go.RowKit

def colE (n:Int) (xs:List Int) (k:Int):Int:=if bfault n xs ≠ 0 then bfault n xs else if k < 1 ∨ 13 < k then 1 else 0
def colV (n:Int) (xs:List Int) (k:Int):Int:=if colE n xs k = 0 then (cntC n.toNat k.toNat xs:Int) else 0
structure ColC:Prop where
  count:∀ (m:Int) (A:Option Addr) (n c:Nat) (xs:List Int) (k:Int) (w:World),SL w A n c xs → TabW w → (Lit.int .i64 m).wf = true → (Lit.int .i64 k).wf = true → Calls Tryz.prog 23 #[.int .i64 m,.slice A n c,.int .i64 k] w fun e w' => e = .returned (.tuple #[.int .i64 (colV m xs k),.int .i64 (colE m xs k)]) ∧ Below w.heap.size w w'
theorem col_111:colE 2 [1,1,1] 3 = 0 ∧ colV 2 [1,1,1] 3 = 9:=by decide +kernel
end Go.Proofs.YtbedpgcbfbjgiaaGreatDoor
namespace Go.Proofs.YtbedpgcbfbjgiaaGreatDoor
set_option linter.unusedVariables false
set_option linter.unusedSimpArgs false
open Go.RowKit

def cmp1 (x y:Int):Int:=if x < y then -1 else if y < x then 1 else 0

set_option maxHeartbeats 1000000 in
theorem cmp_any (x y:Int) (w:World):Calls Tryz.prog 33 #[.int .i64 x,.int .i64 y] w fun e w' => e = .returned (.int .i64 (cmp1 x y)) ∧ w = w':=by
  rcases Int.lt_trichotomy x y with h | h | h
  · have HE:Hid (cmp1 x y = -1):=if_pos h
    have hx:(x != x) = false:=by simp
    have hy:(y != y) = false:=by simp
    go_enter Tryz.func33,Tryz.ntmps33
    go_wp2
    go_ret
    rw [HE.out]
    exact ⟨rfl,rfl⟩
  · subst h
    have HE:Hid (cmp1 x x = 0):=by unfold cmp1;rw [if_neg (by omega),if_neg (by omega)];exact rfl
    have hx:(x != x) = false:=by simp
    go_enter Tryz.func33,Tryz.ntmps33
    go_wp2
    go_ret
    rw [HE.out]
    exact ⟨rfl,rfl⟩
  · have HE:Hid (cmp1 x y = 1):=by unfold cmp1;rw [if_neg (by omega),if_pos h];exact rfl
    have hx:(x != x) = false:=by simp
    have hy:(y != y) = false:=by simp
    go_enter Tryz.func33,Tryz.ntmps33
    go_wp2
    go_ret
    rw [HE.out]
    exact ⟨rfl,rfl⟩

end Go.Proofs.YtbedpgcbfbjgiaaGreatDoor
namespace Go.Proofs.YtbedpgcbfbjgiaaGreatDoor
set_option linter.unusedVariables false
set_option linter.unusedSimpArgs false
open Go.RowKit

theorem bfault_bad {m:Int} {xs:List Int} (h1:1 ≤ m) (h6:m ≤ 6) (h:xs.length ≤ 30) {k:Nat} (hk:k < xs.length) (hb:okX m (xs.getD k 0) = false):bfault m xs = 3:=by
  unfold bfault
  rw [if_neg (by omega),if_neg (by omega),if_neg]
  intro h2
  have h3:=List.all_eq_true.1 h2 _ (List.getElem_mem hk)
  rw [show xs.getD k 0 = xs[k] by simp [List.getD,hk]] at hb
  rw [hb] at h3
  cases h3
theorem bfault_all {m:Int} {xs:List Int} (h1:1 ≤ m) (h6:m ≤ 6) (h:xs.length ≤ 30) (hb:∀ k,k < xs.length → okX m (xs.getD k 0) = true):bfault m xs = 0:=by
  unfold bfault
  rw [if_neg (by omega),if_neg (by omega),if_pos]
  rw [List.all_eq_true]
  intro x hx
  obtain ⟨k,hk,rfl⟩:=List.getElem_of_mem hx
  have:=hb k hk
  rwa [show xs.getD k 0 = xs[k] by simp [List.getD,hk]] at this

set_option maxRecDepth 100000 in
set_option maxHeartbeats 4000000 in
theorem bcheck_any (m:Int) (A:Option Addr) (n c:Nat) (xs:List Int) (w:World) (ha:SL w A n c xs) (hm:(Lit.int .i64 m).wf = true) :
    Calls Tryz.prog 25 #[.int .i64 m,.slice A n c] w fun e w' => e = .returned (.int .i64 (bfault m xs)) ∧ w = w':=by
  have HL:=hide ha.il.len
  have HA:=hide ha.il
  have hns:=ha.il.small
  clear ha
  by_cases h1:m < 1
  · have HE:Hid (bfault m xs = 1):=hide (by unfold bfault;rw [if_pos (by omega)])
    go_enter Tryz.func25,Tryz.ntmps25
    go_wp2_with fail
    go_ret
    exact ⟨by rw [HE.out];rfl,rfl⟩
  by_cases h6:6 < m
  · have HE:Hid (bfault m xs = 1):=hide (by unfold bfault;rw [if_pos (by omega)])
    go_enter Tryz.func25,Tryz.ntmps25
    go_wp2_with fail
    go_ret
    exact ⟨by rw [HE.out];rfl,rfl⟩
  by_cases h30:30 < n
  · have HE:Hid (bfault m xs = 2):=hide (by unfold bfault;rw [if_neg (by omega),if_pos (by rw [HL.out];exact h30)])
    go_enter Tryz.func25,Tryz.ntmps25
    go_wp2_with fail
    go_ret
    exact ⟨by rw [HE.out];rfl,rfl⟩
  have HB:Hid (∀ k,k < n → okX m (xs.getD k 0) = false → bfault m xs = 3):=hide (fun k hk hb => bfault_bad (by omega) (by omega) (by rw [HL.out];omega) (by rw [HL.out];exact hk) hb)
  have HG:Hid ((∀ k,k < n → okX m (xs.getD k 0) = true) → bfault m xs = 0):=hide (fun hb => bfault_all (by omega) (by omega) (by rw [HL.out];omega) (fun k hk => hb k (by rw [← HL.out];exact hk)))
  have hwm:IntKind.i64.wrap (-m) = -m:=by rw [IntKind.wrap_i64];omega
  go_enter Tryz.func25,Tryz.ntmps25
  go_wp2_with fail
  go_loop [18] (fun iv => ∃ k:Nat,k ≤ n ∧ iv = .int .i64 k ∧ Hid (∀ j,j < k → okX m (xs.getD j 0) = true)) (fun iv => n - (intOf iv).toNat)
  case atStart => exact ⟨0,Nat.zero_le _,rfl,hide (fun j hj => absurd hj (by omega))⟩
  case round =>
    obtain ⟨k,hk,rfl,HP⟩:=hrel
    by_cases hlt:k < n
    · obtain ⟨ad,rfl,hx⟩:=HA.out.at_ hlt
      have HBK:=hide (HB.out k hlt)
      have HN:Hid (okX m (xs.getD k 0) = true → ∀ j,j < k + 1 → okX m (xs.getD j 0) = true):=hide (fun h j hj => by
        rcases Nat.lt_or_ge j k with h2 | h2
        · exact HP.out j h2
        · rw [show j = k by omega];exact h)
      clear HB HP
      generalize xs.getD k 0 = x at *
      by_cases hx0:x = 0
      · have HV:=hide (HBK.out (by subst hx0;unfold okX;simp))
        clear HN HBK
        subst hx0
        go_wp2_with fail
        go_ret
        exact ⟨by rw [HV.out];rfl,rfl⟩
      by_cases hx1:x ≤ -m
      · have HV:=hide (HBK.out (by unfold okX;rw [decide_eq_false];omega))
        have e0:(x == 0) = false:=by simpa using hx0
        clear HN HBK
        go_wp2_with fail
        go_ret
        exact ⟨by rw [HV.out];rfl,rfl⟩
      by_cases hx2:m ≤ x
      · have HV:=hide (HBK.out (by unfold okX;rw [decide_eq_false];omega))
        have e0:(x == 0) = false:=by simpa using hx0
        clear HN HBK
        go_wp2_with fail
        go_ret
        exact ⟨by rw [HV.out];rfl,rfl⟩
      have HV:=hide (HN.out (by unfold okX;rw [decide_eq_true];omega))
      have e0:(x == 0) = false:=by simpa using hx0
      clear HN HBK
      go_wp2_with fail
      go_round
      case rel => exact ⟨k + 1,by omega,by go_num,HV⟩
      case measure => simp [intOf];omega
    · have hkn:k = n:=by omega
      subst hkn
      have HV:=hide (HG.out HP.out)
      clear HP HG HB
      go_wp2_with fail
      go_ret
      exact ⟨by rw [HV.out];rfl,rfl⟩

set_option maxRecDepth 100000 in
set_option maxHeartbeats 1000000 in
theorem gen_any (x:Int) (w:World) (h1:-10 < x) (h2:x < 10):Calls Tryz.prog 84 #[.int .i64 x] w fun e w' => e = .returned (.int .i64 (x.natAbs:Int)) ∧ w = w':=by
  have hw:IntKind.i64.wrap (-x) = -x:=by rw [IntKind.wrap_i64];omega
  have HM:Hid (max x (-x) = (x.natAbs:Int)):=hide (by omega)
  go_enter Tryz.func84,Tryz.ntmps84
  go_wp2_with ((with_reducible show wpList _ _ _ (Oper.mk _ (.call { callee:=.builtin .max,args:=_,argTypes:=_ }) _ _ _ _ :: _) _ _);refine wpList_gives rfl (gives_maxI rfl rfl rfl HM.out) ?_)
  go_ret
  exact ⟨rfl,rfl⟩

theorem expo_snoc (w:List Int) (x:Int):LP.expo (w ++ [x]) = LP.expo w + Int.sign x:=by
  rw [LP.expo_append,LP.expo_cons,LP.expo_nil,Int.add_zero]

set_option maxRecDepth 100000 in
set_option maxHeartbeats 2000000 in
theorem bexpo_any (m:Int) (A:Option Addr) (n c:Nat) (xs:List Int) (w:World) (ha:SL w A n c xs) (hm:(Lit.int .i64 m).wf = true) :
    Calls Tryz.prog 16 #[.int .i64 m,.slice A n c] w fun e w' => e = .returned (.tuple #[.int .i64 (expoB m xs),.int .i64 (bfault m xs)]) ∧ Below w.heap.size w w':=by
  have HC:=hide (bcheck_any m A n c xs w ha hm)
  have HL:=hide ha.il.len
  have HA:=hide ha.il
  have hns:=ha.il.small
  clear ha
  obtain ⟨f,hf⟩:∃ f,bfault m xs = f:=⟨_,rfl⟩
  have HF:=hide hf
  rw [hf] at HC ⊢
  clear hf
  by_cases h0:f = 0
  case neg =>
    have HV:Hid (expoB m xs = 0):=hide (by unfold expoB;rw [HF.out,if_neg h0])
    have hne:(f != 0) = true:=by simpa using h0
    clear h0
    go_enter Tryz.func16,Tryz.ntmps16
    go_wp2_with fail
    refine HC.out.mono ?_
    rintro e w1 ⟨rfl,hww⟩
    subst hww
    go_wp2_with fail
    go_ret2
    exact ⟨by rw [HV.out];rfl,Below.refl _ _⟩
  subst h0
  have HV:Hid (expoB m xs = LP.expo xs):=hide (by unfold expoB;rw [HF.out,if_pos rfl])
  have hn30:n ≤ 30:=by have:=(bfault_zero HF.out).2.2.1;rw [HL.out] at this;exact this
  go_enter Tryz.func16,Tryz.ntmps16
  go_wp2_with fail
  refine HC.out.mono ?_
  rintro e w1 ⟨rfl,hww⟩
  subst hww
  go_wp2_with fail
  go_loop [7,18] (fun sv iv => ∃ k:Nat,k ≤ n ∧ iv = .int .i64 k ∧ sv = .int .i64 (LP.expo (xs.take k))) (fun _ iv => n - (intOf iv).toNat)
  case atStart => exact ⟨0,Nat.zero_le _,rfl,by rw [List.take_zero];rfl⟩
  case round =>
    obtain ⟨k,hk,rfl,rfl⟩:=hrel
    by_cases hlt:k < n
    · obtain ⟨ad,rfl,hx⟩:=HA.out.at_ hlt
      have hlx:k < xs.length:=by rw [HL.out];exact hlt
      have hget:xs.getD k 0 = xs[k]:=by simp [List.getD,List.getElem?_eq_getElem hlx]
      have HT:Hid (LP.expo (xs.take (k + 1)) = LP.expo (xs.take k) + cmp1 (xs.getD k 0) 0):=hide (by
        rw [List.take_succ_eq_append_getElem hlx,expo_snoc,hget]
        congr 1
        unfold cmp1
        rcases Int.lt_trichotomy xs[k] 0 with h | h | h
        · rw [Int.sign_eq_neg_one_of_neg h,if_pos h]
        · rw [h];rfl
        · rw [Int.sign_eq_one_of_pos h,if_neg (by omega),if_pos h])
      have hE:(LP.expo (xs.take k)).natAbs ≤ 30:=by have:=LP.expo_le (xs.take k);have:=List.length_take_le k xs;omega
      have hC1:(cmp1 (xs.getD k 0) 0).natAbs ≤ 1:=by unfold cmp1;split <;> (try split) <;> decide
      clear hlx hget
      generalize xs.getD k 0 = x at *
      generalize LP.expo (xs.take k) = s at *
      have HCM:=hide (cmp_any x 0 w)
      generalize cmp1 x 0 = cx at *
      have hw:IntKind.i64.wrap (s + cx) = s + cx:=by rw [IntKind.wrap_i64];omega
      go_wp2_with fail
      refine HCM.out.mono ?_
      rintro e w1 ⟨rfl,hww⟩
      subst hww
      go_wp2_with fail
      go_round
      case rel => exact ⟨k + 1,by omega,by go_num,by rw [HT.out]⟩
      case measure => simp [intOf];omega
    · have hkn:k = n:=by omega
      have HE:Hid (LP.expo (xs.take k) = expoB m xs):=hide (by rw [HV.out,List.take_of_length_le (by rw [HL.out];omega)])
      rw [HE.out]
      clear hkn
      go_wp2_with fail
      go_ret2
      exact ⟨rfl,Below.refl _ _⟩

end Go.Proofs.YtbedpgcbfbjgiaaGreatDoor
namespace Go.Proofs.YtbedpgcbfbjgiaaGreatDoor
set_option linter.unusedVariables false
set_option linter.unusedSimpArgs false
open Go.RowKit

set_option maxRecDepth 100000 in
set_option maxHeartbeats 2000000 in
theorem clcheck_any (F:BraidC) (m:Int) (A:Option Addr) (n c:Nat) (xs:List Int) (k:Int) (w:World) (ha:SL w A n c xs) (hm:(Lit.int .i64 m).wf = true) :
    Calls Tryz.prog 38 #[.int .i64 m,.slice A n c,.int .i64 k] w fun e w' => e = .returned (.int .i64 (colE m xs k)) ∧ Below w.heap.size w w':=by
  have HC:=hide (F.check m A n c xs w ha hm)
  clear F ha hm
  unfold colE
  obtain ⟨f,hf⟩:∃ f,bfault m xs = f:=⟨_,rfl⟩
  rw [hf] at HC ⊢
  clear hf
  by_cases h0:f = 0
  · subst h0
    rw [if_neg (by simp)]
    by_cases h1:k < 1
    · rw [if_pos (.inl h1)]
      have d1:decide (k < 1) = true:=decide_eq_true h1
      clear h1
      go_enter Tryz.func38,Tryz.ntmps38
      go_wp2_with fail
      refine HC.out.mono ?_
      rintro e w1 ⟨rfl,hb⟩
      have HB:=hide hb
      clear hb
      go_wp2_with fail
      go_ret
      exact ⟨rfl,HB.out⟩
    · have d1:decide (k < 1) = false:=decide_eq_false h1
      by_cases h2:13 < k
      · rw [if_pos (.inr h2)]
        have d2:decide (13 < k) = true:=decide_eq_true h2
        clear h1 h2
        go_enter Tryz.func38,Tryz.ntmps38
        go_wp2_with fail
        refine HC.out.mono ?_
        rintro e w1 ⟨rfl,hb⟩
        have HB:=hide hb
        clear hb
        go_wp2_with fail
        go_ret
        exact ⟨rfl,HB.out⟩
      · rw [if_neg (by omega)]
        have d2:decide (13 < k) = false:=decide_eq_false h2
        clear h1 h2
        go_enter Tryz.func38,Tryz.ntmps38
        go_wp2_with fail
        refine HC.out.mono ?_
        rintro e w1 ⟨rfl,hb⟩
        have HB:=hide hb
        clear hb
        go_wp2_with fail
        go_ret
        exact ⟨rfl,HB.out⟩
  · rw [if_pos h0]
    have hb0:(f != 0) = true:=by simpa using h0
    clear h0
    go_enter Tryz.func38,Tryz.ntmps38
    go_wp2_with fail
    refine HC.out.mono ?_
    rintro e w1 ⟨rfl,hb⟩
    have HB:=hide hb
    clear hb
    go_wp2_with fail
    go_ret
    exact ⟨rfl,HB.out⟩

set_option maxRecDepth 100000 in
set_option maxHeartbeats 2000000 in
theorem clmirror_any (x a:Int) (k:Nat) (w:World) (h1:0 ≤ x) (h2:x < k) (h3:0 ≤ a) (h4:a < k) (hk:k ≤ 13) :
    Calls Tryz.prog 81 #[.int .i64 x,.int .i64 a,.int .i64 (k:Int)] w fun e w' => e = .returned (.int .i64 ((2 * a - x) % (k:Int))) ∧ w = w':=by
  have w1:IntKind.i64.wrap (2 * a) = 2 * a:=by rw [IntKind.wrap_i64];omega
  have w2:IntKind.i64.wrap (2 * a - x) = 2 * a - x:=by rw [IntKind.wrap_i64];omega
  have w3:IntKind.i64.wrap (2 * a - x + (k:Int)) = 2 * a - x + (k:Int):=by rw [IntKind.wrap_i64];omega
  have hkz:((k:Int) == 0) = false:=by simp;omega
  go_enter Tryz.func81,Tryz.ntmps81
  go_wp2_with fail
  go_ret
  exact ⟨by rw [← Int.add_emod_right (2 * a - x) (k:Int)];rfl,rfl⟩
end Go.Proofs.YtbedpgcbfbjgiaaGreatDoor
namespace Go.Proofs.YtbedpgcbfbjgiaaGreatDoor
set_option linter.unusedVariables false
set_option linter.unusedSimpArgs false
open Go.RowKit

set_option maxRecDepth 100000 in
set_option maxHeartbeats 4000000 in
theorem clprop_any (A:Option Addr) (n c:Nat) (xs:List Int) (B:Option Addr) (m d:Nat) (ys:List Int) (k N:Nat) (w:World) (ha:SL w A n c xs) (hb:SL w B m d ys) (hc:IsC (k:Int) N ys) (hx:∀ x ∈ xs,x ≠ 0 ∧ x.natAbs < N) (hk:k ≤ 13) (hN1:1 ≤ N) (hN:N ≤ 6) :
    Calls Tryz.prog 63 #[.slice A n c,.slice B m d,.int .i64 (k:Int)] w (GivesOwn w (cCol k xs ys)):=by
  have hk1:1 ≤ k:=by have:=hc.col 0 (by omega);omega
  have HC:=hide hc
  have HA:=hide ha
  have HX:=hide hx
  have hmN:m = N:=by have:=hb.il.len;have:=hc.len;omega
  subst hmN
  have HCL:=hide (clone_any B m d ys w hb.il hb.nil)
  have hsm:=ha.il.small
  clear hc ha hx hb
  go_enter Tryz.func63,Tryz.ntmps63
  go_wp2_with fail
  refine HCL.out.mono ?_
  rintro e w1 ⟨D,dn,dc,rfl,ho,hb1⟩
  have hdn:dn = m:=by have:=ho.len;have:=HC.out.len;omega
  subst hdn
  obtain ⟨g,rfl,hg1,hg2⟩:=ho.form (by omega)
  have HO1:Hid (OwnI w1 w.heap.size (some ⟨g,0,none⟩) dn dc (cCol k (xs.take 0) ys)):=hide (by rw [List.take_zero];exact ho)
  have HB1:=hide hb1
  clear ho hb1 hg2 HCL
  go_wp2_with fail
  go_loopw [17] (fun iv wr => ∃ j:Nat,j ≤ n ∧ iv = .int .i64 j ∧ Hid (OwnI wr w.heap.size (some ⟨g,0,none⟩) dn dc (cCol k (xs.take j) ys)) ∧ Hid (Below w.heap.size w wr)) (fun iv _ => n - (intOf iv).toNat)
  case atStart => exact ⟨0,Nat.zero_le _,rfl,HO1,HB1⟩
  case round =>
    clear HO1 HB1
    obtain ⟨j,hj,rfl,HO,HB⟩:=hrel
    by_cases hlt:j < n
    · obtain ⟨ad,rfl,hcl⟩:=(HA.out.below HB.out).il.at_ hlt
      have hjl:j < xs.length:=by rw [HA.out.il.len];exact hlt
      have hmem:=HX.out (xs.getD j 0) (by rw [show xs.getD j 0 = xs[j] by simp [List.getD,List.getElem?_eq_getElem hjl]];exact List.getElem_mem _)
      have HTK:Hid (cCol k (xs.take (j + 1)) ys = cSt k (xs.getD j 0) (cCol k (xs.take j) ys)):=hide (by
        rw [List.take_succ_eq_append_getElem hjl,cCol_snoc];simp [List.getD,List.getElem?_eq_getElem hjl])
      have HCC:Hid (IsC (k:Int) dn (cCol k (xs.take j) ys)):=hide (HC.out.word fun y hy => HX.out y (List.mem_of_mem_take hy))
      obtain ⟨hx0,hx1⟩:=hmem
      clear hjl
      generalize xs.getD j 0 = x at *
      generalize cCol k (xs.take j) ys = cur at *
      obtain ⟨i,hi⟩:∃ i,x.natAbs = i + 1:=⟨x.natAbs - 1,by omega⟩
      have hi1:i + 1 < dn:=by omega
      have hca:=HCC.out.col i (by omega)
      have hcb:=HCC.out.col (i + 1) hi1
      have hc0:=HO.out.cell (j:=i) (by omega)
      have hc1:=HO.out.cell (j:=i + 1) (by omega)
      have hf0:=HO.out.frozen i
      have hf1:=HO.out.frozen (i + 1)
      have hS:cSt (k:Int) x cur = if 0 < x then (cur.set i ((2 * cur.getD i 0 - cur.getD (i + 1) 0) % k)).set (i + 1) (cur.getD i 0) else (cur.set i (cur.getD (i + 1) 0)).set (i + 1) ((2 * cur.getD (i + 1) 0 - cur.getD i 0) % k):=by
        unfold cSt
        rw [hi,Nat.add_sub_cancel]
      obtain ⟨a,hae⟩:∃ a,cur.getD i 0 = a:=⟨_,rfl⟩
      obtain ⟨b,hbe⟩:∃ b,cur.getD (i + 1) 0 = b:=⟨_,rfl⟩
      rw [hae] at hca hc0 hS
      rw [hbe] at hcb hc1 hS
      clear hae hbe
      have hBB:=HB.out
      have HM:Hid (max x (-x) = (i:Int) + 1):=hide (by omega)
      have hwx:IntKind.i64.wrap (-x) = -x:=by rw [IntKind.wrap_i64];omega
      have hwi:IntKind.i64.wrap ((i:Int) + 1 - 1) = (i:Int):=by rw [IntKind.wrap_i64];omega
      have hwi2:(i:Int) + 1 - 1 = (i:Int):=by omega
      have hwi0:IntKind.i64.wrap (i:Int) = (i:Int):=by rw [IntKind.wrap_i64];omega
      by_cases hxp:0 < x
      · rw [if_pos hxp] at hS
        have HN:=hide ((HO.out.set_ i ((2 * a - b) % (k:Int))).set_ (i + 1) (a))
        rw [← hS,← HTK.out] at HN
        have HBN:=hide ((hBB.setCell (p:=⟨g,i,none⟩) hg1 (.int .i64 ((2 * a - b) % (k:Int)))).setCell (p:=⟨g,i + 1,none⟩) hg1 (.int .i64 (a)))
        have HMI:=hide (fun w => clmirror_any (b) (a) k w (by omega) (by omega) (by omega) (by omega) hk)
        obtain ⟨r,hr⟩:∃ r,(2 * a - b) % (k:Int) = r:=⟨_,rfl⟩
        rw [hr] at HN HBN
        simp only [hr] at HMI
        have hxd:decide (0 < x) = true:=decide_eq_true hxp
        clear hS hBB HO HB hr hi hca hcb hxp hx0 hx1
        go_upto_region 6 with ((with_reducible show wpList _ _ _ (Oper.mk _ (.call { callee:=.builtin .max,args:=_,argTypes:=_ }) _ _ _ _ :: _) _ _);refine wpList_gives rfl (gives_maxI rfl rfl rfl HM.out) ?_)
        go_region
        have ed0:wr.drew.cell? ⟨g,i,none⟩ = some (.int .i64 a):=hc0
        have ed1:wr.drew.cell? ⟨g,i + 1,none⟩ = some (.int .i64 b):=hc1
        have ef0:wr.drew.frozen? ⟨g,i,none⟩ = false:=hf0
        have ef1:wr.drew.frozen? ⟨g,i + 1,none⟩ = false:=hf1
        go_wp2_with fail
        refine (HMI.out _).mono ?_
        rintro e w3 ⟨rfl,hww⟩
        subst hww
        go_wp2_with fail
        go_roundw
        case rel => exact ⟨j + 1,by omega,by go_num,hide HN.out.drew,hide HBN.out.drew⟩
        case measure => simp [intOf];omega
      · rw [if_neg hxp] at hS
        have HN:=hide ((HO.out.set_ i (b)).set_ (i + 1) ((2 * b - a) % (k:Int)))
        rw [← hS,← HTK.out] at HN
        have HBN:=hide ((hBB.setCell (p:=⟨g,i,none⟩) hg1 (.int .i64 (b))).setCell (p:=⟨g,i + 1,none⟩) hg1 (.int .i64 ((2 * b - a) % (k:Int))))
        have HMI:=hide (fun w => clmirror_any (a) (b) k w (by omega) (by omega) (by omega) (by omega) hk)
        obtain ⟨r,hr⟩:∃ r,(2 * b - a) % (k:Int) = r:=⟨_,rfl⟩
        rw [hr] at HN HBN
        simp only [hr] at HMI
        have hxd:decide (0 < x) = false:=decide_eq_false hxp
        clear hS hBB HO HB hr hi hca hcb hxp hx0 hx1
        go_upto_region 6 with ((with_reducible show wpList _ _ _ (Oper.mk _ (.call { callee:=.builtin .max,args:=_,argTypes:=_ }) _ _ _ _ :: _) _ _);refine wpList_gives rfl (gives_maxI rfl rfl rfl HM.out) ?_)
        go_region
        have ed0:wr.drew.cell? ⟨g,i,none⟩ = some (.int .i64 a):=hc0
        have ed1:wr.drew.cell? ⟨g,i + 1,none⟩ = some (.int .i64 b):=hc1
        have ef0:wr.drew.frozen? ⟨g,i,none⟩ = false:=hf0
        have ef1:wr.drew.frozen? ⟨g,i + 1,none⟩ = false:=hf1
        go_wp2_with fail
        refine (HMI.out _).mono ?_
        rintro e w3 ⟨rfl,hww⟩
        subst hww
        go_wp2_with fail
        go_roundw
        case rel => exact ⟨j + 1,by omega,by go_num,hide HN.out.drew,hide HBN.out.drew⟩
        case measure => simp [intOf];omega
    · have hjn:j = n:=by omega
      subst hjn
      rw [List.take_of_length_le (by rw [HA.out.il.len];exact Nat.le_refl _)] at HO
      clear hlt hj
      go_wp2_with fail
      go_ret
      exact ⟨_,_,_,rfl,HO.out,HB.out⟩
end Go.Proofs.YtbedpgcbfbjgiaaGreatDoor
namespace Go.Proofs.YtbedpgcbfbjgiaaGreatDoor
set_option linter.unusedVariables false
set_option linter.unusedSimpArgs false
open Go.RowKit

def okE (x:Int):Bool:=decide (x ≤ 100 ∧ -100 ≤ x)
def mrow (k:Nat) (r:List Int):Int:=if 6 < r.length then 2 else if r.length ≠ k then 3 else if r.all okE then 0 else 1
def mrows (k:Nat):List (List Int) → Int
  | [] => 0
  | r :: t => if mrow k r = 0 then mrows k t else mrow k r
def mfault (xss:List (List Int)):Int:=if 6 < xss.length then 2 else mrows (xss.getD 0 []).length xss
theorem mrows_step {k:Nat} {xss:List (List Int)} {j:Nat} (hj:j < xss.length):mrows k (xss.drop j) = if mrow k (xss.getD j []) = 0 then mrows k (xss.drop (j + 1)) else mrow k (xss.getD j []):=by
  rw [List.drop_eq_getElem_cons hj]
  have e:xss.getD j [] = xss[j]:=by simp [List.getD,List.getElem?_eq_getElem hj]
  rw [e]
  rfl
theorem mrows_zero {k:Nat}:∀ {xss:List (List Int)},mrows k xss = 0 → ∀ r ∈ xss,mrow k r = 0
  | [],_,r,hr => by cases hr
  | x :: t,h,r,hr => by
    unfold mrows at h
    by_cases h0:mrow k x = 0
    · rw [if_pos h0] at h
      rcases List.mem_cons.1 hr with rfl | hr
      · exact h0
      · exact mrows_zero h r hr
    · rw [if_neg h0] at h
      exact absurd h h0
theorem mrow_zero {k:Nat} {r:List Int} (h:mrow k r = 0):r.length = k ∧ k ≤ 6 ∧ ∀ x ∈ r,x ≤ 100 ∧ -100 ≤ x:=by
  unfold mrow at h
  by_cases h1:6 < r.length
  · rw [if_pos h1] at h;cases h
  · rw [if_neg h1] at h
    by_cases h2:r.length ≠ k
    · rw [if_pos h2] at h;cases h
    · rw [if_neg h2] at h
      by_cases h3:r.all okE = true
      · exact ⟨by omega,by omega,fun x hx => by have:=List.all_eq_true.1 h3 x hx;simpa [okE] using this⟩
      · rw [if_neg h3] at h;cases h
theorem mrow_ok {k:Nat} {r:List Int} (h1:r.length = k) (h2:k ≤ 6) (h3:∀ x ∈ r,x ≤ 100 ∧ -100 ≤ x):mrow k r = 0:=by
  unfold mrow
  rw [if_neg (by omega),if_neg (by omega),if_pos (List.all_eq_true.2 fun x hx => by simpa [okE] using h3 x hx)]
theorem mrows_ok {k:Nat}:∀ {xss:List (List Int)},(∀ r ∈ xss,mrow k r = 0) → mrows k xss = 0
  | [],_ => rfl
  | x :: t,h => by
    unfold mrows
    rw [if_pos (h x (by simp)),mrows_ok fun r hr => h r (by simp [hr])]
theorem mfault_zero {xss:List (List Int)} (h:mfault xss = 0):xss.length ≤ 6 ∧ (xss.getD 0 []).length ≤ 6 ∧ ∀ r ∈ xss,r.length = (xss.getD 0 []).length ∧ ∀ x ∈ r,x ≤ 100 ∧ -100 ≤ x:=by
  unfold mfault at h
  by_cases h1:6 < xss.length
  · rw [if_pos h1] at h;cases h
  · rw [if_neg h1] at h
    refine ⟨by omega,?_,fun r hr => ?_⟩
    · cases xss with
      | nil => simp
      | cons r t =>
        have:=mrow_zero (mrows_zero h r (by simp))
        omega
    · have:=mrow_zero (mrows_zero h r hr)
      exact ⟨this.1,this.2.2⟩
theorem mfault_ok {xss:List (List Int)} {k:Nat} (h1:xss.length ≤ 6) (h2:k ≤ 6) (h:∀ r ∈ xss,r.length = k ∧ ∀ x ∈ r,x ≤ 100 ∧ -100 ≤ x):mfault xss = 0:=by
  unfold mfault
  rw [if_neg (by omega)]
  cases xss with
  | nil => rfl
  | cons r t =>
    have e:((r :: t).getD 0 []).length = k:=(h r (by simp)).1
    rw [e]
    exact mrows_ok fun r hr => mrow_ok (h r hr).1 h2 (h r hr).2
theorem getD_memI {l:List Int} {j:Nat} (h:j < l.length):l.getD j 0 ∈ l:=by
  rw [show l.getD j 0 = l[j] by simp [List.getD,List.getElem?_eq_getElem h]]
  exact List.getElem_mem _
theorem all_take_okE {w:List Int} {k:Nat} (hk:k < w.length):(w.take (k + 1)).all okE = ((w.take k).all okE && okE (w.getD k 0)):=by
  rw [List.take_succ_eq_append_getElem hk,List.all_append]
  simp [List.getD,List.getElem?_eq_getElem hk]

end Go.Proofs.YtbedpgcbfbjgiaaGreatDoor
namespace Go.Proofs.YtbedpgcbfbjgiaaGreatDoor
set_option linter.unusedVariables false
set_option linter.unusedSimpArgs false
open Go.RowKit

theorem IL.kept {w w':World} {A:Option Addr} {n:Nat} {xs:List Int} (h:IL w A n xs) {g:Nat} (hg:w.grownBy w' (some g)) (hne:∀ ad,A = some ad → ad.block ≠ g):IL w' A n xs:=
  ⟨h.len,h.small,fun hn => by
    obtain ⟨ad,e,hl,hc⟩:=h.mem hn
    refine ⟨ad,e,Nat.lt_of_lt_of_le hl hg.size,fun j hj => ?_⟩
    rw [hg.cell_far (ad.add j) (by rw [block_of_add];exact hl) (by rw [block_of_add];exact fun e' => hne ad e (by injection e'))]
    exact hc j hj⟩
theorem Blk.kept {w w':World} {g k:Nat} {t:TypeId} {cs:Array Value} (h:Blk w k t cs) (hg:w.grownBy w' (some g)) (hne:k ≠ g):Blk w' k t cs:=h.grown hg (fun e => hne (by injection e))
theorem grownBy_of_below {w w':World} (h:Below w.heap.size w w') (g:Option Nat):w.grownBy w' g:=⟨h.os,h.tape,h.output,h.size,fun k hk _ => h.block k hk⟩

section
variable {fid:FuncId} {caps:List Value} {g:Nat} {σ:Type} {J:σ → World → Prop} {step:σ → List Nat → σ} {n:Nat}
end
end Go.Proofs.YtbedpgcbfbjgiaaGreatDoor
namespace Go.Proofs.YtbedpgcbfbjgiaaGreatDoor
set_option linter.unusedVariables false
set_option linter.unusedSimpArgs false
open Go.RowKit

def matF (xss:List (List Int)):Mtx Int:=fun i j => (xss.getD i []).getD j 0
theorem abs_mul_le {a b:Int} {x y:Nat} (ha:a.natAbs ≤ x) (hb:b.natAbs ≤ y):(a * b).natAbs ≤ x * y:=by
  rw [Int.natAbs_mul]
  exact Nat.mul_le_mul ha hb
theorem grownBy_set1 (w:World) (b i:Nat) (v:Value):w.grownBy (w.setCell ⟨b,i,none⟩ v) (some b):=
  ⟨rfl,rfl,rfl,by simp,fun k _ hk => Below.heap_setCell w _ v k (fun e => hk (by rw [e]))⟩
theorem natAbs_sum_le {B:Nat} {f:Nat → Int}:∀ {n:Nat},(∀ i,i < n → (f i).natAbs ≤ B) → (CR.sumN n f).natAbs ≤ n * B
  | 0,_ => by simp [CR.sumN_zero]
  | n + 1,h => by
    rw [CR.sumN_succ]
    have h1:=natAbs_sum_le (n:=n) fun i hi => h i (by omega)
    have h2:=h n (by omega)
    have h3:=Int.natAbs_add_le (CR.sumN n f) (f n)
    rw [Nat.add_one_mul]
    exact Nat.le_trans h3 (by omega)
theorem detR_le {B:Nat}:∀ (n:Nat) (M:Mtx Int),(∀ i,i < n → ∀ j,j < n → (M i j).natAbs ≤ B) → (detR n M).natAbs ≤ fct n * B ^ n
  | 0,M,_ => by simp [detR,fct]
  | n + 1,M,h => by
    have:=natAbs_sum_le (B:=B * (fct n * B ^ n)) (n:=n + 1) (f:=fun j => CR.sgR Int j * (M 0 j * detR n fun a b => M (a + 1) (CR.skip j b))) (fun j hj => by
      have h1:(CR.sgR Int j).natAbs ≤ 1:=by unfold CR.sgR;split <;> decide
      have h2:=abs_mul_le (h 0 (by omega) j hj) (detR_le n (fun a b => M (a + 1) (CR.skip j b)) fun a ha b hb => h _ (by omega) _ (skip_lt hb))
      have h3:=abs_mul_le h1 h2
      rwa [Nat.one_mul] at h3)
    refine Nat.le_trans this (Nat.le_of_eq ?_)
    show _ = (n + 1) * fct n * B ^ (n + 1)
    rw [Nat.pow_succ]
    ac_rfl

end Go.Proofs.YtbedpgcbfbjgiaaGreatDoor
namespace Go.Proofs.YtbedpgcbfbjgiaaGreatDoor
set_option linter.unusedVariables false
set_option linter.unusedSimpArgs false
open Go.RowKit

def colsM (xss:List (List Int)):Nat:=(xss.getD 0 []).length
noncomputable def smithS (n m:Nat) (A:Mtx Int):Nat → Int:=Classical.choose (smith n m A)
theorem smithS_chain (n m:Nat) (A:Mtx Int):∀ i,i + 1 < min n m → smithS n m A i ∣ smithS n m A (i + 1):=(Classical.choose_spec (smith n m A)).1
theorem smithS_el (n m:Nat) (A:Mtx Int):El n m A (diagM (smithS n m A)):=(Classical.choose_spec (smith n m A)).2
def digI (q t i:Nat):Int:=((t / q ^ i % q:Nat):Int)
def dotI (r:List Int) (v:Nat → Int):Int:=CR.sumN r.length fun i => r.getD i 0 * v i
def solB (xss:List (List Int)) (q t:Nat):Bool:=xss.all fun r => dotI r (digI q t) % (q:Int) == 0
def solN (xss:List (List Int)) (m q:Nat):Nat:=(List.range (q ^ m)).countP fun t => solB xss q t
def solE (xss:List (List Int)) (q:Int):Int:=if mfault xss = 0 then (if q < 1 ∨ 13 < q then 1 else 0) else mfault xss
def solV (xss:List (List Int)) (q:Int):Int:=if solE xss q = 0 then (solN xss (colsM xss) q.toNat:Nat) else 0

/-! ### the matrix [2 0] [0 3] -/
theorem mat_rows {xss:List (List Int)} (h:mfault xss = 0):xss.length ≤ 6 ∧ colsM xss ≤ 6 ∧ (∀ i,i < xss.length → (xss.getD i []).length = colsM xss) ∧ ∀ i j,(matF xss i j).natAbs ≤ 100:=by
  obtain ⟨h1,h2,h3⟩:=mfault_zero h
  have hm:∀ i,i < xss.length → xss.getD i [] ∈ xss:=fun i hi => by
    rw [show xss.getD i [] = xss[i] by simp [List.getD,List.getElem?_eq_getElem hi]]
    exact List.getElem_mem _
  refine ⟨h1,h2,fun i hi => (h3 _ (hm i hi)).1,fun i j => ?_⟩
  unfold matF
  by_cases hi:i < xss.length
  · by_cases hj:j < (xss.getD i []).length
    · have:=(h3 _ (hm i hi)).2 _ (getD_memI hj)
      omega
    · have:(xss.getD i []).getD j 0 = 0:=by rw [List.getD_eq_getElem?_getD,List.getElem?_eq_none (by omega)];rfl
      rw [this];decide
  · have:xss.getD i [] = []:=by rw [List.getD_eq_getElem?_getD,List.getElem?_eq_none (by omega)];rfl
    rw [this];simp
end Go.Proofs.YtbedpgcbfbjgiaaGreatDoor
namespace Go.Proofs.YtbedpgcbfbjgiaaGreatDoor
set_option linter.unusedVariables false
set_option linter.unusedSimpArgs false
open Go.RowKit

def sN:Nat → (Nat → Nat) → Nat
  | 0,_ => 0
  | k + 1,f => sN k f + f k
theorem sN_congr {k:Nat} {f g:Nat → Nat} (h:∀ i,i < k → f i = g i):sN k f = sN k g:=by
  induction k with
  | zero => rfl
  | succ k ih => show sN k f + f k = sN k g + g k;rw [ih fun i hi => h i (by omega),h k (by omega)]
theorem countP_split (a:Nat) (p:Nat → Bool):∀ b,(List.range (a * b)).countP p = sN b fun x => (List.range a).countP fun s => p (x * a + s)
  | 0 => rfl
  | b + 1 => by
    show _ = sN b _ + _
    rw [← countP_split a p b,Nat.mul_add,Nat.mul_one,List.range_add,List.countP_append,List.countP_map]
    congr 1
    refine List.countP_congr fun s _ => ?_
    rw [Nat.mul_comm]
    rfl

def cntS (xss:List (List Int)) (q:Nat):Nat → (Nat → Int) → Nat
  | 0,c => if ∀ i,i < xss.length → c i % (q:Int) = 0 then 1 else 0
  | k + 1,c => sN q fun x => cntS xss q k fun i => c i + (x:Int) * matF xss i k

theorem digI_low {q k x s j:Nat} (hq:0 < q) (hj:j < k):digI q (x * q ^ k + s) j = digI q s j:=by
  unfold digI
  obtain ⟨d,rfl⟩:∃ d,k = j + (d + 1):=⟨k - j - 1,by omega⟩
  rw [show x * q ^ (j + (d + 1)) + s = s + q ^ j * (x * q ^ d * q) by rw [Nat.pow_add,Nat.pow_succ,Nat.add_comm];congr 1;grind]
  rw [Nat.add_mul_div_left _ _ (Nat.pow_pos hq),Nat.add_mul_mod_self_right]
theorem digI_top {q k x s:Nat} (hq:0 < q) (hx:x < q) (hs:s < q ^ k):digI q (x * q ^ k + s) k = x:=by
  unfold digI
  rw [show x * q ^ k + s = s + q ^ k * x by rw [Nat.add_comm,Nat.mul_comm],Nat.add_mul_div_left _ _ (Nat.pow_pos hq),Nat.div_eq_of_lt hs,Nat.zero_add,Nat.mod_eq_of_lt hx]
theorem cntS_eq (xss:List (List Int)) {q:Nat} (hq:0 < q):∀ (k:Nat) (c:Nat → Int),
    (List.range (q ^ k)).countP (fun t => decide (∀ i,i < xss.length → (c i + CR.sumN k fun j => matF xss i j * digI q t j) % (q:Int) = 0)) = cntS xss q k c
  | 0,c => by
    rw [Nat.pow_zero]
    show List.countP _ [0] = _
    rw [List.countP_singleton]
    unfold cntS
    simp only [CR.sumN_zero,decide_eq_true_eq]
    simp
  | k + 1,c => by
    rw [Nat.pow_succ,countP_split]
    show _ = sN q fun x => cntS xss q k fun i => c i + (x:Int) * matF xss i k
    refine sN_congr fun x hx => ?_
    rw [← cntS_eq xss hq k]
    refine List.countP_congr fun s hs => ?_
    have hs:=List.mem_range.1 hs
    simp only [decide_eq_true_eq]
    refine forall_congr' fun i => ?_
    refine imp_congr_right fun hi => ?_
    rw [CR.sumN_succ,digI_top hq hx hs]
    have h:(CR.sumN k fun j => matF xss i j * digI q (x * q ^ k + s) j) = CR.sumN k fun j => matF xss i j * digI q s j:=CR.sumN_congr fun j hj => by rw [digI_low hq hj]
    rw [h]
    generalize (CR.sumN k fun j => matF xss i j * digI q s j) = S
    have e:c i + (S + matF xss i k * (x:Int)) = c i + (x:Int) * matF xss i k + S:=by
      rw [Int.mul_comm (x:Int)];omega
    rw [e]
theorem solN_cnt {xss:List (List Int)} {m q:Nat} (hq:0 < q) (hm:∀ i,i < xss.length → (xss.getD i []).length = m):solN xss m q = cntS xss q m fun _ => 0:=by
  rw [← cntS_eq xss hq]
  unfold solN
  refine List.countP_congr fun t _ => ?_
  unfold solB
  rw [List.all_eq_true,decide_eq_true_eq]
  constructor
  · intro h i hi
    have e:xss.getD i [] = xss[i]:=by simp [List.getD,List.getElem?_eq_getElem hi]
    have h2:=h (xss.getD i []) (by rw [e];exact List.getElem_mem _)
    unfold dotI at h2
    rw [hm i hi] at h2
    rw [Int.zero_add]
    have h3:(CR.sumN m fun j => (xss.getD i []).getD j 0 * digI q t j) % (q:Int) = 0:=eq_of_beq h2
    exact h3
  · intro h r hr
    obtain ⟨i,hi,rfl⟩:=List.getElem_of_mem hr
    have e:xss.getD i [] = xss[i]:=by simp [List.getD,List.getElem?_eq_getElem hi]
    have h2:=h i hi
    rw [Int.zero_add] at h2
    unfold dotI
    rw [← e,hm i hi]
    have h3:(CR.sumN m fun j => (xss.getD i []).getD j 0 * digI q t j) % (q:Int) = 0:=h2
    rw [h3];rfl
end Go.Proofs.YtbedpgcbfbjgiaaGreatDoor
