/- Several texts in one. -/
import Derived.Test.YtndgffiihbdppaaGreatDoorBase1
import Derived.Test.YtndgffiihbdppaaGreatDoorProg
import Derived.WalkKit
import Derived.Deep.QuietTactic
import Derived.BigQuiet
import Derived.WalkSpells
import Derived.WalkLawsBesides
import Derived.Outline
import Derived.Laws.Bits64b
import Derived.Laws.BitsAllLaws
import Derived.Laws.Bits128
import Derived.Below
import Derived.Test.YtndgffiihbdppaaGreatDoorRows
import Derived.ProofKit
import Derived.LaidMore
import Derived.OpenShut
import Derived.Stop.Joined
import Derived.Lib.LaidTab
import Derived.Handy
import Derived.Deep.DeepCutAuto
namespace Go.Proofs.YtndgffiihbdppaaGreatDoor
set_option linter.unusedVariables false
set_option linter.unusedSimpArgs false
open Go.RowKit

theorem int_info:(Tryz.prog.info? 3).map (fun i => (i.zero,i.size,i.bytes)) = some (some (.int .i64 0),1,8):=by kernel_rfl

def GivesOwn (w:World) (xs:List Int) (e:Ending) (w':World):Prop:=
  ∃ A n c,e = .returned (.slice A n c) ∧ OwnI w' w.heap.size A n c xs ∧ Below w.heap.size w w'

theorem add_zero_block (g j:Nat):(⟨g,0,none⟩:Addr).add j = ⟨g,j,none⟩:=by unfold Addr.add;split <;> simp_all

end Go.Proofs.YtndgffiihbdppaaGreatDoor
namespace Go.Proofs.YtndgffiihbdppaaGreatDoor
set_option linter.unusedVariables false
set_option linter.unusedSimpArgs false
open Go.RowKit

def tzTab:List Nat:=[0,1,56,2,57,49,28,3,61,58,42,50,38,29,17,4,62,47,59,36,45,43,51,22,53,39,33,30,24,18,12,5,63,55,48,27,60,41,37,16,46,35,44,21,52,32,23,11,54,26,40,15,34,20,31,10,25,14,19,9,13,8,7,6]
def TabW (w:World):Prop:=∀ j,j < 64 → w.cell? ⟨1,j,none⟩ = some (.int .u8 (tzTab.getD j 0))
theorem TabW.lt {w:World} (h:TabW w):1 < w.heap.size:=World.block_lt_of_cell? w _ (h 0 (by omega))
theorem TabW.below {w w':World} (h:TabW w) (hb:Below w.heap.size w w'):TabW w':=fun j hj => (hb.cell (p:=⟨1,j,none⟩) h.lt).trans (h j hj)
def lowN (x:Nat):Nat:=((List.range 6).find? fun i => x.testBit i).getD 0
def tzIdx (x:Nat):Nat:=2 ^ lowN x * 285870213051353865 % 18446744073709551616 / 288230376151711744
theorem tz_nat:∀ x:Nat,x < 64 → x ≠ 0 → (x &&& (18446744073709551616 - x)) * 285870213051353865 % 18446744073709551616 / 288230376151711744 = tzIdx x ∧ tzIdx x < 64 ∧ tzTab.getD (tzIdx x) 0 = lowN x:=by decide +kernel
theorem tz_wrap (x:Nat) (hx:x < 64) (h0:x ≠ 0):IntKind.u64.wrap (bits BinOp.and IntKind.u64 (x:Int) (IntKind.u64.wrap (-(x:Int))) * 285870213051353865) / 288230376151711744 = (((x &&& (18446744073709551616 - x)) * 285870213051353865 % 18446744073709551616 / 288230376151711744:Nat):Int):=by
  have e1:IntKind.u64.wrap (-(x:Int)) = ((18446744073709551616 - x:Nat):Int):=by rw [IntKind.wrap_u64];omega
  rw [e1,bits_and_u64_nat x _ (by omega) (by omega),IntKind.wrap_u64]
  omega
theorem low_lt:∀ x:Nat,x < 64 → lowN x < 6:=by decide +kernel
theorem tz_key (x:Nat) (hx:x < 64) (h0:x ≠ 0):∃ idx:Nat,IntKind.u64.wrap (bits BinOp.and IntKind.u64 (x:Int) (IntKind.u64.wrap (-(x:Int))) * 285870213051353865) / 288230376151711744 = (idx:Int) ∧ idx < 64 ∧ tzTab.getD idx 0 = lowN x:=
  ⟨_,tz_wrap x hx h0,by rw [(tz_nat x hx h0).1];exact (tz_nat x hx h0).2.1,by rw [(tz_nat x hx h0).1];exact (tz_nat x hx h0).2.2⟩

set_option maxRecDepth 100000 in
theorem tz64_core (x k idx:Nat) (w:World) (hx0:((x:Int) == 0) = false)
    (key:IntKind.u64.wrap (bits BinOp.and IntKind.u64 (x:Int) (IntKind.u64.wrap (-(x:Int))) * 285870213051353865) / 288230376151711744 = (idx:Int))
    (hi:idx < 64) (hk:k < 64) (hcell:w.cell? ⟨1,idx,none⟩ = some (.int .u8 k)) :
    Calls Tryz.prog 107 #[.int .u64 x] w fun e w' => e = .returned (.int .i64 k) ∧ w' = w:=by
  go_enter Tryz.func107,Tryz.ntmps107
  go_wp2_with (simp only [key])
  go_ret
  exact ⟨rfl,rfl⟩
theorem tz64_any (x:Nat) (w:World) (hx:x < 64) (h0:x ≠ 0) (hT:TabW w) :
    Calls Tryz.prog 107 #[.int .u64 x] w fun e w' => e = .returned (.int .i64 (lowN x)) ∧ w' = w:=by
  obtain ⟨idx,key,hi,htab⟩:=tz_key x hx h0
  have hcell:=hT _ hi
  rw [htab] at hcell
  exact tz64_core x _ idx w (by simp;omega) key hi (by have:=low_lt x hx;omega) hcell

set_option maxRecDepth 100000 in
theorem tz_any (x:Nat) (w:World) (hx:x < 64) (h0:x ≠ 0) (hT:TabW w) :
    Calls Tryz.prog 100 #[.int .u64 x] w fun e w' => e = .returned (.int .i64 (lowN x)) ∧ w' = w:=by
  have H:=hide (tz64_any x w hx h0 hT)
  clear hT
  have hw:IntKind.u64.wrap (x:Int) = (x:Int):=by rw [IntKind.wrap_u64];omega
  go_enter Tryz.func100,Tryz.ntmps100
  go_wp2_with fail
  refine H.out.mono ?_
  rintro e w' ⟨rfl,rfl⟩
  go_wp2_with fail
  go_ret
  exact ⟨rfl,rfl⟩
def sizeN (x:Nat):Nat:=((List.range 6).filter fun i => x.testBit i).length
def on1 (x:Nat):Nat:=((x / 2) &&& 6148914691236517205) + (x &&& 6148914691236517205)
def on2 (x:Nat):Nat:=((x / 4) &&& 3689348814741910323) + (x &&& 3689348814741910323)
def on3 (x:Nat):Nat:=(x / 16 + x) &&& 1085102592571150095
theorem on_nat:∀ x:Nat,x < 64 → on1 x < 64 ∧ on2 (on1 x) < 64 ∧ on3 (on2 (on1 x)) = sizeN x ∧ sizeN x ≤ 6 ∧ sizeN x < 128:=by decide +kernel
theorem on_and (a b:Nat) (ha:a < 64) (c:Int) (hb:(b:Int) = c) (hc:b < 18446744073709551616):bits BinOp.and IntKind.u64 (a:Int) c = ((a &&& b:Nat):Int):=by rw [← hb];exact bits_and_u64_nat a b (by omega) hc
theorem and_le_l (a b:Nat):a &&& b ≤ a:=Nat.and_le_left
theorem on_step1 (x:Nat) (hx:x < 64):IntKind.u64.wrap (bits BinOp.and IntKind.u64 ((x:Int) / 2) 6148914691236517205 + bits BinOp.and IntKind.u64 (x:Int) 6148914691236517205) = (on1 x:Int):=by
  have h1:=on_and (x / 2) 6148914691236517205 (by omega) 6148914691236517205 rfl (by omega)
  have h2:=on_and x 6148914691236517205 hx 6148914691236517205 rfl (by omega)
  have l1:=and_le_l (x / 2) 6148914691236517205
  have l2:=and_le_l x 6148914691236517205
  rw [show ((x:Int) / 2) = ((x / 2:Nat):Int) by omega,h1,h2,IntKind.wrap_u64]
  unfold on1
  generalize (x / 2) &&& 6148914691236517205 = p at *
  generalize x &&& 6148914691236517205 = q at *
  omega
theorem on_step2 (x:Nat) (hx:x < 64):IntKind.u64.wrap (bits BinOp.and IntKind.u64 ((x:Int) / 4) 3689348814741910323 + bits BinOp.and IntKind.u64 (x:Int) 3689348814741910323) = (on2 x:Int):=by
  have h1:=on_and (x / 4) 3689348814741910323 (by omega) 3689348814741910323 rfl (by omega)
  have h2:=on_and x 3689348814741910323 hx 3689348814741910323 rfl (by omega)
  have l1:=and_le_l (x / 4) 3689348814741910323
  have l2:=and_le_l x 3689348814741910323
  rw [show ((x:Int) / 4) = ((x / 4:Nat):Int) by omega,h1,h2,IntKind.wrap_u64]
  unfold on2
  generalize (x / 4) &&& 3689348814741910323 = p at *
  generalize x &&& 3689348814741910323 = q at *
  omega
theorem on_step3 (x:Nat) (hx:x < 64):bits BinOp.and IntKind.u64 (IntKind.u64.wrap ((x:Int) / 16 + (x:Int))) 1085102592571150095 = (on3 x:Int):=by
  rw [show IntKind.u64.wrap ((x:Int) / 16 + (x:Int)) = ((x / 16 + x:Nat):Int) by rw [IntKind.wrap_u64];omega]
  exact bits_and_u64_nat (x / 16 + x) 1085102592571150095 (by omega) (by omega)
theorem on_mask (x:Nat) (hx:x < 128):bits BinOp.and IntKind.i64 (x:Int) 127 = (x:Int):=by rw [i64_and127];omega
set_option maxRecDepth 100000 in
theorem ones64_core (x a b s:Nat) (w:World) (ha:a < 64) (hb:b < 64) (hs:s ≤ 6) (h1:IntKind.u64.wrap (bits BinOp.and IntKind.u64 ((x:Int) / 2) 6148914691236517205 + bits BinOp.and IntKind.u64 (x:Int) 6148914691236517205) = (a:Int))
    (h2:IntKind.u64.wrap (bits BinOp.and IntKind.u64 ((a:Int) / 4) 3689348814741910323 + bits BinOp.and IntKind.u64 (a:Int) 3689348814741910323) = (b:Int))
    (h3:bits BinOp.and IntKind.u64 (IntKind.u64.wrap ((b:Int) / 16 + (b:Int))) 1085102592571150095 = (s:Int)) (h4:bits BinOp.and IntKind.i64 (s:Int) 127 = (s:Int)) :
    Calls Tryz.prog 102 #[.int .u64 x] w fun e w' => e = .returned (.int .i64 s) ∧ w' = w:=by
  have q1:(s:Int) / 256 = 0:=by omega
  have q2:(s:Int) / 65536 = 0:=by omega
  have q3:(s:Int) / 4294967296 = 0:=by omega
  have q4:IntKind.u64.wrap (s:Int) = (s:Int):=by rw [IntKind.wrap_u64];omega
  have q5:IntKind.i64.wrap (s:Int) = (s:Int):=by rw [IntKind.wrap_i64];omega
  have q6:IntKind.u64.wrap ((b:Int) / 16 + (b:Int)) = (b:Int) / 16 + (b:Int):=by rw [IntKind.wrap_u64];omega
  rw [q6] at h3
  go_enter Tryz.func102,Tryz.ntmps102
  go_wp2_with (simp only [h1,h2,h3,h4,q1,q2,q3,q4,q5,Int.add_zero])
  go_ret
  exact ⟨rfl,rfl⟩
theorem ones64_any (x:Nat) (w:World) (hx:x < 64) :
    Calls Tryz.prog 102 #[.int .u64 x] w fun e w' => e = .returned (.int .i64 (sizeN x)) ∧ w' = w:=by
  obtain ⟨h1,h2,h3,h4,h5⟩:=on_nat x hx
  exact ones64_core x (on1 x) (on2 (on1 x)) (sizeN x) w h1 h2 h4 (on_step1 x hx) (on_step2 _ h1) (by rw [on_step3 _ h2,h3]) (on_mask _ h5)

set_option maxRecDepth 100000 in
theorem ones_any (x:Nat) (w:World) (hx:x < 64) :
    Calls Tryz.prog 91 #[.int .u64 x] w fun e w' => e = .returned (.int .i64 (sizeN x)) ∧ w' = w:=by
  have H:=hide (ones64_any x w hx)
  have hw:IntKind.u64.wrap (x:Int) = (x:Int):=by rw [IntKind.wrap_u64];omega
  go_enter Tryz.func91,Tryz.ntmps91
  go_wp2_with fail
  refine H.out.mono ?_
  rintro e w' ⟨rfl,rfl⟩
  go_wp2_with fail
  go_ret
  exact ⟨rfl,rfl⟩

set_option maxRecDepth 100000 in
theorem imsize_any (x:Nat) (w:World) (hx:x < 64) :
    Calls Tryz.prog 79 #[.int .i64 x] w fun e w' => e = .returned (.int .i64 (sizeN x)) ∧ w' = w:=by
  have H:=hide (ones_any x w hx)
  have hw:IntKind.u64.wrap (x:Int) = (x:Int):=by rw [IntKind.wrap_u64];omega
  go_enter Tryz.func79,Tryz.ntmps79
  go_wp2_with fail
  refine H.out.mono ?_
  rintro e w' ⟨rfl,rfl⟩
  go_wp2_with fail
  go_ret
  exact ⟨rfl,rfl⟩
end Go.Proofs.YtndgffiihbdppaaGreatDoor
namespace Go.Proofs.YtndgffiihbdppaaGreatDoor
open Go.ChangeShapes Go.WideShapes Go.ChangeAt Go.RowKit
set_option linter.unusedVariables false
set_option linter.unusedSimpArgs false

def laidL : List (String × DataW Unit) := [("math/bits.deBruijn32tab", Rows.laid_math_bits_deBruijn32tab), ("math/bits.deBruijn64tab", Rows.laid_math_bits_deBruijn64tab)]
set_option maxRecDepth 100000 in
theorem door_met (os:Os) (args:Array Value):laidMetH Tryz.prog laidL ((World.doorLaid Tryz.prog 400 os).forCall (fun _ _ => 0) ⟨#[],args,[]⟩).memory:=
  laidMetH_of_parts3 (fuel:=8) (laidMet_of_run' 8 (by kernel_rfl) (by kernel_rfl)) (by kernel_rfl) (by kernel_rfl)
theorem gTab : Tryz.prog.globalNamed "math/bits.deBruijn64tab" = some 1 := by kernel_rfl
theorem tTab:(Tryz.prog.globals[1]?).map (·.type) = some 132:=by kernel_rfl
theorem laid_tail {P:Program} {W:World} {x:String × DataW Unit} {l:List (String × DataW Unit)} (h:laidMet P (x :: l) W):∃ q,DataW.LaidVars P W l q:=by
  obtain ⟨ps,hv,_⟩:=h
  obtain ⟨g,t,cs,f,p,q,h1,h2,h3,h4,h5,h6⟩:=hv
  exact ⟨_,h5⟩
def tzTabI:List Int:=[0,1,56,2,57,49,28,3,61,58,42,50,38,29,17,4,62,47,59,36,45,43,51,22,53,39,33,30,24,18,12,5,63,55,48,27,60,41,37,16,46,35,44,21,52,32,23,11,54,26,40,15,34,20,31,10,25,14,19,9,13,8,7,6]
theorem tzTabI_at:∀ j:Nat,j < 64 → tzTabI.getD j 0 = (tzTab.getD j 0:Nat):=by decide +kernel
theorem tab_of_laid {W:World} (h:laidMetH Tryz.prog laidL W):TabW W:=by
  rw [MakeChecks.laidMetH_plain _ _ _ (by kernel_rfl)] at h
  obtain ⟨q,g',t',cs,fuel,p,q',hg',ht',hvar,hd,_,_⟩:=laid_tail h
  obtain rfl:=Option.some.inj (gTab.symm.trans hg')
  obtain rfl:=Option.some.inj (tTab.symm.trans ht')
  have hcs:=Lib.cells_of_tab (k:=.u8) (zs:=tzTabI) Tryz.underlying132 Tryz.underlying5 (by kernel_rfl) (by kernel_rfl) hd
  intro j hj
  have:=World.var?_cell gTab hvar j
  rw [this,← Array.getElem?_toList,hcs]
  have hl:tzTabI.length = 64:=rfl
  have e:=tzTabI_at j hj
  rw [← e]
  simp [List.getD,hl,hj]
end Go.Proofs.YtndgffiihbdppaaGreatDoor
namespace Go.Proofs.YtndgffiihbdppaaGreatDoor
set_option linter.unusedVariables false
set_option linter.unusedSimpArgs false
open Go.RowKit

theorem emod_of_tmod (n:Int) (m:Nat) (h0:0 < m):n % (m:Int) = if n.tmod m < 0 then n.tmod m + m else n.tmod m:=by
  have h1:=Int.tmod_add_mul_tdiv n m
  have h2:=Int.tmod_lt_of_pos n (b:=m) (by omega)
  have h3:=Int.lt_tmod_of_pos n (b:=m) (by omega)
  generalize hr:n.tmod m = r at *
  have e:∀ x:Int,0 ≤ x → x < m → (∃ q,n = x + m * q) → n % (m:Int) = x:=fun x hx0 hx1 ⟨q,hq⟩ => by
    rw [hq,Int.add_mul_emod_self_left]
    exact Int.emod_eq_of_lt hx0 hx1
  by_cases h:r < 0
  · rw [if_pos h]
    refine e _ (by omega) (by omega) ⟨n.tdiv m - 1,?_⟩
    rw [Int.mul_sub]
    omega
  · rw [if_neg h]
    exact e _ (by omega) (by omega) ⟨n.tdiv m,by omega⟩

set_option maxHeartbeats 1000000 in
theorem mbelow_any (n:Int) (m:Nat) (w:World) (h0:0 < m) (hm:m ≤ 1000000) :
    Calls Tryz.prog 4 #[.int .i64 n,.int .i64 m] w fun e w' => e = .returned (.int .i64 (n % (m:Int))) ∧ w = w':=by
  have HE:=hide (emod_of_tmod n m h0)
  have h2:=Int.tmod_lt_of_pos n (b:=m) (by omega)
  have h3:=Int.lt_tmod_of_pos n (b:=m) (by omega)
  by_cases h:n.tmod m < 0
  · have HE':Hid (n % (m:Int) = n.tmod m + m):=by rw [HE.out,if_pos h];exact rfl
    clear HE
    go_enter Tryz.func4,Tryz.ntmps4
    go_wp2
    go_ret
    rw [HE'.out]
    exact ⟨rfl,rfl⟩
  · have HE':Hid (n % (m:Int) = n.tmod m):=by rw [HE.out,if_neg h];exact rfl
    clear HE
    go_enter Tryz.func4,Tryz.ntmps4
    go_wp2
    go_ret
    rw [HE'.out]
    exact ⟨rfl,rfl⟩

end Go.Proofs.YtndgffiihbdppaaGreatDoor
namespace Go.Proofs.YtndgffiihbdppaaGreatDoor
set_option linter.unusedVariables false
set_option linter.unusedSimpArgs false
open Go.RowKit

def setMany (xs:List Int) (o:Nat):List Int → List Int
  | [] => xs
  | y :: ys => setMany (xs.set o y) (o + 1) ys
theorem setMany_length:∀ (ys xs:List Int) (o:Nat),(setMany xs o ys).length = xs.length
  | [],_,_ => rfl
  | y :: ys,xs,o => by rw [setMany,setMany_length ys];simp
theorem setMany_getD:∀ (ys xs:List Int) (o j:Nat),o + ys.length ≤ xs.length → (setMany xs o ys).getD j 0 = if o ≤ j ∧ j < o + ys.length then ys.getD (j - o) 0 else xs.getD j 0
  | [],xs,o,j,_ => by rw [setMany,if_neg (by simp)]
  | y :: ys,xs,o,j,h => by
    simp only [List.length_cons] at h
    rw [setMany,setMany_getD ys _ _ _ (by simp;omega)]
    by_cases h1:o + 1 ≤ j ∧ j < o + 1 + ys.length
    · rw [if_pos h1,if_pos (by simp;omega)]
      rw [show j - o = (j - (o + 1)) + 1 from by omega]
      simp [List.getD]
    · rw [if_neg h1]
      by_cases h2:j = o
      · subst h2
        rw [if_pos (by simp)]
        simp [List.getD,show j < xs.length by omega]
      · rw [if_neg (by simp;omega)]
        have:¬ o = j:=fun e => h2 e.symm
        simp [List.getD,List.getElem?_set,this]

section
variable {w w':World} {base g n c:Nat} {xs:List Int}
theorem OwnI.setCells:∀ (ys:List Int) {w:World} {xs:List Int} (o:Nat),OwnI w base (some ⟨g,0,none⟩) n c xs → OwnI (w.setCells g o (ys.map (Value.int .i64))) base (some ⟨g,0,none⟩) n c (setMany xs o ys)
  | [],_,_,_,h => h
  | y :: ys,_,_,o,h => OwnI.setCells ys (o + 1) (h.set_ o y)
theorem OwnI.shrink {A:Option Addr} {m:Nat} (h:OwnI w base A n c xs) (hm:m ≤ n) (h0:0 < n):OwnI w base A m c (xs.take m):=by
  have hl:=h.len
  refine ⟨⟨by simp;omega,?_⟩,by have:=h.small;omega⟩
  rcases h.own.2 with ⟨_,h2⟩ | ⟨g,cap,cur,hv,hg,hh,hnc,hcm,hcs,ht⟩
  · omega
  · simp only [Value.slice.injEq,true_and] at hv
    obtain ⟨rfl,rfl⟩:=hv
    refine .inr ⟨g,c,cur,rfl,hg,hh,by omega,hcm,hcs,?_⟩
    rw [List.map_take,← ht,List.take_take]
    congr 1
    omega
theorem grownBy_setCells (g:Nat):∀ (vs:List Value) (o:Nat) (a w:World),a.grownBy w (some g) → a.grownBy (w.setCells g o vs) (some g)
  | [],_,_,_,h => h
  | v :: vs,o,a,w,h => grownBy_setCells g vs (o + 1) a _ ⟨h.os,h.tape,h.output,by simpa [World.setCell] using h.size,fun i hi hne => (Below.heap_setCell w ⟨g,o,none⟩ v i (fun e => hne (by rw [e]))).trans (h.block i hi hne)⟩
theorem grownBy_drew {a w:World} {row:Option Nat} (h:a.grownBy w row):a.grownBy w.drew row:=⟨h.os,h.tape,h.output,h.size,h.block⟩
end

def without (xs:List Int) (i:Nat):List Int:=xs.take i ++ xs.drop (i + 1)
theorem without_length {xs:List Int} {i:Nat} (h:i < xs.length):(without xs i).length = xs.length - 1:=by simp [without];omega
theorem deleted {xs:List Int} {n i:Nat} (hl:xs.length = n) (hi:i < n):((setMany xs i (xs.drop (i + 1))).set (n - 1) 0).take (n - 1) = without xs i:=by
  have hx:(setMany xs i (xs.drop (i + 1))).length = n:=by rw [setMany_length,hl]
  apply List.ext_getElem?
  intro j
  by_cases hj:j < n - 1
  · rw [List.getElem?_take,if_pos hj,List.getElem?_set,if_neg (by omega)]
    have h1:=setMany_getD (xs.drop (i + 1)) xs i j (by simp;omega)
    have h2:((setMany xs i (xs.drop (i + 1)))[j]?) = some ((setMany xs i (xs.drop (i + 1))).getD j 0):=by
      simp [List.getD,List.getElem?_eq_getElem (show j < (setMany xs i (xs.drop (i + 1))).length by omega)]
    rw [h2,h1]
    have h3:(without xs i)[j]? = some ((without xs i).getD j 0):=by
      simp [List.getD,List.getElem?_eq_getElem (show j < (without xs i).length by rw [without_length (by omega)];omega)]
    rw [h3]
    congr 1
    by_cases hji:j < i
    · rw [if_neg (by omega)]
      simp only [without,List.getD,List.getElem?_append,List.length_take,List.getElem?_take]
      rw [if_pos (by omega),if_pos hji]
    · rw [if_pos (by simp;omega)]
      simp only [without,List.getD,List.getElem?_append,List.length_take,List.getElem?_drop]
      rw [if_neg (by omega),show min i xs.length = i from by omega]
  · rw [List.getElem?_eq_none (by simp;omega),List.getElem?_eq_none (by rw [without_length (by omega)];omega)]

theorem run_clear_one (w:World) (ty:TypeId) (b o cap:Nat) {v:Value} (hc:w.cell? ⟨b,o,none⟩ = some v) (hf:w.frozen? ⟨b,o,none⟩ = false) :
    (Builtin.clear_ #[23] ty #[.slice (some ⟨b,o,none⟩) 1 cap]).run Tryz.prog w = .ok (.tuple #[]) (w.setCell ⟨b,o,none⟩ (.int .i64 0)):=by
  obtain ⟨i0,hi0,hz0,hz1,hz2⟩:=info_parts int_info
  simp [Builtin.clear_,run_underlying Tryz.underlying23,zeroValue,typeInfo,hi0,hz0,storeCells,Builtin.zeroCells,go_sem,hc,hf]
theorem run_clear_tail (w:World) (ty:TypeId) {base g n c i m d:Nat} {xs:List Int} (h:OwnI w base (some ⟨g,0,none⟩) n c xs) (hi:i + 1 = n) (hm:m = 1) :
    (Builtin.clear_ #[23] ty #[.slice (some ⟨g,i,none⟩) m d]).run Tryz.prog w = .ok (.tuple #[]) (w.setCell ⟨g,i,none⟩ (.int .i64 0)):=by
  subst hm
  exact run_clear_one w ty g i d (h.cell (by omega)) (h.frozen i)

set_option maxHeartbeats 1600000 in
set_option maxRecDepth 1000000 in
theorem delete_any (base g n c i:Nat) (xs:List Int) (w:World) (h:OwnI w base (some ⟨g,0,none⟩) n c xs) (hi:i < n) :
    Calls Tryz.prog 55 #[.slice (some ⟨g,0,none⟩) n c,.int .i64 i,.int .i64 ((i:Int) + 1)] w fun e w' => e = .returned (.slice (some ⟨g,0,none⟩) (n - 1) c) ∧ OwnI w' base (some ⟨g,0,none⟩) (n - 1) c (without xs i) ∧ w.grownBy w' (some g):=by
  obtain ⟨i0,hi0,hz0,hz1,hz2⟩:=info_parts int_info
  have hcap:=h.cap
  have hsm:=h.small
  have HL:=hide h.len
  have hcm:c ≤ 9223372036854775807:=by
    rcases h.own.2 with ⟨hv,_⟩ | ⟨g',cap,cur,hv,_,_,_,hcm,_⟩
    · cases hv
    · simp only [Value.slice.injEq,true_and] at hv
      obtain ⟨_,rfl⟩:=hv
      unfold maxLen at hcm
      exact hcm
  obtain ⟨B,hB⟩:∃ B:Addr,(if c = i + 1 then some (⟨g,0,none⟩:Addr) else some ⟨g,i + 1,none⟩) = some B:=by
    by_cases h:c = i + 1
    · exact ⟨_,if_pos h⟩
    · exact ⟨_,if_neg h⟩
  have hnews:Hid (∀ j u,((xs.drop (i + 1)).map (Value.int .i64))[j]? = some u → w.drew.cell? (B.add j) = some u):=by
    intro j u hu
    have ht:=h.il.tail (k:=i + 1) (d:=c) (by omega) hcap
    rw [Nat.zero_add,hB] at ht
    have hj:j < n - (i + 1):=by
      have:=(List.getElem?_eq_some_iff.1 hu).1
      simp at this
      have:=HL.out
      omega
    obtain ⟨ad,e,hc⟩:=ht.at_ hj
    injection e with e
    subst e
    show w.cell? _ = _
    rw [hc,← hu]
    simp [List.getD,show i + 1 + j < xs.length by have:=HL.out;omega]
  have s1:Hid (((xs.drop (i + 1)).map (Value.int .i64)).length = (n - (i + 1)) * 1):=by
    have:=HL.out
    show _ = _
    simp
    omega
  have s2:Hid (∀ u ∈ (xs.drop (i + 1)).map (Value.int .i64),u.oneCell' = true):=ints_oneCell _ _
  have s3:Hid (∀ j,j < ((xs.drop (i + 1)).map (Value.int .i64)).length → (w.drew.cell? ⟨g,0 + i * 1 + j,none⟩).isSome = true ∧ w.drew.frozen? ⟨g,0 + i * 1 + j,none⟩ = false):=by
    intro j hj
    rw [s1.out] at hj
    refine ⟨?_,h.frozen _⟩
    show (w.cell? _).isSome = true
    rw [h.cell (by omega)]
    rfl
  have hic:i ≤ c:=by omega
  have hwr:IntKind.i64.wrap ((i:Int) + 1) = (i:Int) + 1:=by rw [IntKind.wrap_i64];omega
  have hp0:(0:Int) ≤ (i:Int) + 1:=by omega
  have hp1:(i:Int) + 1 ≤ (n:Int):=by omega
  have hp2:((i:Int) + 1).toNat = i + 1:=by omega
  have HO:Hid (OwnI (w.drew.setCells g i (List.drop (i + 1) (List.map (Value.int .i64) xs))) base (some ⟨g,0,none⟩) n c (setMany xs i (xs.drop (i + 1)))):=by
    have h1:OwnI w.drew base (some ⟨g,0,none⟩) n c xs:=h.drew
    rw [← List.map_drop]
    exact h1.setCells _ i
  have HG:Hid (w.grownBy (w.drew.setCells g i (List.drop (i + 1) (List.map (Value.int .i64) xs))) (some g)):=grownBy_setCells g _ _ _ _ (grownBy_drew (World.grownBy.refl w _))
  have hclr:=run_clear_tail (w.drew.setCells g i (List.drop (i + 1) (List.map (Value.int .i64) xs))) 0 (i:=i + (n - (i + 1))) (m:=n - (i + (n - (i + 1)))) (d:=c - (i + (n - (i + 1)))) HO.out (by omega) (by omega)
  clear h
  go_enter Tryz.func55,Tryz.ntmps55
  go_wp2_with fail
  go_region_law (refine step_append_room rfl (.tmp 22) (.tmp 25) 23 rfl 3 i0 1 Tryz.underlying23 hi0 hz1 g 0 i c (by simp [Act.eval,Act.put]) B (n - (i + 1)) (c - (i + 1)) ((xs.drop (i + 1)).map (Value.int .i64)) (by simp [Act.eval,Act.put]) s1.out hnews.out s2.out (by omega) s3.out ?_)
  go_wp2
  go_ret
  have e1:i + (n - (i + 1)) = n - 1:=by omega
  rw [e1]
  refine ⟨rfl,?_,?_⟩
  · have h2:=(HO.out.set_ (n - 1) 0).shrink (m:=n - 1) (by omega) (by omega)
    rw [deleted HL.out hi] at h2
    exact h2
  · exact grownBy_setCells g [Value.int .i64 0] (n - 1) _ _ HG.out
end Go.Proofs.YtndgffiihbdppaaGreatDoor
namespace Go.Proofs.YtndgffiihbdppaaGreatDoor
set_option linter.unusedVariables false
set_option linter.unusedSimpArgs false
open Go.RowKit

theorem idx_sorted:∀ {us:List Nat} {x:Nat},Sorted us → x ∈ us → us.idxOf x = cntN us x
  | u :: t,x,hs,hx => by
    have hs':=List.pairwise_cons.1 hs
    by_cases h:x = u
    · subst h
      rw [cntN_self,cnt_zero (fun y hy => Nat.le_of_lt (hs'.1 y hy))]
      simp [List.idxOf_cons]
    · have hxt:x ∈ t:=by
        rcases List.mem_cons.1 hx with e | e
        · exact absurd e h
        · exact e
      rw [cntN_cons,if_pos (hs'.1 x hxt),← idx_sorted hs'.2 hxt,List.idxOf_cons]
      have hb:(u == x) = false:=by simp;exact fun e => h e.symm
      rw [hb]
      rfl
theorem idxOf_lt {us:List Nat} {x:Nat} (h:x ∈ us):us.idxOf x < us.length:=List.idxOf_lt_length_iff.2 h

structure NumSt (a us:List Nat) (k:Nat):Prop where
  perm:us.Perm (a.drop k)
  sorted:Sorted us
theorem NumSt.step {a us:List Nat} {k:Nat} (h:NumSt a us k) (hk:k < a.length) :
    a.getD k 0 ∈ us ∧ us.length = a.length - k ∧ us.idxOf (a.getD k 0) = cntLt ((zs a).drop k) (a.getD k 0:Nat) ∧ NumSt a (us.take (us.idxOf (a.getD k 0)) ++ us.drop (us.idxOf (a.getD k 0) + 1)) (k + 1):=by
  have hd:a.drop k = a.getD k 0 :: a.drop (k + 1):=by rw [getD_eq hk,← List.drop_eq_getElem_cons hk]
  have hm:a.getD k 0 ∈ us:=h.perm.mem_iff.2 (by rw [hd];exact List.mem_cons_self ..)
  have hi:us.idxOf (a.getD k 0) = cntN us (a.getD k 0):=idx_sorted h.sorted hm
  have hl:us.length = a.length - k:=by rw [h.perm.length_eq,List.length_drop]
  refine ⟨hm,hl,?_,?_,sorted_pick h.sorted _⟩
  · rw [hi,zs_drop,cntLt_zs,cntN_perm h.perm]
  · have hp:=perm_pick (idxOf_lt hm)
    have hx:us.getD (us.idxOf (a.getD k 0)) 0 = a.getD k 0:=by rw [hi];exact sorted_at h.sorted hm
    rw [hx] at hp
    have h2:=hp.trans h.perm
    rw [hd] at h2
    exact h2.cons_inv

end Go.Proofs.YtndgffiihbdppaaGreatDoor
namespace Go.Proofs.YtndgffiihbdppaaGreatDoor
set_option linter.unusedVariables false
set_option linter.unusedSimpArgs false
open Go.RowKit

theorem OwnI.nil {w:World} {base n c:Nat} {A:Option Addr} {xs:List Int} (h:OwnI w base A n c xs):A = none → n = 0 ∧ c = 0:=by
  rintro rfl
  rcases h.own.2 with ⟨hv,h0⟩ | ⟨g,cap,cur,hv,_⟩
  · injection hv with _ _ hc
    exact ⟨h0,hc⟩
  · injection hv with hv
    cases hv

def PN' (k:Nat) (a:List Nat):Prop:=isP a ∧ a.length = k

set_option maxHeartbeats 1000000 in
theorem clone_any (A:Option Addr) (n c:Nat) (xs:List Int) (w:World) (ha:IL w A n xs) (hc:A = none → n = 0 ∧ c = 0) :
    Calls Tryz.prog 56 #[.slice A n c] w (GivesOwn w xs):=by
  obtain ⟨i0,hi0,hz0,hz1,hz2⟩:=info_parts int_info
  rcases A with _ | ad
  · obtain ⟨rfl,rfl⟩:=hc rfl
    have hx:xs = []:=List.eq_nil_of_length_eq_zero ha.len
    subst hx
    have hnil:=fun (W:World) => Lib.run_eql_slice_nil (P:=Tryz.prog) W 23 3 none 0 0 0 0 Tryz.underlying23
    go_enter Tryz.func56,Tryz.ntmps56
    go_wp2
    go_ret
    exact ⟨none,0,0,rfl,OwnI.nil_ _ _,Below.refl _ _⟩
  · have hnil:=fun (W:World) => Lib.run_eql_slice_nil (P:=Tryz.prog) W 23 3 (some ad) n c 0 0 Tryz.underlying23
    have hsm:=ha.small
    have hl0:OwnI (w.alloc (.cells #[] 3)) w.heap.size (some ⟨w.heap.size,0,none⟩) 0 0 []:=OwnI.lit w [] (Nat.le_refl _) (by simp) rfl rfl rfl
    have ha1:=ha.alloc (.cells #[] 3)
    have hb1:Below w.heap.size w (w.alloc (.cells #[] 3)):=(Below.refl _ _).alloc (Nat.le_refl _) _
    go_enter Tryz.func56,Tryz.ntmps56
    go_wp2_with (at_builtin;refine wpList_append_int _ rfl (.tmp 5) (.tmp 6) 23 rfl w.heap.size i0 Tryz.underlying23 hi0 hz0 hz1 hz2 (some ⟨w.heap.size,0,none⟩) 0 0 [] rfl hl0 (some ad) n c xs rfl ha1 (by omega) (by simp) ?_;intro A9 c9 w9 happ)
    go_ret
    have ho:=happ.own
    rw [List.nil_append] at ho
    rw [Nat.zero_add] at ho
    refine ⟨_,_,_,rfl,ho,hb1.grown happ.grown (by simp) (fun g hg => by simp [Value.ownBlock] at hg;omega)⟩

structure TiSt (n:Nat) (T o b:List Nat) (m:Nat):Prop where
  po:PN' n o
  pb:PN' n b
  val:comp o (powN b m) = T
theorem TiSt.odd {n m:Nat} {T o b:List Nat} (h:TiSt n T o b m) (hm:m % 2 = 1):TiSt n T (comp o b) (comp b b) (m / 2):=by
  refine ⟨⟨comp_isP h.po.1 h.pb.1 (h.po.2.trans h.pb.2.symm),by rw [comp_length];exact h.po.2⟩,⟨comp_isP h.pb.1 h.pb.1 rfl,by rw [comp_length];exact h.pb.2⟩,?_⟩
  have:=times_step (m:=m) h.pb.1 h.po.1 h.po.2 h.pb.2
  rw [if_pos hm] at this
  rw [← this]
  exact h.val
theorem TiSt.even {n m:Nat} {T o b:List Nat} (h:TiSt n T o b m) (hm:¬ m % 2 = 1):TiSt n T o (comp b b) (m / 2):=by
  refine ⟨h.po,⟨comp_isP h.pb.1 h.pb.1 rfl,by rw [comp_length];exact h.pb.2⟩,?_⟩
  have:=times_step (m:=m) h.pb.1 h.po.1 h.po.2 h.pb.2
  rw [if_neg hm] at this
  rw [← this]
  exact h.val
theorem TiSt.done {n:Nat} {T o b:List Nat} (h:TiSt n T o b 0):o = T:=by
  have:=h.val
  rw [powN_zero,comp_range (fun x hx => by have:=h.po.1.1 x hx;have:=h.po.2;have:=h.pb.2;omega)] at this
  exact this
end Go.Proofs.YtndgffiihbdppaaGreatDoor
namespace Go.Proofs.YtndgffiihbdppaaGreatDoor
set_option linter.unusedVariables false
set_option linter.unusedSimpArgs false
open Go.RowKit

structure SL (w:World) (A:Option Addr) (n c:Nat) (xs:List Int):Prop where
  il:IL w A n xs
  nil:A = none → n = 0 ∧ c = 0
  cap:n ≤ c
theorem SL.below {w w':World} {A:Option Addr} {n c:Nat} {xs:List Int} (h:SL w A n c xs) (hb:Below w.heap.size w w'):SL w' A n c xs:=⟨h.il.below hb,h.nil,h.cap⟩
theorem SL.nil_ (w:World):SL w none 0 0 []:=⟨IL.nil_ w,fun _ => ⟨rfl,rfl⟩,Nat.le_refl _⟩
theorem OwnI.sl {w:World} {base n c:Nat} {A:Option Addr} {xs:List Int} (h:OwnI w base A n c xs):SL w A n c xs:=⟨h.il,h.nil,h.cap⟩
theorem SL.lit (w:World) (xs:List Int) (hs:xs.length ≤ 1000) {cs:Array Value} (hc:cs = (xs.map (Value.int .i64)).toArray) {m:Nat} (hm:xs.length = m):SL (w.alloc (.cells cs 3)) (some ⟨w.heap.size,0,none⟩) m m xs:=
  ⟨IL.lit w xs (by omega) hc hm,fun h => (by cases h),Nat.le_refl _⟩
theorem SL.inside {w:World} {A:Option Addr} {n c:Nat} {xs:List Int} (h:SL w A n c xs):0 < n → ∀ ad,A = some ad → ad.block < w.heap.size:=fun hn ad e => by
  obtain ⟨ad2,e2,hl,_⟩:=h.il.mem hn
  rw [e] at e2
  cases e2
  exact hl
structure SLL (w:World) (A:Option Addr) (n c:Nat) (xss:List (List Int)):Prop where
  len:xss.length = n
  small:n ≤ 17592186044416
  nil:A = none → n = 0 ∧ c = 0
  cap:n ≤ c
  mem:0 < n → ∃ ad,A = some ad ∧ ad.block < w.heap.size ∧ ∀ j,j < n → ∃ B m d,w.cell? (ad.add j) = some (.slice B m d) ∧ SL w B m d (xss.getD j [])
theorem SLL.ill {w:World} {A:Option Addr} {n c:Nat} {xss:List (List Int)} (h:SLL w A n c xss):ILL w A n xss:=
  ⟨h.len,h.small,fun h0 => by
    obtain ⟨ad,e,hl,hc⟩:=h.mem h0
    exact ⟨ad,e,hl,fun j hj => by
      obtain ⟨B,m,d,h1,h2⟩:=hc j hj
      exact ⟨B,m,d,h1,h2.il⟩⟩⟩
theorem SLL.at_ {w:World} {A:Option Addr} {n c k:Nat} {xss:List (List Int)} (h:SLL w A n c xss) (hk:k < n):∃ ad B m d,A = some ad ∧ w.cell? (ad.add k) = some (.slice B m d) ∧ SL w B m d (xss.getD k []):=by
  obtain ⟨ad,e,_,hc⟩:=h.mem (by omega)
  obtain ⟨B,m,d,h1,h2⟩:=hc k hk
  exact ⟨ad,B,m,d,e,h1,h2⟩
theorem SLL.below {w w':World} {A:Option Addr} {n c:Nat} {xss:List (List Int)} (h:SLL w A n c xss) (hb:Below w.heap.size w w'):SLL w' A n c xss:=
  ⟨h.len,h.small,h.nil,h.cap,fun hn => by
    obtain ⟨ad,e,hl,hc⟩:=h.mem hn
    refine ⟨ad,e,Nat.lt_of_lt_of_le hl hb.size,fun j hj => ?_⟩
    obtain ⟨B,m,d,h1,h2⟩:=hc j hj
    exact ⟨B,m,d,(hb.cell (p:=ad.add j) (by rw [block_of_add];exact hl)).trans h1,h2.below hb⟩⟩
theorem SLL.nil_ (w:World):SLL w none 0 0 []:=⟨rfl,by omega,fun _ => ⟨rfl,rfl⟩,Nat.le_refl _,fun h => absurd h (by omega)⟩
theorem SLL.lit {w:World} {vs:List Value} {xss:List (List Int)} (hl:vs.length = xss.length) (hs:xss.length ≤ 1000) (h:∀ j,j < xss.length → ∃ B m d,vs[j]? = some (.slice B m d) ∧ SL w B m d (xss.getD j [])) {cs:Array Value} (hc:cs = vs.toArray) {m:Nat} (hm:xss.length = m) :
    SLL (w.alloc (.cells cs 23)) (some ⟨w.heap.size,0,none⟩) m m xss:=by
  subst hc
  refine ⟨hm,by omega,fun h => (by cases h),Nat.le_refl _,fun _ => ⟨⟨w.heap.size,0,none⟩,rfl,by simp,fun j hj => ?_⟩⟩
  obtain ⟨B,n,d,h1,h2⟩:=h j (by omega)
  refine ⟨B,n,d,?_,h2.below ((Below.refl _ _).alloc (Nat.le_refl _) _)⟩
  rw [show (⟨w.heap.size,0,none⟩:Addr).add j = ⟨w.heap.size,j,none⟩ by unfold Addr.add;split <;> simp_all,(Blk.new w 23 vs.toArray).cell j]
  simpa using h1
end Go.Proofs.YtndgffiihbdppaaGreatDoor
namespace Go.Proofs.YtndgffiihbdppaaGreatDoor
set_option linter.unusedVariables false
set_option linter.unusedSimpArgs false
open Go.RowKit

theorem eq_take_ne {xs ys:List Int} {k:Nat} (hl:xs.length = ys.length) (hk:k < xs.length) (h:xs.getD k 0 ≠ ys.getD k 0):xs ≠ ys:=by
  rintro rfl;exact h rfl
theorem eq_of_getD {xs ys:List Int} (hl:xs.length = ys.length) (h:∀ j,j < xs.length → xs.getD j 0 = ys.getD j 0):xs = ys:=by
  apply List.ext_getElem hl
  intro i h1 h2
  have:=h i h1
  simpa [List.getD,List.getElem?_eq_getElem h1,List.getElem?_eq_getElem h2] using this

theorem same_succ {xs ys:List Int} {k:Nat} (h:∀ j,j < k → xs.getD j 0 = ys.getD j 0) (hk:xs.getD k 0 = ys.getD k 0):∀ j,j < k + 1 → xs.getD j 0 = ys.getD j 0:=fun j hj => by
  rcases Nat.lt_or_ge j k with h1 | h1
  · exact h j h1
  · obtain rfl:j = k:=by omega
    exact hk

set_option maxHeartbeats 1000000 in
theorem equal_any (A B:Option Addr) (n m c d:Nat) (xs ys:List Int) (w:World) (ha:IL w A n xs) (hb:IL w B m ys) :
    Calls Tryz.prog 25 #[.slice A n c,.slice B m d] w fun e w' => e = .returned (.bool (eqB xs ys)) ∧ Below w.heap.size w w':=by
  have hna:=ha.small
  have hnb:=hb.small
  have hla:=ha.len
  have hlb:=hb.len
  have HL:Hid (xs.length = n ∧ ys.length = m):=⟨hla,hlb⟩
  clear hla hlb
  by_cases hnm:n = m
  · subst hnm
    go_enter Tryz.func25,Tryz.ntmps25
    go_wp2
    go_loopw [13] (fun i wr => ∃ k:Nat,k ≤ n ∧ i = .int .i64 k ∧ Hid (∀ j,j < k → xs.getD j 0 = ys.getD j 0) ∧ Below w.heap.size w wr) (fun i _ => n - (intOf i).toNat)
    case atStart => exact ⟨0,Nat.zero_le _,rfl,(fun j hj => absurd hj (by omega)),Below.refl _ _⟩
    case round =>
      obtain ⟨k,hk,rfl,hsame,hnx⟩:=hrel
      have ha':=ha.below hnx
      have hb':=hb.below hnx
      by_cases hlt:k < n
      · obtain ⟨ad,rfl,hca⟩:=ha'.at_ hlt
        obtain ⟨bd,rfl,hcb⟩:=hb'.at_ hlt
        clear ha hb ha' hb'
        by_cases hne:xs.getD k 0 = ys.getD k 0
        · have hbne:((xs.getD k 0) != (ys.getD k 0)) = false:=by rw [hne];simp
          have HS:=hide (same_succ hsame.out hne)
          clear hne hsame
          generalize xs.getD k 0 = x at *
          generalize ys.getD k 0 = y at *
          go_wp2
          go_quiet (fail)
          go_wp2
          go_roundw
          case rel => exact ⟨k + 1,by omega,by go_num,HS,below_drewN hnx _⟩
          case measure => simp [intOf];omega
        · have hbne:((xs.getD k 0) != (ys.getD k 0)) = true:=by simpa using hne
          have HE:=hide (eqB_false (eq_take_ne (HL.out.1.trans HL.out.2.symm) (by have:=HL.out.1;omega) hne))
          clear hne hsame
          generalize xs.getD k 0 = x at *
          generalize ys.getD k 0 = y at *
          go_wp2
          go_quiet (fail)
          go_wp2
          go_ret
          rw [HE.out]
          exact ⟨rfl,below_drewN hnx _⟩
      · have HE:=hide (eqB_true (eq_of_getD (HL.out.1.trans HL.out.2.symm) (fun j hj => hsame.out j (by have:=HL.out.1;omega))))
        go_wp2
        go_ret
        rw [HE.out]
        exact ⟨rfl,hnx⟩
  · have HE:=hide (eqB_false (xs:=xs) (ys:=ys) (fun h => hnm (by have:=HL.out.1;have:=HL.out.2;subst h;omega)))
    have hb1:((n:Int) != (m:Int)) = true:=by simp;omega
    clear ha hb
    go_enter Tryz.func25,Tryz.ntmps25
    go_wp2
    go_ret
    rw [HE.out]
    exact ⟨rfl,Below.refl _ _⟩
end Go.Proofs.YtndgffiihbdppaaGreatDoor
namespace Go.Proofs.YtndgffiihbdppaaGreatDoor
set_option linter.unusedVariables false
set_option linter.unusedSimpArgs false
open Go.RowKit

abbrev PV (lo:Int) (A:Option Addr) (n c:Nat):Value:=.agg #[.int .i64 lo,.slice A n c]
def NewA (w:World) (A:Option Addr) (n:Nat):Prop:=0 < n → ∀ ad,A = some ad → w.heap.size ≤ ad.block
theorem SL.setCell {w:World} {A:Option Addr} {n c:Nat} {xs:List Int} (h:SL w A n c xs) {b:Nat} (hb:0 < n → ∀ ad,A = some ad → ad.block ≠ b) (i:Nat) (v:Value):SL (w.setCell ⟨b,i,none⟩ v) A n c xs:=
  ⟨⟨h.il.len,h.il.small,fun hn => by
    obtain ⟨ad,e,hl,hc⟩:=h.il.mem hn
    refine ⟨ad,e,by simpa using hl,fun j hj => ?_⟩
    rw [← hc j hj]
    exact World.cell?_setCell_other (w:=w) (a:=⟨b,i,none⟩) (b:=ad.add j) v (by intro e2;exact hb hn ad e (by have:=congrArg Addr.block e2;rw [block_of_add] at this;exact this.symm))⟩,h.nil,h.cap⟩
def GivesPE (w:World) (r:LP.PR) (e:Ending) (w':World):Prop:=
  ∃ A n c,e = .returned (.tuple #[PV r.2.1 A n c,.int .i64 r.1]) ∧ SL w' A n c r.2.2 ∧ NewA w A n ∧ Below w.heap.size w w'
def GivesP (w:World) (lo:Int) (cs:List Int) (e:Ending) (w':World):Prop:=
  ∃ A n c,e = .returned (PV lo A n c) ∧ SL w' A n c cs ∧ NewA w A n ∧ Below w.heap.size w w'

structure PolyC:Prop where
  check:∀ (la:Int) (A:Option Addr) (n c:Nat) (xs:List Int) (w:World),SL w A n c xs → (Lit.int .i64 la).wf = true → Calls Tryz.prog 28 #[PV la A n c] w fun e w' => e = .returned (.int .i64 (LP.pfl la xs)) ∧ Below w.heap.size w w'
  add:∀ (la:Int) (A:Option Addr) (n c:Nat) (xs:List Int) (lb:Int) (B:Option Addr) (m d:Nat) (ys:List Int) (w:World),SL w A n c xs → SL w B m d ys → (Lit.int .i64 la).wf = true → (Lit.int .i64 lb).wf = true → Calls Tryz.prog 33 #[PV la A n c,PV lb B m d] w (GivesPE w (LP.addR la xs lb ys))
  sub:∀ (la:Int) (A:Option Addr) (n c:Nat) (xs:List Int) (lb:Int) (B:Option Addr) (m d:Nat) (ys:List Int) (w:World),SL w A n c xs → SL w B m d ys → (Lit.int .i64 la).wf = true → (Lit.int .i64 lb).wf = true → Calls Tryz.prog 34 #[PV la A n c,PV lb B m d] w (GivesPE w (LP.subR la xs lb ys))
  mul:∀ (la:Int) (A:Option Addr) (n c:Nat) (xs:List Int) (lb:Int) (B:Option Addr) (m d:Nat) (ys:List Int) (w:World),SL w A n c xs → SL w B m d ys → (Lit.int .i64 la).wf = true → (Lit.int .i64 lb).wf = true → Calls Tryz.prog 47 #[PV la A n c,PV lb B m d] w (GivesPE w (LP.mulR la xs lb ys))
  eval:∀ (la:Int) (A:Option Addr) (n c:Nat) (xs:List Int) (x:Int) (w:World),SL w A n c xs → (Lit.int .i64 la).wf = true → (Lit.int .i64 x).wf = true → Calls Tryz.prog 18 #[PV la A n c,.int .i64 x] w fun e w' => e = .returned (.tuple #[.int .i64 (LP.evalV la xs x),.int .i64 (LP.evalE la xs x)]) ∧ Below w.heap.size w w'
  norm:∀ (la:Int) (A:Option Addr) (n c:Nat) (xs:List Int) (w:World),SL w A n c xs → (Lit.int .i64 la).wf = true → Calls Tryz.prog 14 #[PV la A n c] w (GivesPE w (LP.normR la xs))

theorem results_poly {fn:Func} {t:Tmp} {b:Nat} {v0 v1:Value} {w:World} (h:fn.results = #[.cell t 26]) (tmps:Array Value) (ht:tmps.getD t undef = .pointer (some ⟨b,0,none⟩)) (hb:Blk w b 26 #[v0,v1]) :
    (results fn tmps).run Tryz.prog w = .ok (.agg #[v0,v1]) w:=by
  have h0:=hb.cell 0
  have h1:=hb.cell 1
  simp at h0 h1
  have ht2:tmps[t]?.getD undef = .pointer (some ⟨b,0,none⟩):=by simpa using ht
  simp [results,h,ht2,go_sem,h0,h1,Result.andThen]

end Go.Proofs.YtndgffiihbdppaaGreatDoor
namespace Go.Proofs.YtndgffiihbdppaaGreatDoor
set_option linter.unusedVariables false
set_option linter.unusedSimpArgs false
open Go.RowKit

def lenV:Value → Nat
  | .slice _ n _ => n
  | _ => 0
theorem LP.of_zeros {C:List Int} (lo:Int) (h:∀ j,j < C.length → C.getD j 0 = 0):LP.of 0 [] = LP.of lo C:=LP.ext fun k => by
  rw [LP.co_of,LP.co_of]
  rw [if_neg (by simp only [List.length_nil];omega)]
  split
  · next hk => rw [h _ (by omega)]
  · rfl
theorem LP.of_trim {C:List Int} (lo:Int) {i m:Nat} (him:i + m ≤ C.length) (h1:∀ j,j < i → C.getD j 0 = 0) (h2:∀ j,i + m ≤ j → j < C.length → C.getD j 0 = 0):LP.of (lo + i) ((C.drop i).take m) = LP.of lo C:=LP.ext fun k => by
  have hl:((C.drop i).take m).length = m:=by simp;omega
  rw [LP.co_of,LP.co_of,hl]
  by_cases hk:lo + i ≤ k ∧ k < lo + i + m
  · rw [if_pos hk,if_pos (by omega)]
    simp only [List.getD_eq_getElem?_getD,List.getElem?_take,List.getElem?_drop]
    rw [if_pos (by omega),show i + (k - (lo + i)).toNat = (k - lo).toNat by omega]
  · rw [if_neg hk]
    split
    · next h =>
      by_cases h3:k < lo + i
      · exact (h1 _ (by omega)).symm
      · exact (h2 _ (by omega) (by omega)).symm
    · rfl
theorem SL.tail_ {w:World} {ad:Addr} {m d:Nat} {xs:List Int} (h:SL w (some ad) m d xs) (hm:0 < m):SL w (if d = 1 then some ad else some ⟨ad.block,ad.off + 1,none⟩) (m - 1) (d - 1) (xs.drop 1):=by
  have hc:=h.cap
  have hl:=h.il.len
  by_cases hd:d = 1
  · rw [if_pos hd]
    refine ⟨⟨by rw [List.length_drop];omega,by have:=h.il.small;omega,fun h0 => by omega⟩,fun e => (by cases e),by omega⟩
  · have h2:=h.il.cut (l:=1) (h:=m) (by omega) (Nat.le_refl _) hc
    unfold cutA at h2
    rw [if_neg hd] at h2
    rw [if_neg hd]
    have e:(some ad).map (·.add 1) = some (⟨ad.block,ad.off + 1,none⟩:Addr):=by simp [Addr.add]
    rw [e,List.take_of_length_le (by rw [List.length_drop];omega)] at h2
    exact ⟨h2,fun e => (by cases e),by omega⟩
theorem SL.init_ {w:World} {A:Option Addr} {m d k:Nat} {xs:List Int} (h:SL w A m d xs) (hk:k ≤ m) (hA:A ≠ none):SL w A k d (xs.take k):=⟨h.il.pre hk,fun e => absurd e hA,by have:=h.cap;omega⟩

end Go.Proofs.YtndgffiihbdppaaGreatDoor
namespace Go.Proofs.YtndgffiihbdppaaGreatDoor
set_option linter.unusedVariables false
set_option linter.unusedSimpArgs false
open Go.RowKit
namespace LP
def Rt (x:LP):Prop:=pfl (canon x).1 (canon x).2 = 0
theorem mulR_canon {x y:LP} (hx:Rt x) (hy:Rt y) (h:Rt (x * y)):mulR (canon x).1 (canon x).2 (canon y).1 (canon y).2 = (0,(canon (x * y)).1,(canon (x * y)).2):=by
  unfold Rt at *
  unfold mulR two2
  rw [if_pos hx,if_pos hy,of_canon,of_canon,fit_ok h]
theorem addR_canon {x y:LP} (hx:Rt x) (hy:Rt y) (h:Rt (x + y)):addR (canon x).1 (canon x).2 (canon y).1 (canon y).2 = (0,(canon (x + y)).1,(canon (x + y)).2):=by
  unfold Rt at *
  unfold addR two2
  rw [if_pos hx,if_pos hy,of_canon,of_canon,fit_ok h]
theorem subR_canon {x y:LP} (hx:Rt x) (hy:Rt y) (h:Rt (x + -y)):subR (canon x).1 (canon x).2 (canon y).1 (canon y).2 = (0,(canon (x + -y)).1,(canon (x + -y)).2):=by
  unfold Rt at *
  unfold subR two2
  rw [if_pos hx,if_pos hy,of_canon,of_canon,fit_ok h]
theorem Rt.wf {x:LP} (h:Rt x):(Lit.int .i64 (canon x).1).wf = true:=by
  obtain ⟨_,h1,h2,_⟩:=pfl_zero h
  have h3:IntKind.i64.min = -9223372036854775808:=by decide
  simp [Lit.wf,h3]
  omega
end LP
end Go.Proofs.YtndgffiihbdppaaGreatDoor
namespace Go.Proofs.YtndgffiihbdppaaGreatDoor
set_option linter.unusedVariables false
set_option linter.unusedSimpArgs false
open Go.RowKit
namespace LP
theorem normR_canon {x:LP} (hx:Rt x):normR (canon x).1 (canon x).2 = (0,0,normC (canon x).2):=by
  unfold Rt at hx
  unfold normR one1
  rw [if_pos hx]
theorem pw_cases (neg:Bool) (e:Int):pw neg e = 1 ∨ pw neg e = -1:=by unfold pw;split <;> simp
theorem canon_term (e s:Int) (hs:s = 1 ∨ s = -1):canon (of e [s]) = (e,[s]):=canon_of (.inr ⟨by simp,by rcases hs with rfl | rfl <;> decide,by rcases hs with rfl | rfl <;> decide⟩)
theorem of_one (e s:Int):of e [s] = term e s:=by show term e s + 0 = _;rw [CR.add_zero]
end LP
theorem i64_and1 (n:Int):bits .and .i64 n 1 = n % 2:=by
  have h1:(BitVec.ofInt 64 1).toNat = 2 ^ 1 - 1:=by decide
  have key:(BitVec.ofInt 64 n &&& BitVec.ofInt 64 1).toNat = (n % ((2 ^ 64:Nat):Int)).toNat % 2 ^ 1:=by
    rw [BitVec.toNat_and,BitVec.toNat_ofInt,h1,Nat.and_two_pow_sub_one_eq_mod]
  show IntKind.i64.wrap ((BitVec.ofInt 64 n &&& BitVec.ofInt 64 1).toNat:Nat) = n % 2
  rw [key,IntKind.wrap_i64]
  omega
end Go.Proofs.YtndgffiihbdppaaGreatDoor
