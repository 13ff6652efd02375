import Derived.Test.YtnnkeephfdkbiaaCW3
import Derived.Test.YtnnkeephfdkbiaaProg
import Derived.KernelRfl
set_option maxRecDepth 100000
namespace Go.Proofs.Ytnnkeephfdkbiaa
open Vw Go
instance globs : Inhabited GlobT := ⟨⟨[]⟩⟩
attribute [push_cast] Bool.false_eq_true List.length_replicate
attribute [bitvec_to_nat] decide_eq_true_eq decide_eq_false_iff_not Bool.not_eq_true' Bool.not_eq_false' Bool.and_eq_true Bool.or_eq_true Bool.and_eq_false_iff Bool.or_eq_false_iff Int.not_le Int.not_lt bne_iff_ne ne_eq beq_iff_eq Bool.not_eq_true Bool.not_eq_false
theorem sd {P : Prop} (h : P := by first | assumption | rfl | omega | (simp <;> omega) | (simp_all <;> omega)) : P := h
def l10r0 : List AOper :=
  [.mk (some 4) (.mv (.const (.bool false))) none []]
def l10r1 : List AOper :=
  [.mk (some 5) (.mv (.const (.int .i64 1048576))) none []]
def l10r2 : List AOper :=
  [.mk (some 9) (.mv (.tmp 0)) none [],.mk (some 10) (.mv (.tmp 5)) none [],.mk (some 11) (.call 33 [.tmp 9,.tmp 10]) none [0,1],.mk (some 5) (.mv (.tmp 11)) none [2,2,0,1,2]]
def l10r3 : List AOper :=
  [.mk (some 12) (.mv (.tmp 5)) none [],.mk (some 13) (.bin .lss (.tmp 12) (.const (.int .i64 0))) none [0]]
def l10r4 : List AOper :=
  [.mk (some 4) (.mv (.const (.bool true))) none []]
def l10r5 : List AOper :=
  [.mk (some 14) (.mv (.tmp 0)) none [],.mk (some 15) (.call 35 [.tmp 14]) none [0],.mk (some 16) (.mv (.tmp 1)) none [],.mk (some 17) (.call 34 [.tmp 15,.tmp 16]) none [1,2,1],.mk (some 6) (.mv (.tmp 17)) none [3,3,0,1,2,3]]
def l10r6 : List AOper :=
  [.mk (some 18) (.mv (.tmp 0)) none [],.mk (some 19) (.call 35 [.tmp 18]) none [0],.mk (some 7) (.mv (.tmp 19)) none [1,1,0,1]]
def l10r7 : List AOper :=
  [.mk (some 20) (.mv (.tmp 7)) none [],.mk (some 21) (.mv (.tmp 1)) none [],.mk (some 22) (.call 36 [.tmp 20,.tmp 21]) none [0,1],.mk (some 8) (.mv (.tmp 22)) none [2,2,0,1,2]]
def l10r8 : List AOper :=
  [.mk (some 23) (.mv (.tmp 8)) none [],.mk (some 24) (.mv (.tmp 6)) none [],.mk (some 25) (.binB .neq (.tmp 23) (.tmp 24)) none [0,1]]
def l10r9 : List AOper :=
  [.mk (some 4) (.mv (.const (.bool false))) none []]
def l10r10 : List AOper :=
  [.mk (some 26) (.mv (.tmp 7)) none [],.mk (some 27) (.mv (.tmp 0)) none [],.mk (some 28) (.call 35 [.tmp 27]) none [1],.mk (some 29) (.call 37 [.tmp 26,.tmp 28]) none [0,2,2],.mk (some 30) (.un .not (.tmp 29)) none [3]]
def l10r11 : List AOper :=
  [.mk (some 4) (.mv (.const (.bool false))) none []]
def l10r12 : List AOper :=
  [.mk (some 4) (.mv (.const (.bool true))) none []]
def l10 : AFn :=
  (AFn.mk 31 2 (.seq (.reg l10r0) (.seq (.reg l10r1) (.seq (.reg l10r2) (.seq (.seq (.reg l10r3) (.cond (.tmp 13) (.seq (.reg l10r4) .ret) .skip)) (.seq (.reg l10r5) (.seq (.reg l10r6) (.seq (.reg l10r7) (.seq (.seq (.reg l10r8) (.cond (.tmp 25) (.seq (.reg l10r9) .ret) .skip)) (.seq (.seq (.reg l10r10) (.cond (.tmp 30) (.seq (.reg l10r11) .ret) .skip)) (.seq (.reg l10r12) .ret)))))))))) [.tmp 4])
theorem l10_eq : lowFn Try.prog 10 = some l10 := by kernel_rfl
def l12r0 : List AOper :=
  [.mk (some 2) (.box (.tmp 0)) none [],.mk (some 4) (.mv (.const (.int .i64 0))) none []]
def l12r1 : List AOper :=
  [.mk (some 5) (.fld 1 (.tmp 2)) none [],.mk (some 6) (.load false 1 (.tmp 5)) none [0],.mk (some 7) (.mv (.tmp 1)) none [],.mk (some 8) (.call 41 [.tmp 6,.tmp 7]) none [1,2],.mk (some 1) (.mv (.tmp 8)) none [3,3,0,1,2,3]]
def l12r2 : List AOper :=
  [.mk (some 9) (.mv (.tmp 1)) none [],.mk (some 10) (.bin .lss (.tmp 9) (.const (.int .i64 0))) none [0]]
def l12r3 : List AOper :=
  [.mk (some 4) (.mv (.const (.int .i64 (-1)))) none []]
def l12r4 : List AOper :=
  [.mk (some 11) (.fld 2 (.tmp 2)) none [],.mk (some 12) (.load false 1 (.tmp 11)) none [0],.mk (some 13) (.mv (.tmp 1)) none [],.mk (some 14) (.call 41 [.tmp 12,.tmp 13]) none [1,2],.mk (some 1) (.mv (.tmp 14)) none [3,3,0,1,2,3]]
def l12r5 : List AOper :=
  [.mk (some 15) (.mv (.tmp 1)) none [],.mk (some 16) (.bin .lss (.tmp 15) (.const (.int .i64 0))) none [0]]
def l12r6 : List AOper :=
  [.mk (some 4) (.mv (.const (.int .i64 (-1)))) none []]
def l12r7 : List AOper :=
  [.mk (some 17) (.mv (.tmp 1)) none [],.mk (some 4) (.mv (.tmp 17)) none [0,0]]
def l12 : AFn :=
  (AFn.mk 18 2 (.seq (.reg l12r0) (.seq (.reg l12r1) (.seq (.seq (.reg l12r2) (.cond (.tmp 10) (.seq (.reg l12r3) .ret) .skip)) (.seq (.reg l12r4) (.seq (.seq (.reg l12r5) (.cond (.tmp 16) (.seq (.reg l12r6) .ret) .skip)) (.seq (.reg l12r7) .ret)))))) [.tmp 4])
theorem l12_eq : lowFn Try.prog 12 = some l12 := by kernel_rfl
def l14r0 : List AOper :=
  [.mk (some 1) (.box (.tmp 0)) none [],.mk (some 2) (.alloc [.int .i64 0,.slice none 0 0,.slice none 0 0]) none []]
def l14r1 : List AOper :=
  [.mk (some 3) (.alloc [.int .i64 0,.slice none 0 0,.slice none 0 0]) none []]
def l14r2 : List AOper :=
  [.mk (some 4) (.fld 0 (.tmp 1)) none [],.mk (some 5) (.load false 1 (.tmp 4)) none [0],.mk (some 6) (.fld 0 (.tmp 3)) none [0,1],.mk none (.store 1 (.tmp 6) (.tmp 5)) none [2,1,0,1]]
def l14r3 : List AOper :=
  [.mk (some 7) (.fld 1 (.tmp 1)) none [],.mk (some 8) (.load false 1 (.tmp 7)) none [0],.mk (some 9) (.call 45 [.tmp 8]) none [1],.mk (some 10) (.fld 1 (.tmp 3)) none [0,1,2],.mk none (.store 1 (.tmp 10) (.tmp 9)) none [3,2,2,0,1,2]]
def l14r4 : List AOper :=
  [.mk (some 11) (.fld 2 (.tmp 1)) none [],.mk (some 12) (.load false 1 (.tmp 11)) none [0],.mk (some 13) (.call 45 [.tmp 12]) none [1],.mk (some 14) (.fld 2 (.tmp 3)) none [0,1,2],.mk none (.store 1 (.tmp 14) (.tmp 13)) none [3,2,2,0,1,2]]
def l14r5 : List AOper :=
  [.mk (some 15) (.load true 3 (.tmp 3)) none [],.mk none (.store 3 (.tmp 2) (.tmp 15)) none [0,0]]
def l14 : AFn :=
  (AFn.mk 16 1 (.seq (.reg l14r0) (.seq (.reg l14r1) (.seq (.reg l14r2) (.seq (.reg l14r3) (.seq (.reg l14r4) (.seq (.reg l14r5) .ret)))))) [.cell 2 true 3])
theorem l14_eq : lowFn Try.prog 14 = some l14 := by kernel_rfl
def l16r0 : List AOper :=
  [.mk (some 4) (.mv (.const (.bool false))) none []]
def l16r1 : List AOper :=
  [.mk (some 6) (.mv (.tmp 0)) none [],.mk (some 7) (.len (.tmp 6)) none [0],.mk (some 8) (.mv (.tmp 1)) none [],.mk (some 9) (.len (.tmp 8)) none [2],.mk (some 10) (.bin .neq (.tmp 7) (.tmp 9)) none [1,3]]
def l16r2 : List AOper :=
  [.mk (some 4) (.mv (.const (.bool false))) none []]
def l16r3 : List AOper :=
  [.mk (some 5) (.mv (.const (.int .i64 0))) none []]
def l16r4 : List AOper :=
  [.mk (some 11) (.mv (.tmp 5)) none [],.mk (some 12) (.mv (.tmp 0)) none [],.mk (some 13) (.len (.tmp 12)) none [1],.mk (some 14) (.bin .lss (.tmp 11) (.tmp 13)) none [0,2]]
def l16r5a : List AOper :=
  [.mk (some 17) (.mv (.tmp 0)) none [],.mk (some 18) (.mv (.tmp 5)) none [],.mk (some 19) (.idxA 1 (.tmp 17) (.tmp 18)) none [0,1],.mk (some 20) (.load false 1 (.tmp 19)) none [2],.mk (some 21) (.mv (.tmp 1)) none [],.mk (some 22) (.mv (.tmp 5)) none [],.mk (some 23) (.idxA 1 (.tmp 21) (.tmp 22)) none [4,5],.mk (some 24) (.load false 1 (.tmp 23)) none [6]]
def l16r5b : List AOper :=
  [.mk (some 25) (.bin .neq (.tmp 20) (.tmp 24)) none [3,7]]
def l16r5 : List AOper := l16r5a ++ l16r5b
def l16r6 : List AOper :=
  [.mk (some 4) (.mv (.const (.bool false))) none []]
def l16r7 : List AOper :=
  [.mk (some 15) (.mv (.tmp 5)) none [],.mk (some 16) (.bin .add (.tmp 15) (.const (.int .i64 1))) none [0],.mk (some 5) (.mv (.tmp 16)) none [1,0,1]]
def l16r8 : List AOper :=
  [.mk (some 4) (.mv (.const (.bool true))) none []]
def l16 : AFn :=
  (AFn.mk 26 2 (.seq (.reg l16r0) (.seq (.seq (.reg l16r1) (.cond (.tmp 10) (.seq (.reg l16r2) .ret) .skip)) (.seq (.seq (.reg l16r3) (.block 0 (.loop (.seq (.seq (.reg l16r4) (.cond (.tmp 14) .skip (.exit 0))) (.seq (.block 1 (.seq (.draw l16r5) (.cond (.tmp 25) (.seq (.reg l16r6) .ret) .skip))) (.reg l16r7)))))) (.seq (.reg l16r8) .ret)))) [.tmp 4])
theorem l16_eq : lowFn Try.prog 16 = some l16 := by kernel_rfl
def l17r0 : List AOper :=
  [.mk (some 2) (.box (.tmp 0)) none [],.mk (some 3) (.box (.tmp 1)) none [],.mk (some 4) (.mv (.const (.bool false))) none []]
def l17r1 : List AOper :=
  [.mk (some 5) (.fld 0 (.tmp 2)) none [],.mk (some 6) (.load false 1 (.tmp 5)) none [0],.mk (some 7) (.fld 0 (.tmp 3)) none [],.mk (some 8) (.load false 1 (.tmp 7)) none [2],.mk (some 9) (.bin .neq (.tmp 6) (.tmp 8)) none [1,3]]
def l17r2 : List AOper :=
  [.mk (some 4) (.mv (.const (.bool false))) none []]
def l17r3 : List AOper :=
  [.mk (some 10) (.fld 1 (.tmp 2)) none [],.mk (some 11) (.load false 1 (.tmp 10)) none [0],.mk (some 12) (.fld 1 (.tmp 3)) none [],.mk (some 13) (.load false 1 (.tmp 12)) none [2],.mk (some 14) (.call 16 [.tmp 11,.tmp 13]) none [1,3],.mk (some 15) (.un .not (.tmp 14)) none [4]]
def l17r4 : List AOper :=
  [.mk (some 4) (.mv (.const (.bool false))) none []]
def l17r5 : List AOper :=
  [.mk (some 16) (.fld 2 (.tmp 2)) none [],.mk (some 17) (.load false 1 (.tmp 16)) none [0],.mk (some 18) (.fld 2 (.tmp 3)) none [],.mk (some 19) (.load false 1 (.tmp 18)) none [2],.mk (some 20) (.call 16 [.tmp 17,.tmp 19]) none [1,3],.mk (some 21) (.un .not (.tmp 20)) none [4]]
def l17r6 : List AOper :=
  [.mk (some 4) (.mv (.const (.bool false))) none []]
def l17r7 : List AOper :=
  [.mk (some 4) (.mv (.const (.bool true))) none []]
def l17 : AFn :=
  (AFn.mk 22 2 (.seq (.reg l17r0) (.seq (.seq (.reg l17r1) (.cond (.tmp 9) (.seq (.reg l17r2) .ret) .skip)) (.seq (.seq (.reg l17r3) (.cond (.tmp 15) (.seq (.reg l17r4) .ret) .skip)) (.seq (.seq (.reg l17r5) (.cond (.tmp 21) (.seq (.reg l17r6) .ret) .skip)) (.seq (.reg l17r7) .ret))))) [.tmp 4])
theorem l17_eq : lowFn Try.prog 17 = some l17 := by kernel_rfl
def l33r0 : List AOper :=
  [.mk (some 4) (.mv (.const (.int .i64 0))) none []]
def l33r1 : List AOper :=
  [.mk (some 6) (.mv (.tmp 1)) none [],.mk (some 7) (.mv (.tmp 0)) none [],.mk (some 8) (.len (.tmp 7)) none [1],.mk (some 9) (.bin .sub (.tmp 6) (.tmp 8)) none [0,2],.mk (some 1) (.mv (.tmp 9)) none [3,0,1,2,3]]
def l33r2 : List AOper :=
  [.mk (some 10) (.mv (.tmp 1)) none [],.mk (some 11) (.bin .lss (.tmp 10) (.const (.int .i64 0))) none [0]]
def l33r3 : List AOper :=
  [.mk (some 4) (.mv (.const (.int .i64 (-1)))) none []]
def l33r4 : List AOper :=
  [.mk (some 5) (.mv (.const (.int .i64 0))) none []]
def l33r5 : List AOper :=
  [.mk (some 12) (.mv (.tmp 5)) none [],.mk (some 13) (.mv (.tmp 0)) none [],.mk (some 14) (.len (.tmp 13)) none [1],.mk (some 15) (.bin .lss (.tmp 12) (.tmp 14)) none [0,2]]
def l33r6 : List AOper :=
  [.mk (some 18) (.mv (.tmp 0)) none [],.mk (some 19) (.mv (.tmp 5)) none [],.mk (some 20) (.idxA 3 (.tmp 18) (.tmp 19)) none [0,1],.mk (some 21) (.load true 3 (.tmp 20)) none [2],.mk (some 22) (.mv (.tmp 1)) none [],.mk (some 23) (.call 12 [.tmp 21,.tmp 22]) none [3,4],.mk (some 1) (.mv (.tmp 23)) none [5,5,0,1,2,3,4,5]]
def l33r7 : List AOper :=
  [.mk (some 24) (.mv (.tmp 1)) none [],.mk (some 25) (.bin .lss (.tmp 24) (.const (.int .i64 0))) none [0]]
def l33r8 : List AOper :=
  [.mk (some 4) (.mv (.const (.int .i64 (-1)))) none []]
def l33r9 : List AOper :=
  [.mk (some 16) (.mv (.tmp 5)) none [],.mk (some 17) (.bin .add (.tmp 16) (.const (.int .i64 1))) none [0],.mk (some 5) (.mv (.tmp 17)) none [1,0,1]]
def l33r10 : List AOper :=
  [.mk (some 26) (.mv (.tmp 1)) none [],.mk (some 4) (.mv (.tmp 26)) none [0,0]]
def l33 : AFn :=
  (AFn.mk 27 2 (.seq (.reg l33r0) (.seq (.reg l33r1) (.seq (.seq (.reg l33r2) (.cond (.tmp 11) (.seq (.reg l33r3) .ret) .skip)) (.seq (.seq (.reg l33r4) (.block 0 (.loop (.seq (.seq (.reg l33r5) (.cond (.tmp 15) .skip (.exit 0))) (.seq (.block 1 (.seq (.reg l33r6) (.seq (.reg l33r7) (.cond (.tmp 25) (.seq (.reg l33r8) .ret) .skip)))) (.reg l33r9)))))) (.seq (.reg l33r10) .ret))))) [.tmp 4])
theorem l33_eq : lowFn Try.prog 33 = some l33 := by kernel_rfl
def l34r0 : List AOper :=
  [.mk (some 4) (.mv (.const (.bool false))) none []]
def l34r1 : List AOper :=
  [.mk (some 7) (.mv (.tmp 0)) none [],.mk (some 8) (.call 60 [.tmp 7]) none [0],.mk (some 9) (.un .not (.tmp 8)) none [1],.mk (some 10) (.mv (.tmp 9)) none [2,1],.mk (some 11) (.mv (.tmp 1)) (some (10,false)) [3],.mk (some 12) (.call 61 [.tmp 11,.const (.int .i64 0),.const (.int .i64 60)]) (some (10,false)) [4,3,3],.mk (some 13) (.un .not (.tmp 12)) (some (10,false)) [5,3],.mk (some 14) (.pick (.tmp 10) (.const (.bool true)) (.tmp 13)) none [3,6]]
def l34r2 : List AOper :=
  [.mk (some 4) (.mv (.const (.bool false))) none []]
def l34r3 : List AOper :=
  [.mk (some 15) (.bslice 1 [.int .i64 0] [] 0) none [],.mk (some 5) (.mv (.tmp 15)) none [0,0]]
def l34r4 : List AOper :=
  [.mk (some 6) (.mv (.const (.int .i64 0))) none []]
def l34r5 : List AOper :=
  [.mk (some 16) (.mv (.tmp 6)) none [],.mk (some 17) (.mv (.tmp 0)) none [],.mk (some 18) (.len (.tmp 17)) none [1],.mk (some 19) (.bin .lss (.tmp 16) (.tmp 18)) none [0,2]]
def l34r6 : List AOper :=
  [.mk (some 22) (.mv (.tmp 5)) none [],.mk (some 23) (.mv (.tmp 0)) none [],.mk (some 24) (.mv (.tmp 6)) none [],.mk (some 25) (.idxA 3 (.tmp 23) (.tmp 24)) none [1,2],.mk (some 26) (.load true 3 (.tmp 25)) none [3],.mk (some 27) (.call 44 [.tmp 26]) none [4],.mk (some 28) (.append 1 (.tmp 22) (.tmp 27)) none [0,5,5],.mk (some 5) (.mv (.tmp 28)) none [6,6,0,1,2,3,4,5,6]]
def l34r7 : List AOper :=
  [.mk (some 20) (.mv (.tmp 6)) none [],.mk (some 21) (.bin .add (.tmp 20) (.const (.int .i64 1))) none [0],.mk (some 6) (.mv (.tmp 21)) none [1,0,1]]
def l34r8 : List AOper :=
  [.mk (some 29) (.mv (.tmp 5)) none [],.mk (some 30) (.call 62 [.tmp 29]) none [0],.mk (some 31) (.mv (.tmp 30)) none [1,1],.mk (some 32) (.mv (.tmp 5)) (some (31,true)) [2],.mk (some 33) (.mv (.tmp 1)) (some (31,true)) [2],.mk (some 34) (.bin .sub (.tmp 33) (.const (.int .i64 1))) (some (31,true)) [4,2],.mk (some 35) (.call 63 [.tmp 32,.const (.int .i64 0),.tmp 34]) (some (31,true)) [3,5,2,2],.mk (some 36) (.pick (.tmp 31) (.tmp 35) (.const (.bool false))) none [2,6],.mk (some 37) (.mv (.tmp 36)) none [7,6],.mk (some 38) (.mv (.tmp 5)) (some (37,true)) [8],.mk (some 39) (.len (.tmp 38)) (some (37,true)) [9,8],.mk (some 40) (.mv (.tmp 1)) (some (37,true)) [8],.mk (some 41) (.bin .eql (.tmp 39) (.tmp 40)) (some (37,true)) [10,11,8],.mk (some 42) (.pick (.tmp 37) (.tmp 41) (.const (.bool false))) none [8,12],.mk (some 4) (.mv (.tmp 42)) none [13,8,0,1,2,3,4,5,6,7,8,9,10,11,12,13]]
def l34 : AFn :=
  (AFn.mk 43 2 (.seq (.reg l34r0) (.seq (.seq (.reg l34r1) (.cond (.tmp 14) (.seq (.reg l34r2) .ret) .skip)) (.seq (.reg l34r3) (.seq (.seq (.reg l34r4) (.block 0 (.loop (.seq (.seq (.reg l34r5) (.cond (.tmp 19) .skip (.exit 0))) (.seq (.block 1 (.reg l34r6)) (.reg l34r7)))))) (.seq (.reg l34r8) .ret))))) [.tmp 4])
theorem l34_eq : lowFn Try.prog 34 = some l34 := by kernel_rfl
def l35r0 : List AOper :=
  [.mk (some 2) (.mv (.const (.slice none 0 0))) none []]
def l35r1 : List AOper :=
  [.mk (some 5) (.mv (.tmp 0)) none [],.mk (some 6) (.len (.tmp 5)) none [0],.mk (some 7) (.mkslice 3 [.int .i64 0,.slice none 0 0,.slice none 0 0] (.tmp 6) (.tmp 6)) none [1,1],.mk (some 3) (.mv (.tmp 7)) none [2,0,1,2]]
def l35r2 : List AOper :=
  [.mk (some 4) (.mv (.const (.int .i64 0))) none []]
def l35r3 : List AOper :=
  [.mk (some 8) (.mv (.tmp 4)) none [],.mk (some 9) (.mv (.tmp 0)) none [],.mk (some 10) (.len (.tmp 9)) none [1],.mk (some 11) (.bin .lss (.tmp 8) (.tmp 10)) none [0,2]]
def l35r4 : List AOper :=
  [.mk (some 14) (.mv (.tmp 3)) none [],.mk (some 15) (.mv (.tmp 4)) none [],.mk (some 16) (.mv (.tmp 0)) none [],.mk (some 17) (.mv (.tmp 4)) none [],.mk (some 18) (.idxA 3 (.tmp 16) (.tmp 17)) none [2,3],.mk (some 19) (.load true 3 (.tmp 18)) none [4],.mk (some 20) (.call 14 [.tmp 19]) none [5],.mk (some 21) (.idxA 3 (.tmp 14) (.tmp 15)) none [0,1,0,1,2,3,4,5,6],.mk none (.store 3 (.tmp 21) (.tmp 20)) none [7,6,6,0,1,2,3,4,5,6]]
def l35r5 : List AOper :=
  [.mk (some 12) (.mv (.tmp 4)) none [],.mk (some 13) (.bin .add (.tmp 12) (.const (.int .i64 1))) none [0],.mk (some 4) (.mv (.tmp 13)) none [1,0,1]]
def l35r6 : List AOper :=
  [.mk (some 22) (.mv (.tmp 3)) none [],.mk (some 2) (.mv (.tmp 22)) none [0,0]]
def l35 : AFn :=
  (AFn.mk 23 1 (.seq (.reg l35r0) (.seq (.reg l35r1) (.seq (.seq (.reg l35r2) (.block 0 (.loop (.seq (.seq (.reg l35r3) (.cond (.tmp 11) .skip (.exit 0))) (.seq (.block 1 (.reg l35r4)) (.reg l35r5)))))) (.seq (.reg l35r6) .ret)))) [.tmp 2])
theorem l35_eq : lowFn Try.prog 35 = some l35 := by kernel_rfl
def l36r0 : List AOper :=
  [.mk (some 4) (.mv (.const (.bool false))) none []]
def l36r1 : List AOper :=
  [.mk (some 7) (.mv (.tmp 0)) none [],.mk (some 8) (.call 64 [.tmp 7]) none [0],.mk (some 9) (.un .not (.tmp 8)) none [1],.mk (some 10) (.mv (.tmp 9)) none [2,1],.mk (some 11) (.mv (.tmp 1)) (some (10,false)) [3],.mk (some 12) (.call 65 [.tmp 11]) (some (10,false)) [4,3,3],.mk (some 13) (.un .not (.tmp 12)) (some (10,false)) [5,3],.mk (some 14) (.pick (.tmp 10) (.const (.bool true)) (.tmp 13)) none [3,6]]
def l36r2 : List AOper :=
  [.mk (some 4) (.mv (.const (.bool false))) none []]
def l36r3 : List AOper :=
  [.mk (some 15) (.mv (.tmp 0)) none [],.mk (some 16) (.call 54 [.tmp 15]) none [0],.mk (some 5) (.mv (.tmp 16)) none [1,1,0,1]]
def l36r4 : List AOper :=
  [.mk (some 17) (.mv (.tmp 1)) none [],.mk (some 18) (.call 66 [.const (.int .i64 0),.const (.int .i64 1),.tmp 17]) none [0],.mk (some 19) (.call 58 [.tmp 18]) none [1,1],.mk (some 6) (.mv (.tmp 19)) none [2,2,0,1,2]]
def l36r5 : List AOper :=
  [.mk (some 20) (.mv (.tmp 5)) none [],.mk (some 21) (.call 55 [.tmp 20,.const (.int .i64 1)]) none [0],.mk (some 22) (.mv (.tmp 6)) none [],.mk (some 23) (.call 49 [.tmp 21,.tmp 22]) none [1,2,1],.mk (some 24) (.mv (.tmp 23)) none [3,3],.mk (some 25) (.mv (.tmp 5)) (some (24,true)) [4],.mk (some 26) (.call 55 [.tmp 25,.const (.int .i64 2)]) (some (24,true)) [5,4,4],.mk (some 27) (.len (.tmp 26)) (some (24,true)) [6,4],.mk (some 28) (.bin .eql (.tmp 27) (.const (.int .i64 0))) (some (24,true)) [7,4],.mk (some 29) (.pick (.tmp 24) (.tmp 28) (.const (.bool false))) none [4,8],.mk (some 4) (.mv (.tmp 29)) none [9,6,0,1,2,3,4,5,6,7,8,9]]
def l36 : AFn :=
  (AFn.mk 30 2 (.seq (.reg l36r0) (.seq (.seq (.reg l36r1) (.cond (.tmp 14) (.seq (.reg l36r2) .ret) .skip)) (.seq (.reg l36r3) (.seq (.reg l36r4) (.seq (.reg l36r5) .ret))))) [.tmp 4])
theorem l36_eq : lowFn Try.prog 36 = some l36 := by kernel_rfl
def l37r0 : List AOper :=
  [.mk (some 4) (.mv (.const (.bool false))) none []]
def l37r1 : List AOper :=
  [.mk (some 6) (.mv (.tmp 0)) none [],.mk (some 7) (.len (.tmp 6)) none [0],.mk (some 8) (.mv (.tmp 1)) none [],.mk (some 9) (.len (.tmp 8)) none [2],.mk (some 10) (.bin .neq (.tmp 7) (.tmp 9)) none [1,3]]
def l37r2 : List AOper :=
  [.mk (some 4) (.mv (.const (.bool false))) none []]
def l37r3 : List AOper :=
  [.mk (some 5) (.mv (.const (.int .i64 0))) none []]
def l37r4 : List AOper :=
  [.mk (some 11) (.mv (.tmp 5)) none [],.mk (some 12) (.mv (.tmp 0)) none [],.mk (some 13) (.len (.tmp 12)) none [1],.mk (some 14) (.bin .lss (.tmp 11) (.tmp 13)) none [0,2]]
def l37r5a : List AOper :=
  [.mk (some 17) (.mv (.tmp 0)) none [],.mk (some 18) (.mv (.tmp 5)) none [],.mk (some 19) (.idxA 3 (.tmp 17) (.tmp 18)) none [0,1],.mk (some 20) (.load true 3 (.tmp 19)) none [2],.mk (some 21) (.mv (.tmp 1)) none [],.mk (some 22) (.mv (.tmp 5)) none [],.mk (some 23) (.idxA 3 (.tmp 21) (.tmp 22)) none [4,5],.mk (some 24) (.load true 3 (.tmp 23)) none [6]]
def l37r5b : List AOper :=
  [.mk (some 25) (.call 17 [.tmp 20,.tmp 24]) none [3,7],.mk (some 26) (.un .not (.tmp 25)) none [8]]
def l37r5 : List AOper := l37r5a ++ l37r5b
def l37r6 : List AOper :=
  [.mk (some 4) (.mv (.const (.bool false))) none []]
def l37r7 : List AOper :=
  [.mk (some 15) (.mv (.tmp 5)) none [],.mk (some 16) (.bin .add (.tmp 15) (.const (.int .i64 1))) none [0],.mk (some 5) (.mv (.tmp 16)) none [1,0,1]]
def l37r8 : List AOper :=
  [.mk (some 4) (.mv (.const (.bool true))) none []]
def l37 : AFn :=
  (AFn.mk 27 2 (.seq (.reg l37r0) (.seq (.seq (.reg l37r1) (.cond (.tmp 10) (.seq (.reg l37r2) .ret) .skip)) (.seq (.seq (.reg l37r3) (.block 0 (.loop (.seq (.seq (.reg l37r4) (.cond (.tmp 14) .skip (.exit 0))) (.seq (.block 1 (.seq (.draw l37r5) (.cond (.tmp 26) (.seq (.reg l37r6) .ret) .skip))) (.reg l37r7)))))) (.seq (.reg l37r8) .ret)))) [.tmp 4])
theorem l37_eq : lowFn Try.prog 37 = some l37 := by kernel_rfl
def l41r0 : List AOper :=
  [.mk (some 4) (.mv (.const (.int .i64 0))) none []]
def l41r1 : List AOper :=
  [.mk (some 5) (.mv (.tmp 1)) none [],.mk (some 6) (.mv (.tmp 0)) none [],.mk (some 7) (.len (.tmp 6)) none [1],.mk (some 8) (.bin .sub (.tmp 5) (.tmp 7)) none [0,2],.mk (some 1) (.mv (.tmp 8)) none [3,0,1,2,3]]
def l41r2 : List AOper :=
  [.mk (some 9) (.mv (.tmp 1)) none [],.mk (some 10) (.bin .lss (.tmp 9) (.const (.int .i64 0))) none [0]]
def l41r3 : List AOper :=
  [.mk (some 4) (.mv (.const (.int .i64 (-1)))) none []]
def l41r4 : List AOper :=
  [.mk (some 11) (.mv (.tmp 1)) none [],.mk (some 4) (.mv (.tmp 11)) none [0,0]]
def l41 : AFn :=
  (AFn.mk 12 2 (.seq (.reg l41r0) (.seq (.reg l41r1) (.seq (.seq (.reg l41r2) (.cond (.tmp 10) (.seq (.reg l41r3) .ret) .skip)) (.seq (.reg l41r4) .ret)))) [.tmp 4])
theorem l41_eq : lowFn Try.prog 41 = some l41 := by kernel_rfl
def l42r0 : List AOper :=
  [.mk (some 1) (.box (.tmp 0)) none [],.mk (some 2) (.mv (.const (.bool false))) none []]
def l42r1 : List AOper :=
  [.mk (some 3) (.fld 1 (.tmp 1)) none [],.mk (some 4) (.load false 1 (.tmp 3)) none [0],.mk (some 5) (.call 68 [.tmp 4]) none [1],.mk (some 6) (.mv (.tmp 5)) none [2,2],.mk (some 7) (.fld 2 (.tmp 1)) (some (6,true)) [3],.mk (some 8) (.load false 1 (.tmp 7)) (some (6,true)) [4,3],.mk (some 9) (.len (.tmp 8)) (some (6,true)) [5,3],.mk (some 10) (.fld 1 (.tmp 1)) (some (6,true)) [3],.mk (some 11) (.load false 1 (.tmp 10)) (some (6,true)) [7,3],.mk (some 12) (.len (.tmp 11)) (some (6,true)) [8,3],.mk (some 13) (.bin .eql (.tmp 9) (.tmp 12)) (some (6,true)) [6,9,3],.mk (some 14) (.pick (.tmp 6) (.tmp 13) (.const (.bool false))) none [3,10],.mk (some 15) (.mv (.tmp 14)) none [11,3],.mk (some 16) (.fld 2 (.tmp 1)) (some (15,true)) [12],.mk (some 17) (.load false 1 (.tmp 16)) (some (15,true)) [13,12],.mk (some 18) (.call 63 [.tmp 17,.const (.int .i64 (-60)),.const (.int .i64 60)]) (some (15,true)) [14,12,12],.mk (some 19) (.pick (.tmp 15) (.tmp 18) (.const (.bool false))) none [12,15],.mk (some 20) (.mv (.tmp 19)) none [16,15],.mk (some 21) (.fld 0 (.tmp 1)) (some (20,true)) [17],.mk (some 22) (.load false 1 (.tmp 21)) (some (20,true)) [18,17],.mk (some 23) (.call 61 [.tmp 22,.const (.int .i64 0),.const (.int .i64 60)]) (some (20,true)) [19,17,17],.mk (some 24) (.pick (.tmp 20) (.tmp 23) (.const (.bool false))) none [17,20],.mk (some 25) (.mv (.tmp 24)) none [21,20],.mk (some 26) (.fld 1 (.tmp 1)) (some (25,true)) [22],.mk (some 27) (.load false 1 (.tmp 26)) (some (25,true)) [23,22],.mk (some 28) (.call 69 [.tmp 27]) (some (25,true)) [24,22,22],.mk (some 29) (.bin .eql (.tmp 28) (.const (.int .i64 0))) (some (25,true)) [25,22],.mk (some 30) (.mv (.tmp 29)) (some (25,true)) [26,25,22],.mk (some 31) (.load true 3 (.tmp 1)) (some (30,false)) [27],.mk (some 32) (.call 44 [.tmp 31]) (some (30,false)) [28,27,27],.mk (some 33) (.call 63 [.tmp 32,.const (.int .i64 0),.const (.int .i64 59)]) (some (30,false)) [29,29,27],.mk (some 34) (.pick (.tmp 30) (.const (.bool true)) (.tmp 33)) (some (25,true)) [27,30,22],.mk (some 35) (.pick (.tmp 25) (.tmp 34) (.const (.bool false))) none [22,31],.mk (some 2) (.mv (.tmp 35)) none [32,30,0,1,2,3,4,5,6,7,8,9,10,11,12,13,14,15,16,17,18,19,20,21,22,23,24,25,26,27,28,29,30,31,32]]
def l42 : AFn :=
  (AFn.mk 36 1 (.seq (.reg l42r0) (.seq (.reg l42r1) .ret)) [.tmp 2])
theorem l42_eq : lowFn Try.prog 42 = some l42 := by kernel_rfl
def l44r0 : List AOper :=
  [.mk (some 1) (.box (.tmp 0)) none [],.mk (some 2) (.mv (.const (.slice none 0 0))) none []]
def l44r1 : List AOper :=
  [.mk (some 5) (.bslice 1 [.int .i64 0] [] 0) none [],.mk (some 3) (.mv (.tmp 5)) none [0,0]]
def l44r2 : List AOper :=
  [.mk (some 4) (.mv (.const (.int .i64 0))) none []]
def l44r3 : List AOper :=
  [.mk (some 6) (.mv (.tmp 4)) none [],.mk (some 7) (.fld 1 (.tmp 1)) none [],.mk (some 8) (.load false 1 (.tmp 7)) none [1],.mk (some 9) (.call 69 [.tmp 8]) none [2],.mk (some 10) (.bin .lss (.tmp 6) (.tmp 9)) none [0,3]]
def l44r4a : List AOper :=
  [.mk (some 13) (.mv (.tmp 3)) none [],.mk (some 14) (.load true 3 (.tmp 1)) none [],.mk (some 15) (.fld 1 (.tmp 1)) none [],.mk (some 16) (.load false 1 (.tmp 15)) none [2],.mk (some 17) (.mv (.tmp 4)) none [],.mk (some 18) (.call 71 [.tmp 16,.tmp 17]) none [3,4],.mk (some 19) (.call 70 [.tmp 14,.tmp 18]) none [1,5,5],.mk (some 20) (.bslice 1 [.int .i64 0] [(0,.tmp 19)] 1) none [6]]
def l44r4b : List AOper :=
  [.mk (some 21) (.append 1 (.tmp 13) (.tmp 20)) none [0,7,6],.mk (some 3) (.mv (.tmp 21)) none [8,8,0,1,2,3,4,5,6,7,8]]
def l44r4 : List AOper := l44r4a ++ l44r4b
def l44r5 : List AOper :=
  [.mk (some 11) (.mv (.tmp 4)) none [],.mk (some 12) (.bin .add (.tmp 11) (.const (.int .i64 1))) none [0],.mk (some 4) (.mv (.tmp 12)) none [1,0,1]]
def l44r6 : List AOper :=
  [.mk (some 22) (.mv (.tmp 3)) none [],.mk (some 2) (.mv (.tmp 22)) none [0,0]]
def l44 : AFn :=
  (AFn.mk 23 1 (.seq (.reg l44r0) (.seq (.reg l44r1) (.seq (.seq (.reg l44r2) (.block 0 (.loop (.seq (.seq (.reg l44r3) (.cond (.tmp 10) .skip (.exit 0))) (.seq (.block 1 (.draw l44r4)) (.reg l44r5)))))) (.seq (.reg l44r6) .ret)))) [.tmp 2])
theorem l44_eq : lowFn Try.prog 44 = some l44 := by kernel_rfl
def l45r0 : List AOper :=
  [.mk (some 2) (.mv (.const (.slice none 0 0))) none []]
def l45r1 : List AOper :=
  [.mk (some 5) (.mv (.tmp 0)) none [],.mk (some 6) (.len (.tmp 5)) none [0],.mk (some 7) (.mkslice 1 [.int .i64 0] (.tmp 6) (.tmp 6)) none [1,1],.mk (some 3) (.mv (.tmp 7)) none [2,0,1,2]]
def l45r2 : List AOper :=
  [.mk (some 4) (.mv (.const (.int .i64 0))) none []]
def l45r3 : List AOper :=
  [.mk (some 8) (.mv (.tmp 4)) none [],.mk (some 9) (.mv (.tmp 0)) none [],.mk (some 10) (.len (.tmp 9)) none [1],.mk (some 11) (.bin .lss (.tmp 8) (.tmp 10)) none [0,2]]
def l45r4 : List AOper :=
  [.mk (some 14) (.mv (.tmp 3)) none [],.mk (some 15) (.mv (.tmp 4)) none [],.mk (some 16) (.mv (.tmp 0)) none [],.mk (some 17) (.mv (.tmp 4)) none [],.mk (some 18) (.idxA 1 (.tmp 16) (.tmp 17)) none [2,3],.mk (some 19) (.load false 1 (.tmp 18)) none [4],.mk (some 20) (.idxA 1 (.tmp 14) (.tmp 15)) none [0,1,0,1,2,3,4,5],.mk none (.store 1 (.tmp 20) (.tmp 19)) none [6,5,0,1,2,3,4,5]]
def l45r5 : List AOper :=
  [.mk (some 12) (.mv (.tmp 4)) none [],.mk (some 13) (.bin .add (.tmp 12) (.const (.int .i64 1))) none [0],.mk (some 4) (.mv (.tmp 13)) none [1,0,1]]
def l45r6 : List AOper :=
  [.mk (some 21) (.mv (.tmp 3)) none [],.mk (some 2) (.mv (.tmp 21)) none [0,0]]
def l45 : AFn :=
  (AFn.mk 22 1 (.seq (.reg l45r0) (.seq (.reg l45r1) (.seq (.seq (.reg l45r2) (.block 0 (.loop (.seq (.seq (.reg l45r3) (.cond (.tmp 11) .skip (.exit 0))) (.seq (.block 1 (.reg l45r4)) (.reg l45r5)))))) (.seq (.reg l45r6) .ret)))) [.tmp 2])
theorem l45_eq : lowFn Try.prog 45 = some l45 := by kernel_rfl
def l46r0 : List AOper :=
  [.mk (some 1) (.box (.tmp 0)) none [],.mk (some 2) (.mv (.const (.bool false))) none []]
def l46r1 : List AOper :=
  [.mk (some 5) (.fld 1 (.tmp 1)) none [],.mk (some 6) (.load false 1 (.tmp 5)) none [0],.mk (some 7) (.call 72 [.tmp 6]) none [1],.mk (some 8) (.un .not (.tmp 7)) none [2],.mk (some 9) (.mv (.tmp 8)) none [3,2],.mk (some 10) (.fld 2 (.tmp 1)) (some (9,false)) [4],.mk (some 11) (.load false 1 (.tmp 10)) (some (9,false)) [5,4],.mk (some 12) (.fld 1 (.tmp 1)) (some (9,false)) [4],.mk (some 13) (.load false 1 (.tmp 12)) (some (9,false)) [7,4],.mk (some 14) (.len (.tmp 13)) (some (9,false)) [8,4],.mk (some 15) (.call 73 [.tmp 11,.tmp 14]) (some (9,false)) [6,9,4,4],.mk (some 16) (.un .not (.tmp 15)) (some (9,false)) [10,4],.mk (some 17) (.pick (.tmp 9) (.const (.bool true)) (.tmp 16)) none [4,11],.mk (some 18) (.mv (.tmp 17)) none [12,10],.mk (some 19) (.fld 0 (.tmp 1)) (some (18,false)) [13],.mk (some 20) (.load false 1 (.tmp 19)) (some (18,false)) [14,13],.mk (some 21) (.call 74 [.tmp 20,.const (.int .i64 60)]) (some (18,false)) [15,13,13],.mk (some 22) (.un .not (.tmp 21)) (some (18,false)) [16,13],.mk (some 23) (.pick (.tmp 18) (.const (.bool true)) (.tmp 22)) none [13,17]]
def l46r2 : List AOper :=
  [.mk (some 2) (.mv (.const (.bool false))) none []]
def l46r3 : List AOper :=
  [.mk (some 25) (.load true 3 (.tmp 1)) none [],.mk (some 26) (.call 75 [.tmp 25]) none [0],.mk (some 24) (.mv (.tmp 26)) none [1],.mk (some 27) (.extract (.tmp 24) 0) none [2],.mk (some 28) (.extract (.tmp 24) 1) none [2],.mk (some 3) (.mv (.tmp 27)) none [3,1,0,1,2,3],.mk (some 4) (.mv (.tmp 28)) none [4,5,0,1,2,3,4,5]]
def l46r4 : List AOper :=
  [.mk (some 29) (.load true 3 (.tmp 1)) none [],.mk (some 30) (.call 76 [.tmp 29]) none [0],.mk (some 31) (.bin .eql (.tmp 30) (.const (.int .i64 0))) none [1],.mk (some 32) (.mv (.tmp 31)) none [2,1],.mk (some 33) (.mv (.tmp 3)) (some (32,false)) [3],.mk (some 34) (.bin .geq (.tmp 33) (.const (.int .i64 0))) (some (32,false)) [4,3],.mk (some 35) (.mv (.tmp 34)) (some (32,false)) [5,3,3],.mk (some 36) (.mv (.tmp 4)) (some (35,true)) [6],.mk (some 37) (.bin .lss (.tmp 36) (.const (.int .i64 60))) (some (35,true)) [7,6],.mk (some 38) (.pick (.tmp 35) (.tmp 37) (.const (.bool false))) (some (32,false)) [6,8,3],.mk (some 39) (.pick (.tmp 32) (.const (.bool true)) (.tmp 38)) none [3,9],.mk (some 2) (.mv (.tmp 39)) none [10,6,0,1,2,3,4,5,6,7,8,9,10]]
def l46 : AFn :=
  (AFn.mk 40 1 (.seq (.reg l46r0) (.seq (.seq (.reg l46r1) (.cond (.tmp 23) (.seq (.reg l46r2) .ret) .skip)) (.seq (.reg l46r3) (.seq (.reg l46r4) .ret)))) [.tmp 2])
theorem l46_eq : lowFn Try.prog 46 = some l46 := by kernel_rfl
def l48r0 : List AOper :=
  [.mk (some 4) (.mv (.const (.int .i64 0))) none []]
def l48r1 : List AOper :=
  [.mk (some 5) (.mv (.const (.int .i64 0))) none []]
def l48r2 : List AOper :=
  [.mk (some 6) (.mv (.tmp 5)) none [],.mk (some 7) (.mv (.tmp 0)) none [],.mk (some 8) (.len (.tmp 7)) none [1],.mk (some 9) (.bin .lss (.tmp 6) (.tmp 8)) none [0,2]]
def l48r3 : List AOper :=
  [.mk (some 12) (.mv (.tmp 0)) none [],.mk (some 13) (.mv (.tmp 5)) none [],.mk (some 14) (.idxA 1 (.tmp 12) (.tmp 13)) none [0,1],.mk (some 15) (.load false 1 (.tmp 14)) none [2],.mk (some 16) (.mv (.tmp 1)) none [],.mk (some 17) (.bin .eql (.tmp 15) (.tmp 16)) none [3,4]]
def l48r4 : List AOper :=
  [.mk (some 18) (.mv (.tmp 5)) none [],.mk (some 4) (.mv (.tmp 18)) none [0,0]]
def l48r5 : List AOper :=
  [.mk (some 10) (.mv (.tmp 5)) none [],.mk (some 11) (.bin .add (.tmp 10) (.const (.int .i64 1))) none [0],.mk (some 5) (.mv (.tmp 11)) none [1,0,1]]
def l48r6 : List AOper :=
  [.mk (some 4) (.mv (.const (.int .i64 (-1)))) none []]
def l48 : AFn :=
  (AFn.mk 19 2 (.seq (.reg l48r0) (.seq (.seq (.reg l48r1) (.block 0 (.loop (.seq (.seq (.reg l48r2) (.cond (.tmp 9) .skip (.exit 0))) (.seq (.block 1 (.seq (.reg l48r3) (.cond (.tmp 17) (.seq (.reg l48r4) .ret) .skip))) (.reg l48r5)))))) (.seq (.reg l48r6) .ret))) [.tmp 4])
theorem l48_eq : lowFn Try.prog 48 = some l48 := by kernel_rfl
def l49r0 : List AOper :=
  [.mk (some 4) (.mv (.const (.bool false))) none []]
def l49r1 : List AOper :=
  [.mk (some 6) (.mv (.tmp 0)) none [],.mk (some 7) (.len (.tmp 6)) none [0],.mk (some 8) (.mv (.tmp 1)) none [],.mk (some 9) (.len (.tmp 8)) none [2],.mk (some 10) (.bin .neq (.tmp 7) (.tmp 9)) none [1,3]]
def l49r2 : List AOper :=
  [.mk (some 4) (.mv (.const (.bool false))) none []]
def l49r3 : List AOper :=
  [.mk (some 11) (.mv (.tmp 0)) none [],.mk (some 12) (.len (.tmp 11)) none [0],.mk (some 13) (.mv (.const (.int .i64 0))) none []]
def l49r4 : List AOper :=
  [.mk (some 14) (.bin .lss (.tmp 13) (.tmp 12)) none []]
def l49r5 : List AOper :=
  [.mk (some 15) (.mv (.tmp 13)) none [],.mk (some 5) (.mv (.tmp 15)) none [0,0]]
def l49r6a : List AOper :=
  [.mk (some 16) (.mv (.tmp 0)) none [],.mk (some 17) (.mv (.tmp 5)) none [],.mk (some 18) (.idxA 1 (.tmp 16) (.tmp 17)) none [0,1],.mk (some 19) (.load false 1 (.tmp 18)) none [2],.mk (some 20) (.mv (.tmp 1)) none [],.mk (some 21) (.mv (.tmp 5)) none [],.mk (some 22) (.idxA 1 (.tmp 20) (.tmp 21)) none [4,5],.mk (some 23) (.load false 1 (.tmp 22)) none [6]]
def l49r6b : List AOper :=
  [.mk (some 24) (.bin .neq (.tmp 19) (.tmp 23)) none [3,7]]
def l49r6 : List AOper := l49r6a ++ l49r6b
def l49r7 : List AOper :=
  [.mk (some 4) (.mv (.const (.bool false))) none []]
def l49r8 : List AOper :=
  [.mk (some 25) (.bin .add (.tmp 13) (.const (.int .i64 1))) none [],.mk (some 13) (.mv (.tmp 25)) none [0]]
def l49r9 : List AOper :=
  [.mk (some 4) (.mv (.const (.bool true))) none []]
def l49 : AFn :=
  (AFn.mk 26 2 (.seq (.reg l49r0) (.seq (.seq (.reg l49r1) (.cond (.tmp 10) (.seq (.reg l49r2) .ret) .skip)) (.seq (.seq (.reg l49r3) (.block 0 (.loop (.seq (.reg l49r4) (.seq (.cond (.tmp 14) .skip (.exit 0)) (.seq (.block 1 (.seq (.reg l49r5) (.seq (.draw l49r6) (.cond (.tmp 24) (.seq (.reg l49r7) .ret) .skip)))) (.reg l49r8))))))) (.seq (.reg l49r9) .ret)))) [.tmp 4])
theorem l49_eq : lowFn Try.prog 49 = some l49 := by kernel_rfl
def l52r0 : List AOper :=
  [.mk (some 1) (.box (.tmp 0)) none [],.mk (some 2) (.mv (.const (.slice none 0 0))) none []]
def l52r1 : List AOper :=
  [.mk (some 5) (.load true 3 (.tmp 1)) none [],.mk (some 6) (.call 76 [.tmp 5]) none [0],.mk (some 7) (.mkslice 1 [.int .i64 0] (.tmp 6) (.tmp 6)) none [1,1],.mk (some 3) (.mv (.tmp 7)) none [2,1,0,1,2]]
def l52r2 : List AOper :=
  [.mk (some 8) (.mv (.tmp 3)) none [],.mk (some 9) (.len (.tmp 8)) none [0],.mk (some 10) (.mv (.const (.int .i64 0))) none []]
def l52r3 : List AOper :=
  [.mk (some 11) (.bin .lss (.tmp 10) (.tmp 9)) none []]
def l52r4 : List AOper :=
  [.mk (some 12) (.mv (.tmp 10)) none [],.mk (some 4) (.mv (.tmp 12)) none [0,0]]
def l52r5a : List AOper :=
  [.mk (some 13) (.mv (.tmp 3)) none [],.mk (some 14) (.mv (.tmp 4)) none [],.mk (some 15) (.load true 3 (.tmp 1)) none [],.mk (some 16) (.fld 1 (.tmp 1)) none [],.mk (some 17) (.load false 1 (.tmp 16)) none [3],.mk (some 18) (.mv (.tmp 4)) none [],.mk (some 19) (.call 78 [.tmp 17,.tmp 18]) none [4,5],.mk (some 20) (.call 77 [.tmp 15,.tmp 19]) none [2,6,6]]
def l52r5b : List AOper :=
  [.mk (some 21) (.idxA 1 (.tmp 13) (.tmp 14)) none [0,1,0,1,2,3,4,5,6,7],.mk none (.store 1 (.tmp 21) (.tmp 20)) none [8,7,7,0,1,2,3,4,5,6,7]]
def l52r5 : List AOper := l52r5a ++ l52r5b
def l52r6 : List AOper :=
  [.mk (some 22) (.bin .add (.tmp 10) (.const (.int .i64 1))) none [],.mk (some 10) (.mv (.tmp 22)) none [0]]
def l52r7 : List AOper :=
  [.mk (some 23) (.mv (.tmp 3)) none [],.mk (some 2) (.mv (.tmp 23)) none [0,0]]
def l52 : AFn :=
  (AFn.mk 24 1 (.seq (.reg l52r0) (.seq (.reg l52r1) (.seq (.seq (.reg l52r2) (.block 0 (.loop (.seq (.reg l52r3) (.seq (.cond (.tmp 11) .skip (.exit 0)) (.seq (.block 1 (.seq (.reg l52r4) (.draw l52r5))) (.reg l52r6))))))) (.seq (.reg l52r7) .ret)))) [.tmp 2])
theorem l52_eq : lowFn Try.prog 52 = some l52 := by kernel_rfl
def l54r0 : List AOper :=
  [.mk (some 2) (.mv (.const (.map none))) none []]
def l54r1 : List AOper :=
  [.mk (some 6) (.raw (Op.makeMap 52 none)) none [],.mk (some 3) (.mv (.tmp 6)) none [0,0]]
def l54r2 : List AOper :=
  [.mk (some 7) (.mv (.tmp 0)) none [],.mk (some 8) (.len (.tmp 7)) none [0],.mk (some 9) (.mv (.const (.int .i64 0))) none []]
def l54r3 : List AOper :=
  [.mk (some 10) (.bin .lss (.tmp 9) (.tmp 8)) none []]
def l54r4 : List AOper :=
  [.mk (some 11) (.idxA 3 (.tmp 7) (.tmp 9)) none [],.mk (some 12) (.load true 3 (.tmp 11)) none [0],.mk (some 5) (.alloc [.int .i64 0,.slice none 0 0,.slice none 0 0]) none [],.mk none (.store 3 (.tmp 5) (.tmp 12)) none [2,1,0,1,2]]
def l54r5 : List AOper :=
  [.mk (some 13) (.mv (.tmp 3)) none [],.mk (some 14) (.load true 3 (.tmp 5)) none [],.mk (some 15) (.call 52 [.tmp 14]) none [1],.mk (some 16) (.call 67 [.tmp 13,.tmp 15]) none [0,2,2]]
def l54r6 : List AOper :=
  [.mk (some 17) (.bin .add (.tmp 9) (.const (.int .i64 1))) none [],.mk (some 9) (.mv (.tmp 17)) none [0]]
def l54r7 : List AOper :=
  [.mk (some 18) (.mv (.tmp 3)) none [],.mk (some 2) (.mv (.tmp 18)) none [0,0]]
def l54 : AFn :=
  (AFn.mk 19 1 (.seq (.reg l54r0) (.seq (.reg l54r1) (.seq (.seq (.reg l54r2) (.block 0 (.loop (.seq (.reg l54r3) (.seq (.cond (.tmp 10) .skip (.exit 0)) (.seq (.block 1 (.seq (.reg l54r4) (.reg l54r5))) (.reg l54r6))))))) (.seq (.reg l54r7) .ret)))) [.tmp 2])
theorem l54_eq : lowFn Try.prog 54 = some l54 := by kernel_rfl
def l55r0 : List AOper :=
  [.mk (some 4) (.mv (.const (.slice none 0 0))) none []]
def l55r1 : List AOper :=
  [.mk (some 5) (.mv (.const (.slice none 0 0))) none []]
def l55r2 : List AOper :=
  [.mk (some 8) (.mv (.tmp 0)) none [],.mk (some 9) (.raw (Op.range 52 (.tmp 8))) none [0]]
def l55r3 : List AOper :=
  [.mk (some 10) (.raw (Op.next (.tmp 9) false)) none [],.mk (some 11) (.extract (.tmp 10) 0) none [0]]
def l55r4 : List AOper :=
  [.mk (some 12) (.raw (Op.entry (.tmp 9))) none [],.mk (some 13) (.extract (.tmp 12) 0) none [0],.mk (some 14) (.extract (.tmp 12) 1) none [0],.mk (some 6) (.mv (.tmp 13)) none [1,0,1],.mk (some 7) (.mv (.tmp 14)) none [2,3,0,1,2,3]]
def l55r5 : List AOper :=
  [.mk (some 15) (.mv (.tmp 7)) none [],.mk (some 16) (.mv (.tmp 1)) none [],.mk (some 17) (.bin .geq (.tmp 15) (.tmp 16)) none [0,1]]
def l55r6 : List AOper :=
  [.mk (some 18) (.mv (.tmp 5)) none [],.mk (some 19) (.mv (.tmp 6)) none [],.mk (some 20) (.bslice 1 [.int .i64 0] [(0,.tmp 19)] 1) none [1],.mk (some 21) (.append 1 (.tmp 18) (.tmp 20)) none [0,2],.mk (some 5) (.mv (.tmp 21)) none [3,3,0,1,2,3]]
def l55r7 : List AOper :=
  [.mk (some 22) (.mv (.tmp 5)) none [],.mk (some 23) (.call 79 [.tmp 22]) none [0]]
def l55r8 : List AOper :=
  [.mk (some 24) (.mv (.tmp 5)) none [],.mk (some 4) (.mv (.tmp 24)) none [0,0]]
def l55 : AFn :=
  (AFn.mk 25 2 (.seq (.reg l55r0) (.seq (.reg l55r1) (.seq (.seq (.reg l55r2) (.block 0 (.loop (.seq (.reg l55r3) (.seq (.cond (.tmp 11) .skip (.exit 0)) (.block 1 (.seq (.reg l55r4) (.seq (.reg l55r5) (.cond (.tmp 17) (.reg l55r6) .skip))))))))) (.seq (.reg l55r7) (.seq (.reg l55r8) .ret))))) [.tmp 4])
theorem l55_eq : lowFn Try.prog 55 = some l55 := by kernel_rfl
def l58r0 : List AOper :=
  [.mk (some 1) (.box (.tmp 0)) none [],.mk (some 2) (.mv (.const (.slice none 0 0))) none []]
def l58r1 : List AOper :=
  [.mk (some 5) (.load true 3 (.tmp 1)) none [],.mk (some 6) (.call 81 [.tmp 5]) none [0],.mk (some 7) (.mkslice 1 [.int .i64 0] (.tmp 6) (.tmp 6)) none [1,1],.mk (some 3) (.mv (.tmp 7)) none [2,1,0,1,2]]
def l58r2 : List AOper :=
  [.mk (some 8) (.mv (.tmp 3)) none [],.mk (some 9) (.len (.tmp 8)) none [0],.mk (some 10) (.mv (.const (.int .i64 0))) none []]
def l58r3 : List AOper :=
  [.mk (some 11) (.bin .lss (.tmp 10) (.tmp 9)) none []]
def l58r4 : List AOper :=
  [.mk (some 12) (.mv (.tmp 10)) none [],.mk (some 4) (.mv (.tmp 12)) none [0,0]]
def l58r5 : List AOper :=
  [.mk (some 13) (.mv (.tmp 3)) none [],.mk (some 14) (.mv (.tmp 4)) none [],.mk (some 15) (.load true 3 (.tmp 1)) none [],.mk (some 16) (.mv (.tmp 4)) none [],.mk (some 17) (.call 82 [.tmp 15,.tmp 16]) none [2,3],.mk (some 18) (.idxA 1 (.tmp 13) (.tmp 14)) none [0,1,0,1,2,3,4],.mk none (.store 1 (.tmp 18) (.tmp 17)) none [5,4,4,0,1,2,3,4]]
def l58r6 : List AOper :=
  [.mk (some 19) (.bin .add (.tmp 10) (.const (.int .i64 1))) none [],.mk (some 10) (.mv (.tmp 19)) none [0]]
def l58r7 : List AOper :=
  [.mk (some 20) (.mv (.tmp 3)) none [],.mk (some 2) (.mv (.tmp 20)) none [0,0]]
def l58 : AFn :=
  (AFn.mk 21 1 (.seq (.reg l58r0) (.seq (.reg l58r1) (.seq (.seq (.reg l58r2) (.block 0 (.loop (.seq (.reg l58r3) (.seq (.cond (.tmp 11) .skip (.exit 0)) (.seq (.block 1 (.seq (.reg l58r4) (.reg l58r5))) (.reg l58r6))))))) (.seq (.reg l58r7) .ret)))) [.tmp 2])
theorem l58_eq : lowFn Try.prog 58 = some l58 := by kernel_rfl
def l60r0 : List AOper :=
  [.mk (some 2) (.mv (.const (.bool false))) none []]
def l60r1 : List AOper :=
  [.mk (some 3) (.mv (.const (.int .i64 0))) none []]
def l60r2 : List AOper :=
  [.mk (some 4) (.mv (.tmp 3)) none [],.mk (some 5) (.mv (.tmp 0)) none [],.mk (some 6) (.len (.tmp 5)) none [1],.mk (some 7) (.bin .lss (.tmp 4) (.tmp 6)) none [0,2]]
def l60r3 : List AOper :=
  [.mk (some 10) (.mv (.tmp 0)) none [],.mk (some 11) (.mv (.tmp 3)) none [],.mk (some 12) (.idxA 3 (.tmp 10) (.tmp 11)) none [0,1],.mk (some 13) (.load true 3 (.tmp 12)) none [2],.mk (some 14) (.call 42 [.tmp 13]) none [3],.mk (some 15) (.un .not (.tmp 14)) none [4]]
def l60r4 : List AOper :=
  [.mk (some 2) (.mv (.const (.bool false))) none []]
def l60r5 : List AOper :=
  [.mk (some 8) (.mv (.tmp 3)) none [],.mk (some 9) (.bin .add (.tmp 8) (.const (.int .i64 1))) none [0],.mk (some 3) (.mv (.tmp 9)) none [1,0,1]]
def l60r6 : List AOper :=
  [.mk (some 16) (.mv (.tmp 0)) none [],.mk (some 17) (.len (.tmp 16)) none [0],.mk (some 18) (.bin .leq (.tmp 17) (.const (.int .i64 8))) none [1],.mk (some 2) (.mv (.tmp 18)) none [2,0,1,2]]
def l60 : AFn :=
  (AFn.mk 19 1 (.seq (.reg l60r0) (.seq (.seq (.reg l60r1) (.block 0 (.loop (.seq (.seq (.reg l60r2) (.cond (.tmp 7) .skip (.exit 0))) (.seq (.block 1 (.seq (.reg l60r3) (.cond (.tmp 15) (.seq (.reg l60r4) .ret) .skip))) (.reg l60r5)))))) (.seq (.reg l60r6) .ret))) [.tmp 2])
theorem l60_eq : lowFn Try.prog 60 = some l60 := by kernel_rfl
def l61r0 : List AOper :=
  [.mk (some 6) (.mv (.const (.bool false))) none []]
def l61r1 : List AOper :=
  [.mk (some 7) (.mv (.tmp 1)) none [],.mk (some 8) (.mv (.tmp 0)) none [],.mk (some 9) (.bin .leq (.tmp 7) (.tmp 8)) none [0,1],.mk (some 10) (.mv (.tmp 9)) none [2],.mk (some 11) (.mv (.tmp 0)) (some (10,true)) [3],.mk (some 12) (.mv (.tmp 2)) (some (10,true)) [3],.mk (some 13) (.bin .leq (.tmp 11) (.tmp 12)) (some (10,true)) [4,5,3],.mk (some 14) (.pick (.tmp 10) (.tmp 13) (.const (.bool false))) none [3,6],.mk (some 6) (.mv (.tmp 14)) none [7,3,0,1,2,3,4,5,6,7]]
def l61 : AFn :=
  (AFn.mk 15 3 (.seq (.reg l61r0) (.seq (.reg l61r1) .ret)) [.tmp 6])
theorem l61_eq : lowFn Try.prog 61 = some l61 := by kernel_rfl
def l62r0 : List AOper :=
  [.mk (some 2) (.mv (.const (.bool false))) none []]
def l62r1 : List AOper :=
  [.mk (some 3) (.mv (.const (.int .i64 0))) none []]
def l62r2 : List AOper :=
  [.mk (some 4) (.mv (.tmp 3)) none [],.mk (some 5) (.mv (.tmp 0)) none [],.mk (some 6) (.len (.tmp 5)) none [1],.mk (some 7) (.bin .lss (.tmp 4) (.tmp 6)) none [0,2]]
def l62r3a : List AOper :=
  [.mk (some 10) (.mv (.tmp 0)) none [],.mk (some 11) (.mv (.tmp 3)) none [],.mk (some 12) (.slice 1 (.tmp 10) none (some (.tmp 11))) none [0,1],.mk (some 13) (.mv (.tmp 0)) none [],.mk (some 14) (.mv (.tmp 3)) none [],.mk (some 15) (.idxA 1 (.tmp 13) (.tmp 14)) none [3,4],.mk (some 16) (.load false 1 (.tmp 15)) none [5]]
def l62r3b : List AOper :=
  [.mk (some 17) (.call 48 [.tmp 12,.tmp 16]) none [2,6],.mk (some 18) (.bin .geq (.tmp 17) (.const (.int .i64 0))) none [7]]
def l62r3 : List AOper := l62r3a ++ l62r3b
def l62r4 : List AOper :=
  [.mk (some 2) (.mv (.const (.bool false))) none []]
def l62r5 : List AOper :=
  [.mk (some 8) (.mv (.tmp 3)) none [],.mk (some 9) (.bin .add (.tmp 8) (.const (.int .i64 1))) none [0],.mk (some 3) (.mv (.tmp 9)) none [1,0,1]]
def l62r6 : List AOper :=
  [.mk (some 2) (.mv (.const (.bool true))) none []]
def l62 : AFn :=
  (AFn.mk 19 1 (.seq (.reg l62r0) (.seq (.seq (.reg l62r1) (.block 0 (.loop (.seq (.seq (.reg l62r2) (.cond (.tmp 7) .skip (.exit 0))) (.seq (.block 1 (.seq (.draw l62r3) (.cond (.tmp 18) (.seq (.reg l62r4) .ret) .skip))) (.reg l62r5)))))) (.seq (.reg l62r6) .ret))) [.tmp 2])
theorem l62_eq : lowFn Try.prog 62 = some l62 := by kernel_rfl
def l63r0 : List AOper :=
  [.mk (some 6) (.mv (.const (.bool false))) none []]
def l63r1 : List AOper :=
  [.mk (some 7) (.mv (.const (.int .i64 0))) none []]
def l63r2 : List AOper :=
  [.mk (some 8) (.mv (.tmp 7)) none [],.mk (some 9) (.mv (.tmp 0)) none [],.mk (some 10) (.len (.tmp 9)) none [1],.mk (some 11) (.bin .lss (.tmp 8) (.tmp 10)) none [0,2]]
def l63r3 : List AOper :=
  [.mk (some 14) (.mv (.tmp 0)) none [],.mk (some 15) (.mv (.tmp 7)) none [],.mk (some 16) (.idxA 1 (.tmp 14) (.tmp 15)) none [0,1],.mk (some 17) (.load false 1 (.tmp 16)) none [2],.mk (some 18) (.mv (.tmp 1)) none [],.mk (some 19) (.mv (.tmp 2)) none [],.mk (some 20) (.call 61 [.tmp 17,.tmp 18,.tmp 19]) none [3,4,5],.mk (some 21) (.un .not (.tmp 20)) none [6]]
def l63r4 : List AOper :=
  [.mk (some 6) (.mv (.const (.bool false))) none []]
def l63r5 : List AOper :=
  [.mk (some 12) (.mv (.tmp 7)) none [],.mk (some 13) (.bin .add (.tmp 12) (.const (.int .i64 1))) none [0],.mk (some 7) (.mv (.tmp 13)) none [1,0,1]]
def l63r6 : List AOper :=
  [.mk (some 6) (.mv (.const (.bool true))) none []]
def l63 : AFn :=
  (AFn.mk 22 3 (.seq (.reg l63r0) (.seq (.seq (.reg l63r1) (.block 0 (.loop (.seq (.seq (.reg l63r2) (.cond (.tmp 11) .skip (.exit 0))) (.seq (.block 1 (.seq (.reg l63r3) (.cond (.tmp 21) (.seq (.reg l63r4) .ret) .skip))) (.reg l63r5)))))) (.seq (.reg l63r6) .ret))) [.tmp 6])
theorem l63_eq : lowFn Try.prog 63 = some l63 := by kernel_rfl
def l64r0 : List AOper :=
  [.mk (some 2) (.mv (.const (.bool false))) none []]
def l64r1 : List AOper :=
  [.mk (some 5) (.mv (.tmp 0)) none [],.mk (some 6) (.len (.tmp 5)) none [0],.mk (some 7) (.bin .gtr (.tmp 6) (.const (.int .i64 8))) none [1]]
def l64r2 : List AOper :=
  [.mk (some 2) (.mv (.const (.bool false))) none []]
def l64r3 : List AOper :=
  [.mk (some 8) (.mv (.tmp 0)) none [],.mk (some 9) (.len (.tmp 8)) none [0],.mk (some 10) (.mv (.const (.int .i64 0))) none []]
def l64r4 : List AOper :=
  [.mk (some 11) (.bin .lss (.tmp 10) (.tmp 9)) none []]
def l64r5 : List AOper :=
  [.mk (some 12) (.idxA 3 (.tmp 8) (.tmp 10)) none [],.mk (some 13) (.load true 3 (.tmp 12)) none [0],.mk (some 4) (.alloc [.int .i64 0,.slice none 0 0,.slice none 0 0]) none [],.mk none (.store 3 (.tmp 4) (.tmp 13)) none [2,1,0,1,2]]
def l64r6 : List AOper :=
  [.mk (some 14) (.load true 3 (.tmp 4)) none [],.mk (some 15) (.call 46 [.tmp 14]) none [0],.mk (some 16) (.un .not (.tmp 15)) none [1]]
def l64r7 : List AOper :=
  [.mk (some 2) (.mv (.const (.bool false))) none []]
def l64r8 : List AOper :=
  [.mk (some 17) (.bin .add (.tmp 10) (.const (.int .i64 1))) none [],.mk (some 10) (.mv (.tmp 17)) none [0]]
def l64r9 : List AOper :=
  [.mk (some 2) (.mv (.const (.bool true))) none []]
def l64 : AFn :=
  (AFn.mk 18 1 (.seq (.reg l64r0) (.seq (.seq (.reg l64r1) (.cond (.tmp 7) (.seq (.reg l64r2) .ret) .skip)) (.seq (.seq (.reg l64r3) (.block 0 (.loop (.seq (.reg l64r4) (.seq (.cond (.tmp 11) .skip (.exit 0)) (.seq (.block 1 (.seq (.reg l64r5) (.seq (.reg l64r6) (.cond (.tmp 16) (.seq (.reg l64r7) .ret) .skip)))) (.reg l64r8))))))) (.seq (.reg l64r9) .ret)))) [.tmp 2])
theorem l64_eq : lowFn Try.prog 64 = some l64 := by kernel_rfl
def l65r0 : List AOper :=
  [.mk (some 2) (.mv (.const (.bool false))) none []]
def l65r1 : List AOper :=
  [.mk (some 3) (.mv (.tmp 0)) none [],.mk (some 4) (.bin .leq (.const (.int .i64 0)) (.tmp 3)) none [0],.mk (some 5) (.mv (.tmp 4)) none [1],.mk (some 6) (.mv (.tmp 0)) (some (5,true)) [2],.mk (some 7) (.bin .leq (.tmp 6) (.const (.int .i64 60))) (some (5,true)) [3,2],.mk (some 8) (.pick (.tmp 5) (.tmp 7) (.const (.bool false))) none [2,4],.mk (some 2) (.mv (.tmp 8)) none [5,2,0,1,2,3,4,5]]
def l65 : AFn :=
  (AFn.mk 9 1 (.seq (.reg l65r0) (.seq (.reg l65r1) .ret)) [.tmp 2])
theorem l65_eq : lowFn Try.prog 65 = some l65 := by kernel_rfl
def l66r0 : List AOper :=
  [.mk (some 6) (.alloc [.int .i64 0,.int .i64 0,.int .i64 0]) none []]
def l66r1 : List AOper :=
  [.mk (some 8) (.mv (.tmp 2)) none [],.mk (some 9) (.bin .lss (.tmp 8) (.const (.int .i64 1))) none [0]]
def l66r2 : List AOper :=
  [.mk (some 10) (.build [.int .i64 0,.int .i64 0,.int .i64 0] [(0,1,.const (.int .i64 0)),(1,1,.const (.int .i64 0)),(2,1,.const (.int .i64 1))]) none [],.mk none (.store 3 (.tmp 6) (.tmp 10)) none [0,0]]
def l66r3 : List AOper :=
  [.mk (some 11) (.mv (.tmp 2)) none [],.mk (some 12) (.bin .eql (.tmp 11) (.const (.int .i64 1))) none [0]]
def l66r4 : List AOper :=
  [.mk (some 13) (.mv (.tmp 0)) none [],.mk (some 14) (.mv (.tmp 0)) none [],.mk (some 15) (.bin .add (.tmp 14) (.const (.int .i64 1))) none [1],.mk (some 16) (.build [.int .i64 0,.int .i64 0,.int .i64 0] [(0,1,.tmp 13),(1,1,.tmp 15),(2,1,.const (.int .i64 1))]) none [0,2],.mk none (.store 3 (.tmp 6) (.tmp 16)) none [3,0,1,2,3]]
def l66r5 : List AOper :=
  [.mk (some 17) (.mv (.tmp 0)) none [],.mk (some 18) (.mv (.tmp 2)) none [],.mk (some 19) (.bin .sub (.tmp 18) (.const (.int .i64 1))) none [1],.mk (some 20) (.mv (.tmp 1)) none [],.mk (some 21) (.bin .mul (.tmp 19) (.tmp 20)) none [2,3],.mk (some 22) (.bin .add (.tmp 17) (.tmp 21)) none [0,4],.mk (some 7) (.mv (.tmp 22)) none [5,0,1,2,3,4,5]]
def l66r6 : List AOper :=
  [.mk (some 23) (.mv (.tmp 1)) none [],.mk (some 24) (.bin .lss (.tmp 23) (.const (.int .i64 0))) none [0]]
def l66r7 : List AOper :=
  [.mk (some 25) (.mv (.tmp 0)) none [],.mk (some 26) (.mv (.tmp 7)) none [],.mk (some 27) (.bin .sub (.tmp 26) (.const (.int .i64 1))) none [1],.mk (some 28) (.mv (.tmp 1)) none [],.mk (some 29) (.build [.int .i64 0,.int .i64 0,.int .i64 0] [(0,1,.tmp 25),(1,1,.tmp 27),(2,1,.tmp 28)]) none [0,2,3],.mk none (.store 3 (.tmp 6) (.tmp 29)) none [4,0,1,2,3,4]]
def l66r8 : List AOper :=
  [.mk (some 30) (.mv (.tmp 0)) none [],.mk (some 31) (.mv (.tmp 7)) none [],.mk (some 32) (.bin .add (.tmp 31) (.const (.int .i64 1))) none [1],.mk (some 33) (.mv (.tmp 1)) none [],.mk (some 34) (.build [.int .i64 0,.int .i64 0,.int .i64 0] [(0,1,.tmp 30),(1,1,.tmp 32),(2,1,.tmp 33)]) none [0,2,3],.mk none (.store 3 (.tmp 6) (.tmp 34)) none [4,0,1,2,3,4]]
def l66 : AFn :=
  (AFn.mk 35 3 (.seq (.reg l66r0) (.seq (.seq (.reg l66r1) (.cond (.tmp 9) (.seq (.reg l66r2) .ret) .skip)) (.seq (.seq (.reg l66r3) (.cond (.tmp 12) (.seq (.reg l66r4) .ret) .skip)) (.seq (.reg l66r5) (.seq (.seq (.reg l66r6) (.cond (.tmp 24) (.seq (.reg l66r7) .ret) .skip)) (.seq (.reg l66r8) .ret)))))) [.cell 6 true 3])
theorem l66_eq : lowFn Try.prog 66 = some l66 := by kernel_rfl
def l67r0 : List AOper :=
  [.mk (some 6) (.mv (.tmp 1)) none [],.mk (some 7) (.len (.tmp 6)) none [0],.mk (some 8) (.mv (.const (.int .i64 0))) none []]
def l67r1 : List AOper :=
  [.mk (some 9) (.bin .lss (.tmp 8) (.tmp 7)) none []]
def l67r2 : List AOper :=
  [.mk (some 10) (.idxA 1 (.tmp 6) (.tmp 8)) none [],.mk (some 11) (.load false 1 (.tmp 10)) none [0],.mk (some 5) (.mv (.tmp 11)) none [1,0,1]]
def l67r3 : List AOper :=
  [.mk (some 12) (.mv (.tmp 0)) none [],.mk (some 13) (.mv (.tmp 5)) none [],.mk (some 14) (.raw (Op.lookup 52 (.tmp 12) (.tmp 13) false)) none [0,1],.mk (some 15) (.bin .add (.tmp 14) (.const (.int .i64 1))) none [2],.mk none (.raw (Op.mapUpdate 52 (.tmp 12) (.tmp 13) (.tmp 15))) none [0,1,3,0,1,2,3]]
def l67r4 : List AOper :=
  [.mk (some 16) (.bin .add (.tmp 8) (.const (.int .i64 1))) none [],.mk (some 8) (.mv (.tmp 16)) none [0]]
def l67 : AFn :=
  (AFn.mk 17 2 (.seq (.reg l67r0) (.block 0 (.loop (.seq (.reg l67r1) (.seq (.cond (.tmp 9) .skip (.exit 0)) (.seq (.block 1 (.seq (.reg l67r2) (.reg l67r3))) (.reg l67r4))))))) [])
theorem l67_eq : lowFn Try.prog 67 = some l67 := by kernel_rfl
def l68r0 : List AOper :=
  [.mk (some 2) (.mv (.const (.bool false))) none []]
def l68r1 : List AOper :=
  [.mk (some 3) (.mv (.tmp 0)) none [],.mk (some 4) (.len (.tmp 3)) none [0],.mk (some 5) (.bin .leq (.tmp 4) (.const (.int .i64 4))) none [1],.mk (some 6) (.mv (.tmp 5)) none [2],.mk (some 7) (.mv (.tmp 0)) (some (6,true)) [3],.mk (some 8) (.call 63 [.tmp 7,.const (.int .i64 0),.const (.int .i64 60)]) (some (6,true)) [4,3,3],.mk (some 9) (.pick (.tmp 6) (.tmp 8) (.const (.bool false))) none [3,5],.mk (some 10) (.mv (.tmp 9)) none [6,5],.mk (some 11) (.mv (.tmp 0)) (some (10,true)) [7],.mk (some 12) (.call 69 [.tmp 11]) (some (10,true)) [8,7,7],.mk (some 13) (.bin .leq (.tmp 12) (.const (.int .i64 60))) (some (10,true)) [9,7],.mk (some 14) (.pick (.tmp 10) (.tmp 13) (.const (.bool false))) none [7,10],.mk (some 2) (.mv (.tmp 14)) none [11,9,0,1,2,3,4,5,6,7,8,9,10,11]]
def l68 : AFn :=
  (AFn.mk 15 1 (.seq (.reg l68r0) (.seq (.reg l68r1) .ret)) [.tmp 2])
theorem l68_eq : lowFn Try.prog 68 = some l68 := by kernel_rfl
def l69r0 : List AOper :=
  [.mk (some 2) (.mv (.const (.int .i64 0))) none []]
def l69r1 : List AOper :=
  [.mk (some 3) (.mv (.const (.int .i64 1))) none []]
def l69r2 : List AOper :=
  [.mk (some 4) (.mv (.const (.int .i64 0))) none []]
def l69r3 : List AOper :=
  [.mk (some 5) (.mv (.tmp 4)) none [],.mk (some 6) (.mv (.tmp 0)) none [],.mk (some 7) (.len (.tmp 6)) none [1],.mk (some 8) (.bin .lss (.tmp 5) (.tmp 7)) none [0,2]]
def l69r4 : List AOper :=
  [.mk (some 11) (.mv (.tmp 3)) none [],.mk (some 12) (.mv (.tmp 0)) none [],.mk (some 13) (.mv (.tmp 4)) none [],.mk (some 14) (.idxA 1 (.tmp 12) (.tmp 13)) none [1,2],.mk (some 15) (.load false 1 (.tmp 14)) none [3],.mk (some 16) (.bin .mul (.tmp 11) (.tmp 15)) none [0,4],.mk (some 3) (.mv (.tmp 16)) none [5,0,1,2,3,4,5]]
def l69r5 : List AOper :=
  [.mk (some 9) (.mv (.tmp 4)) none [],.mk (some 10) (.bin .add (.tmp 9) (.const (.int .i64 1))) none [0],.mk (some 4) (.mv (.tmp 10)) none [1,0,1]]
def l69r6 : List AOper :=
  [.mk (some 17) (.mv (.tmp 3)) none [],.mk (some 2) (.mv (.tmp 17)) none [0,0]]
def l69 : AFn :=
  (AFn.mk 18 1 (.seq (.reg l69r0) (.seq (.reg l69r1) (.seq (.seq (.reg l69r2) (.block 0 (.loop (.seq (.seq (.reg l69r3) (.cond (.tmp 8) .skip (.exit 0))) (.seq (.block 1 (.reg l69r4)) (.reg l69r5)))))) (.seq (.reg l69r6) .ret)))) [.tmp 2])
theorem l69_eq : lowFn Try.prog 69 = some l69 := by kernel_rfl
def l70r0 : List AOper :=
  [.mk (some 2) (.box (.tmp 0)) none [],.mk (some 4) (.mv (.const (.int .i64 0))) none []]
def l70r1 : List AOper :=
  [.mk (some 7) (.fld 0 (.tmp 2)) none [],.mk (some 8) (.load false 1 (.tmp 7)) none [0],.mk (some 5) (.mv (.tmp 8)) none [1,0,1]]
def l70r2 : List AOper :=
  [.mk (some 6) (.mv (.const (.int .i64 0))) none []]
def l70r3 : List AOper :=
  [.mk (some 9) (.mv (.tmp 6)) none [],.mk (some 10) (.mv (.tmp 1)) none [],.mk (some 11) (.len (.tmp 10)) none [1],.mk (some 12) (.bin .lss (.tmp 9) (.tmp 11)) none [0,2]]
def l70r4a : List AOper :=
  [.mk (some 15) (.mv (.tmp 5)) none [],.mk (some 16) (.mv (.tmp 1)) none [],.mk (some 17) (.mv (.tmp 6)) none [],.mk (some 18) (.idxA 1 (.tmp 16) (.tmp 17)) none [1,2],.mk (some 19) (.load false 1 (.tmp 18)) none [3],.mk (some 20) (.fld 2 (.tmp 2)) none [],.mk (some 21) (.load false 1 (.tmp 20)) none [5],.mk (some 22) (.mv (.tmp 6)) none [],.mk (some 23) (.idxA 1 (.tmp 21) (.tmp 22)) none [6,7],.mk (some 24) (.load false 1 (.tmp 23)) none [8],.mk (some 25) (.bin .mul (.tmp 19) (.tmp 24)) none [4,9]]
def l70r4b : List AOper :=
  [.mk (some 26) (.bin .add (.tmp 15) (.tmp 25)) none [0,10],.mk (some 5) (.mv (.tmp 26)) none [11,0,1,2,3,4,5,6,7,8,9,10,11]]
def l70r4 : List AOper := l70r4a ++ l70r4b
def l70r5 : List AOper :=
  [.mk (some 13) (.mv (.tmp 6)) none [],.mk (some 14) (.bin .add (.tmp 13) (.const (.int .i64 1))) none [0],.mk (some 6) (.mv (.tmp 14)) none [1,0,1]]
def l70r6 : List AOper :=
  [.mk (some 27) (.mv (.tmp 5)) none [],.mk (some 4) (.mv (.tmp 27)) none [0,0]]
def l70 : AFn :=
  (AFn.mk 28 2 (.seq (.reg l70r0) (.seq (.reg l70r1) (.seq (.seq (.reg l70r2) (.block 0 (.loop (.seq (.seq (.reg l70r3) (.cond (.tmp 12) .skip (.exit 0))) (.seq (.block 1 (.draw l70r4)) (.reg l70r5)))))) (.seq (.reg l70r6) .ret)))) [.tmp 4])
theorem l70_eq : lowFn Try.prog 70 = some l70 := by kernel_rfl
def l71r0 : List AOper :=
  [.mk (some 4) (.mv (.const (.slice none 0 0))) none []]
def l71r1 : List AOper :=
  [.mk (some 7) (.mv (.tmp 0)) none [],.mk (some 8) (.len (.tmp 7)) none [0],.mk (some 9) (.mkslice 1 [.int .i64 0] (.tmp 8) (.tmp 8)) none [1,1],.mk (some 5) (.mv (.tmp 9)) none [2,0,1,2]]
def l71r2 : List AOper :=
  [.mk (some 10) (.mv (.tmp 0)) none [],.mk (some 11) (.len (.tmp 10)) none [0],.mk (some 12) (.bin .sub (.tmp 11) (.const (.int .i64 1))) none [1],.mk (some 6) (.mv (.tmp 12)) none [2,0,1,2]]
def l71r3 : List AOper :=
  [.mk (some 13) (.mv (.tmp 6)) none [],.mk (some 14) (.bin .geq (.tmp 13) (.const (.int .i64 0))) none [0]]
def l71r4 : List AOper :=
  [.mk (some 17) (.mv (.tmp 5)) none [],.mk (some 18) (.mv (.tmp 6)) none [],.mk (some 19) (.mv (.tmp 1)) none [],.mk (some 20) (.mv (.tmp 0)) none [],.mk (some 21) (.mv (.tmp 6)) none [],.mk (some 22) (.idxA 1 (.tmp 20) (.tmp 21)) none [3,4],.mk (some 23) (.load false 1 (.tmp 22)) none [5],.mk (some 24) (.bin .rem (.tmp 19) (.tmp 23)) none [2,6],.mk (some 25) (.idxA 1 (.tmp 17) (.tmp 18)) none [0,1,0,1,2,3,4,5,6,7],.mk none (.store 1 (.tmp 25) (.tmp 24)) none [8,7,0,1,2,3,4,5,6,7]]
def l71r5 : List AOper :=
  [.mk (some 26) (.mv (.tmp 1)) none [],.mk (some 27) (.mv (.tmp 0)) none [],.mk (some 28) (.mv (.tmp 6)) none [],.mk (some 29) (.idxA 1 (.tmp 27) (.tmp 28)) none [1,2],.mk (some 30) (.load false 1 (.tmp 29)) none [3],.mk (some 31) (.bin .quo (.tmp 26) (.tmp 30)) none [0,4],.mk (some 1) (.mv (.tmp 31)) none [5,0,1,2,3,4,5]]
def l71r6 : List AOper :=
  [.mk (some 15) (.mv (.tmp 6)) none [],.mk (some 16) (.bin .sub (.tmp 15) (.const (.int .i64 1))) none [0],.mk (some 6) (.mv (.tmp 16)) none [1,0,1]]
def l71r7 : List AOper :=
  [.mk (some 32) (.mv (.tmp 5)) none [],.mk (some 4) (.mv (.tmp 32)) none [0,0]]
def l71 : AFn :=
  (AFn.mk 33 2 (.seq (.reg l71r0) (.seq (.reg l71r1) (.seq (.seq (.reg l71r2) (.block 0 (.loop (.seq (.seq (.reg l71r3) (.cond (.tmp 14) .skip (.exit 0))) (.seq (.block 1 (.seq (.reg l71r4) (.reg l71r5))) (.reg l71r6)))))) (.seq (.reg l71r7) .ret)))) [.tmp 4])
theorem l71_eq : lowFn Try.prog 71 = some l71 := by kernel_rfl
def l72r0 : List AOper :=
  [.mk (some 2) (.mv (.const (.bool false))) none []]
def l72r1 : List AOper :=
  [.mk (some 5) (.mv (.tmp 0)) none [],.mk (some 6) (.len (.tmp 5)) none [0],.mk (some 7) (.bin .gtr (.tmp 6) (.const (.int .i64 4))) none [1]]
def l72r2 : List AOper :=
  [.mk (some 2) (.mv (.const (.bool false))) none []]
def l72r3 : List AOper :=
  [.mk (some 8) (.mv (.tmp 0)) none [],.mk (some 9) (.len (.tmp 8)) none [0],.mk (some 10) (.mv (.const (.int .i64 0))) none []]
def l72r4 : List AOper :=
  [.mk (some 11) (.bin .lss (.tmp 10) (.tmp 9)) none []]
def l72r5 : List AOper :=
  [.mk (some 12) (.idxA 1 (.tmp 8) (.tmp 10)) none [],.mk (some 13) (.load false 1 (.tmp 12)) none [0],.mk (some 4) (.mv (.tmp 13)) none [1,0,1]]
def l72r6 : List AOper :=
  [.mk (some 14) (.mv (.tmp 4)) none [],.mk (some 15) (.call 74 [.tmp 14,.const (.int .i64 60)]) none [0],.mk (some 16) (.un .not (.tmp 15)) none [1]]
def l72r7 : List AOper :=
  [.mk (some 2) (.mv (.const (.bool false))) none []]
def l72r8 : List AOper :=
  [.mk (some 17) (.bin .add (.tmp 10) (.const (.int .i64 1))) none [],.mk (some 10) (.mv (.tmp 17)) none [0]]
def l72r9 : List AOper :=
  [.mk (some 18) (.mv (.tmp 0)) none [],.mk (some 19) (.call 83 [.tmp 18]) none [0],.mk (some 20) (.bin .leq (.tmp 19) (.const (.int .i64 60))) none [1],.mk (some 2) (.mv (.tmp 20)) none [2,1,0,1,2]]
def l72 : AFn :=
  (AFn.mk 21 1 (.seq (.reg l72r0) (.seq (.seq (.reg l72r1) (.cond (.tmp 7) (.seq (.reg l72r2) .ret) .skip)) (.seq (.seq (.reg l72r3) (.block 0 (.loop (.seq (.reg l72r4) (.seq (.cond (.tmp 11) .skip (.exit 0)) (.seq (.block 1 (.seq (.reg l72r5) (.seq (.reg l72r6) (.cond (.tmp 16) (.seq (.reg l72r7) .ret) .skip)))) (.reg l72r8))))))) (.seq (.reg l72r9) .ret)))) [.tmp 2])
theorem l72_eq : lowFn Try.prog 72 = some l72 := by kernel_rfl
def l73r0 : List AOper :=
  [.mk (some 4) (.mv (.const (.bool false))) none []]
def l73r1 : List AOper :=
  [.mk (some 7) (.mv (.tmp 0)) none [],.mk (some 8) (.len (.tmp 7)) none [0],.mk (some 9) (.mv (.tmp 1)) none [],.mk (some 10) (.bin .neq (.tmp 8) (.tmp 9)) none [1,2]]
def l73r2 : List AOper :=
  [.mk (some 4) (.mv (.const (.bool false))) none []]
def l73r3 : List AOper :=
  [.mk (some 11) (.mv (.tmp 0)) none [],.mk (some 12) (.len (.tmp 11)) none [0],.mk (some 13) (.mv (.const (.int .i64 0))) none []]
def l73r4 : List AOper :=
  [.mk (some 14) (.bin .lss (.tmp 13) (.tmp 12)) none []]
def l73r5 : List AOper :=
  [.mk (some 15) (.idxA 1 (.tmp 11) (.tmp 13)) none [],.mk (some 16) (.load false 1 (.tmp 15)) none [0],.mk (some 6) (.mv (.tmp 16)) none [1,0,1]]
def l73r6 : List AOper :=
  [.mk (some 17) (.mv (.tmp 6)) none [],.mk (some 18) (.call 84 [.tmp 17,.const (.int .i64 60)]) none [0],.mk (some 19) (.un .not (.tmp 18)) none [1]]
def l73r7 : List AOper :=
  [.mk (some 4) (.mv (.const (.bool false))) none []]
def l73r8 : List AOper :=
  [.mk (some 20) (.bin .add (.tmp 13) (.const (.int .i64 1))) none [],.mk (some 13) (.mv (.tmp 20)) none [0]]
def l73r9 : List AOper :=
  [.mk (some 4) (.mv (.const (.bool true))) none []]
def l73 : AFn :=
  (AFn.mk 21 2 (.seq (.reg l73r0) (.seq (.seq (.reg l73r1) (.cond (.tmp 10) (.seq (.reg l73r2) .ret) .skip)) (.seq (.seq (.reg l73r3) (.block 0 (.loop (.seq (.reg l73r4) (.seq (.cond (.tmp 14) .skip (.exit 0)) (.seq (.block 1 (.seq (.reg l73r5) (.seq (.reg l73r6) (.cond (.tmp 19) (.seq (.reg l73r7) .ret) .skip)))) (.reg l73r8))))))) (.seq (.reg l73r9) .ret)))) [.tmp 4])
theorem l73_eq : lowFn Try.prog 73 = some l73 := by kernel_rfl
def l74r0 : List AOper :=
  [.mk (some 4) (.mv (.const (.bool false))) none []]
def l74r1 : List AOper :=
  [.mk (some 5) (.mv (.tmp 0)) none [],.mk (some 6) (.bin .leq (.const (.int .i64 0)) (.tmp 5)) none [0],.mk (some 7) (.mv (.tmp 6)) none [1],.mk (some 8) (.mv (.tmp 0)) (some (7,true)) [2],.mk (some 9) (.mv (.tmp 1)) (some (7,true)) [2],.mk (some 10) (.bin .leq (.tmp 8) (.tmp 9)) (some (7,true)) [3,4,2],.mk (some 11) (.pick (.tmp 7) (.tmp 10) (.const (.bool false))) none [2,5],.mk (some 4) (.mv (.tmp 11)) none [6,2,0,1,2,3,4,5,6]]
def l74 : AFn :=
  (AFn.mk 12 2 (.seq (.reg l74r0) (.seq (.reg l74r1) .ret)) [.tmp 4])
theorem l74_eq : lowFn Try.prog 74 = some l74 := by kernel_rfl
def l75r0 : List AOper :=
  [.mk (some 1) (.box (.tmp 0)) none [],.mk (some 2) (.mv (.const (.int .i64 0))) none [],.mk (some 3) (.mv (.const (.int .i64 0))) none [1]]
def l75r1 : List AOper :=
  [.mk (some 9) (.load true 3 (.tmp 1)) none [],.mk (some 10) (.call 76 [.tmp 9]) none [0],.mk (some 11) (.bin .eql (.tmp 10) (.const (.int .i64 0))) none [1]]
def l75r2 : List AOper :=
  [.mk (some 2) (.mv (.const (.int .i64 (-1)))) none [],.mk (some 3) (.mv (.const (.int .i64 (-1)))) none [0,0]]
def l75r3a : List AOper :=
  [.mk (some 12) (.fld 0 (.tmp 1)) none [],.mk (some 13) (.load false 1 (.tmp 12)) none [0],.mk (some 14) (.fld 0 (.tmp 1)) none [],.mk (some 15) (.load false 1 (.tmp 14)) none [2],.mk (some 4) (.mv (.tmp 13)) none [1,0,1]]
def l75r3b : List AOper :=
  [.mk (some 5) (.mv (.tmp 15)) none [3,4,0,1,2,3,4]]
def l75r3 : List AOper := l75r3a ++ l75r3b
def l75r4 : List AOper :=
  [.mk (some 16) (.fld 2 (.tmp 1)) none [],.mk (some 17) (.load false 1 (.tmp 16)) none [0],.mk (some 18) (.len (.tmp 17)) none [1],.mk (some 19) (.mv (.const (.int .i64 0))) none []]
def l75r5 : List AOper :=
  [.mk (some 20) (.bin .lss (.tmp 19) (.tmp 18)) none []]
def l75r6 : List AOper :=
  [.mk (some 21) (.mv (.tmp 19)) none [],.mk (some 22) (.idxA 1 (.tmp 17) (.tmp 19)) none [],.mk (some 23) (.load false 1 (.tmp 22)) none [1],.mk (some 6) (.mv (.tmp 21)) none [0,0,1,2],.mk (some 7) (.mv (.tmp 23)) none [2,3,0,1,2,3]]
def l75r7 : List AOper :=
  [.mk (some 24) (.fld 1 (.tmp 1)) none [],.mk (some 25) (.load false 1 (.tmp 24)) none [0],.mk (some 26) (.mv (.tmp 6)) none [],.mk (some 27) (.idxA 1 (.tmp 25) (.tmp 26)) none [1,2],.mk (some 28) (.load false 1 (.tmp 27)) none [3],.mk (some 29) (.bin .sub (.tmp 28) (.const (.int .i64 1))) none [4],.mk (some 30) (.mv (.tmp 7)) none [],.mk (some 31) (.bin .mul (.tmp 29) (.tmp 30)) none [5,6],.mk (some 8) (.mv (.tmp 31)) none [7,0,1,2,3,4,5,6,7]]
def l75r8 : List AOper :=
  [.mk (some 32) (.mv (.tmp 4)) none [],.mk (some 33) (.mv (.tmp 8)) none [],.mk (some 34) (.minmax false (.tmp 33) (.const (.int .i64 0))) none [1],.mk (some 35) (.bin .add (.tmp 32) (.tmp 34)) none [0,2],.mk (some 4) (.mv (.tmp 35)) none [3,0,1,2,3]]
def l75r9 : List AOper :=
  [.mk (some 36) (.mv (.tmp 5)) none [],.mk (some 37) (.mv (.tmp 8)) none [],.mk (some 38) (.minmax true (.tmp 37) (.const (.int .i64 0))) none [1],.mk (some 39) (.bin .add (.tmp 36) (.tmp 38)) none [0,2],.mk (some 5) (.mv (.tmp 39)) none [3,0,1,2,3]]
def l75r10 : List AOper :=
  [.mk (some 40) (.bin .add (.tmp 19) (.const (.int .i64 1))) none [],.mk (some 19) (.mv (.tmp 40)) none [0]]
def l75r11 : List AOper :=
  [.mk (some 41) (.mv (.tmp 4)) none [],.mk (some 42) (.mv (.tmp 5)) none [],.mk (some 2) (.mv (.tmp 41)) none [0,0],.mk (some 3) (.mv (.tmp 42)) none [1,2,0,1,2]]
def l75 : AFn :=
  (AFn.mk 43 1 (.seq (.reg l75r0) (.seq (.seq (.reg l75r1) (.cond (.tmp 11) (.seq (.reg l75r2) .ret) .skip)) (.seq (.draw l75r3) (.seq (.seq (.reg l75r4) (.block 0 (.loop (.seq (.reg l75r5) (.seq (.cond (.tmp 20) .skip (.exit 0)) (.seq (.block 1 (.seq (.reg l75r6) (.seq (.reg l75r7) (.seq (.reg l75r8) (.reg l75r9))))) (.reg l75r10))))))) (.seq (.reg l75r11) .ret))))) [.tmp 2,.tmp 3])
theorem l75_eq : lowFn Try.prog 75 = some l75 := by kernel_rfl
def l76r0 : List AOper :=
  [.mk (some 1) (.box (.tmp 0)) none [],.mk (some 2) (.mv (.const (.int .i64 0))) none []]
def l76r1 : List AOper :=
  [.mk (some 3) (.fld 1 (.tmp 1)) none [],.mk (some 4) (.load false 1 (.tmp 3)) none [0],.mk (some 5) (.call 83 [.tmp 4]) none [1],.mk (some 2) (.mv (.tmp 5)) none [2,2,0,1,2]]
def l76 : AFn :=
  (AFn.mk 6 1 (.seq (.reg l76r0) (.seq (.reg l76r1) .ret)) [.tmp 2])
theorem l76_eq : lowFn Try.prog 76 = some l76 := by kernel_rfl
def l77r0 : List AOper :=
  [.mk (some 2) (.box (.tmp 0)) none [],.mk (some 3) (.box (.tmp 1)) none [],.mk (some 4) (.mv (.const (.int .i64 0))) none []]
def l77r1a : List AOper :=
  [.mk (some 5) (.fld 0 (.tmp 2)) none [],.mk (some 6) (.load false 1 (.tmp 5)) none [0],.mk (some 7) (.load true 4 (.tmp 3)) none [],.mk (some 8) (.fld 2 (.tmp 2)) none [],.mk (some 9) (.load false 1 (.tmp 8)) none [3],.mk (some 10) (.call 85 [.tmp 7,.tmp 9]) none [2,4]]
def l77r1b : List AOper :=
  [.mk (some 11) (.bin .add (.tmp 6) (.tmp 10)) none [1,5],.mk (some 4) (.mv (.tmp 11)) none [6,5,0,1,2,3,4,5,6]]
def l77r1 : List AOper := l77r1a ++ l77r1b
def l77 : AFn :=
  (AFn.mk 12 2 (.seq (.reg l77r0) (.seq (.draw l77r1) .ret)) [.tmp 4])
theorem l77_eq : lowFn Try.prog 77 = some l77 := by kernel_rfl
def l78r0 : List AOper :=
  [.mk (some 4) (.alloc [.int .i64 0,.int .i64 0,.int .i64 0,.int .i64 0]) none []]
def l78r1 : List AOper :=
  [.mk (some 5) (.alloc [.int .i64 0,.int .i64 0,.int .i64 0,.int .i64 0]) none []]
def l78r2 : List AOper :=
  [.mk (some 7) (.mv (.tmp 0)) none [],.mk (some 8) (.len (.tmp 7)) none [0],.mk (some 9) (.bin .sub (.tmp 8) (.const (.int .i64 1))) none [1],.mk (some 6) (.mv (.tmp 9)) none [2,0,1,2]]
def l78r3 : List AOper :=
  [.mk (some 10) (.mv (.tmp 6)) none [],.mk (some 11) (.bin .geq (.tmp 10) (.const (.int .i64 0))) none [0]]
def l78r4 : List AOper :=
  [.mk (some 14) (.mv (.tmp 6)) none [],.mk (some 15) (.mv (.tmp 1)) none [],.mk (some 16) (.mv (.tmp 0)) none [],.mk (some 17) (.mv (.tmp 6)) none [],.mk (some 18) (.idxA 1 (.tmp 16) (.tmp 17)) none [2,3],.mk (some 19) (.load false 1 (.tmp 18)) none [4],.mk (some 20) (.bin .rem (.tmp 15) (.tmp 19)) none [1,5],.mk (some 21) (.idxP 1 4 (.tmp 5) (.tmp 14)) none [0,0,1,2,3,4,5,6],.mk none (.store 1 (.tmp 21) (.tmp 20)) none [7,6,0,1,2,3,4,5,6]]
def l78r5 : List AOper :=
  [.mk (some 22) (.mv (.tmp 1)) none [],.mk (some 23) (.mv (.tmp 0)) none [],.mk (some 24) (.mv (.tmp 6)) none [],.mk (some 25) (.idxA 1 (.tmp 23) (.tmp 24)) none [1,2],.mk (some 26) (.load false 1 (.tmp 25)) none [3],.mk (some 27) (.bin .quo (.tmp 22) (.tmp 26)) none [0,4],.mk (some 1) (.mv (.tmp 27)) none [5,0,1,2,3,4,5]]
def l78r6 : List AOper :=
  [.mk (some 12) (.mv (.tmp 6)) none [],.mk (some 13) (.bin .sub (.tmp 12) (.const (.int .i64 1))) none [0],.mk (some 6) (.mv (.tmp 13)) none [1,0,1]]
def l78r7 : List AOper :=
  [.mk (some 28) (.load true 4 (.tmp 5)) none [],.mk none (.store 4 (.tmp 4) (.tmp 28)) none [0,0]]
def l78 : AFn :=
  (AFn.mk 29 2 (.seq (.reg l78r0) (.seq (.reg l78r1) (.seq (.seq (.reg l78r2) (.block 0 (.loop (.seq (.seq (.reg l78r3) (.cond (.tmp 11) .skip (.exit 0))) (.seq (.block 1 (.seq (.reg l78r4) (.reg l78r5))) (.reg l78r6)))))) (.seq (.reg l78r7) .ret)))) [.cell 4 true 4])
theorem l78_eq : lowFn Try.prog 78 = some l78 := by kernel_rfl
def l81r0 : List AOper :=
  [.mk (some 1) (.box (.tmp 0)) none [],.mk (some 2) (.mv (.const (.int .i64 0))) none []]
def l81r1a : List AOper :=
  [.mk (some 5) (.fld 1 (.tmp 1)) none [],.mk (some 6) (.load false 1 (.tmp 5)) none [0],.mk (some 7) (.fld 0 (.tmp 1)) none [],.mk (some 8) (.load false 1 (.tmp 7)) none [2],.mk (some 9) (.bin .sub (.tmp 6) (.tmp 8)) none [1,3],.mk (some 10) (.fld 2 (.tmp 1)) none [],.mk (some 11) (.load false 1 (.tmp 10)) none [5],.mk (some 3) (.mv (.tmp 9)) none [4,0,1,2,3,4]]
def l81r1b : List AOper :=
  [.mk (some 4) (.mv (.tmp 11)) none [6,7,0,1,2,3,4,5,6,7]]
def l81r1 : List AOper := l81r1a ++ l81r1b
def l81r2 : List AOper :=
  [.mk (some 12) (.mv (.tmp 4)) none [],.mk (some 13) (.bin .lss (.tmp 12) (.const (.int .i64 0))) none [0]]
def l81r3 : List AOper :=
  [.mk (some 14) (.mv (.tmp 3)) none [],.mk (some 15) (.un .neg (.tmp 14)) none [0],.mk (some 16) (.mv (.tmp 4)) none [],.mk (some 17) (.un .neg (.tmp 16)) none [2],.mk (some 3) (.mv (.tmp 15)) none [1,0,1],.mk (some 4) (.mv (.tmp 17)) none [3,4,0,1,2,3,4]]
def l81r4 : List AOper :=
  [.mk (some 18) (.mv (.tmp 3)) none [],.mk (some 19) (.bin .leq (.tmp 18) (.const (.int .i64 0))) none [0]]
def l81r5 : List AOper :=
  [.mk (some 2) (.mv (.const (.int .i64 0))) none []]
def l81r6 : List AOper :=
  [.mk (some 20) (.mv (.tmp 3)) none [],.mk (some 21) (.mv (.tmp 4)) none [],.mk (some 22) (.bin .add (.tmp 20) (.tmp 21)) none [0,1],.mk (some 23) (.bin .sub (.tmp 22) (.const (.int .i64 1))) none [2],.mk (some 24) (.mv (.tmp 4)) none [],.mk (some 25) (.bin .quo (.tmp 23) (.tmp 24)) none [3,4],.mk (some 2) (.mv (.tmp 25)) none [5,0,1,2,3,4,5]]
def l81 : AFn :=
  (AFn.mk 26 1 (.seq (.reg l81r0) (.seq (.draw l81r1) (.seq (.seq (.reg l81r2) (.cond (.tmp 13) (.reg l81r3) .skip)) (.seq (.seq (.reg l81r4) (.cond (.tmp 19) (.seq (.reg l81r5) .ret) .skip)) (.seq (.reg l81r6) .ret))))) [.tmp 2])
theorem l81_eq : lowFn Try.prog 81 = some l81 := by kernel_rfl
def l82r0 : List AOper :=
  [.mk (some 2) (.box (.tmp 0)) none [],.mk (some 4) (.mv (.const (.int .i64 0))) none []]
def l82r1 : List AOper :=
  [.mk (some 5) (.fld 0 (.tmp 2)) none [],.mk (some 6) (.load false 1 (.tmp 5)) none [0],.mk (some 7) (.mv (.tmp 1)) none [],.mk (some 8) (.fld 2 (.tmp 2)) none [],.mk (some 9) (.load false 1 (.tmp 8)) none [3],.mk (some 10) (.bin .mul (.tmp 7) (.tmp 9)) none [2,4],.mk (some 11) (.bin .add (.tmp 6) (.tmp 10)) none [1,5],.mk (some 4) (.mv (.tmp 11)) none [6,0,1,2,3,4,5,6]]
def l82 : AFn :=
  (AFn.mk 12 2 (.seq (.reg l82r0) (.seq (.reg l82r1) .ret)) [.tmp 4])
theorem l82_eq : lowFn Try.prog 82 = some l82 := by kernel_rfl
def l83r0 : List AOper :=
  [.mk (some 2) (.mv (.const (.int .i64 0))) none []]
def l83r1 : List AOper :=
  [.mk (some 3) (.mv (.const (.int .i64 1))) none []]
def l83r2 : List AOper :=
  [.mk (some 6) (.mv (.tmp 0)) none [],.mk (some 7) (.len (.tmp 6)) none [0],.mk (some 8) (.mv (.const (.int .i64 0))) none []]
def l83r3 : List AOper :=
  [.mk (some 9) (.bin .lss (.tmp 8) (.tmp 7)) none []]
def l83r4 : List AOper :=
  [.mk (some 10) (.idxA 1 (.tmp 6) (.tmp 8)) none [],.mk (some 11) (.load false 1 (.tmp 10)) none [0],.mk (some 5) (.mv (.tmp 11)) none [1,0,1]]
def l83r5 : List AOper :=
  [.mk (some 12) (.mv (.tmp 3)) none [],.mk (some 13) (.mv (.tmp 5)) none [],.mk (some 14) (.bin .mul (.tmp 12) (.tmp 13)) none [0,1],.mk (some 3) (.mv (.tmp 14)) none [2,0,1,2]]
def l83r6 : List AOper :=
  [.mk (some 15) (.bin .add (.tmp 8) (.const (.int .i64 1))) none [],.mk (some 8) (.mv (.tmp 15)) none [0]]
def l83r7 : List AOper :=
  [.mk (some 16) (.mv (.tmp 3)) none [],.mk (some 2) (.mv (.tmp 16)) none [0,0]]
def l83 : AFn :=
  (AFn.mk 17 1 (.seq (.reg l83r0) (.seq (.reg l83r1) (.seq (.seq (.reg l83r2) (.block 0 (.loop (.seq (.reg l83r3) (.seq (.cond (.tmp 9) .skip (.exit 0)) (.seq (.block 1 (.seq (.reg l83r4) (.reg l83r5))) (.reg l83r6))))))) (.seq (.reg l83r7) .ret)))) [.tmp 2])
theorem l83_eq : lowFn Try.prog 83 = some l83 := by kernel_rfl
def l84r0 : List AOper :=
  [.mk (some 4) (.mv (.const (.bool false))) none []]
def l84r1 : List AOper :=
  [.mk (some 5) (.mv (.tmp 1)) none [],.mk (some 6) (.un .neg (.tmp 5)) none [0],.mk (some 7) (.mv (.tmp 0)) none [],.mk (some 8) (.bin .leq (.tmp 6) (.tmp 7)) none [1,2],.mk (some 9) (.mv (.tmp 8)) none [3],.mk (some 10) (.mv (.tmp 0)) (some (9,true)) [4],.mk (some 11) (.mv (.tmp 1)) (some (9,true)) [4],.mk (some 12) (.bin .leq (.tmp 10) (.tmp 11)) (some (9,true)) [5,6,4],.mk (some 13) (.pick (.tmp 9) (.tmp 12) (.const (.bool false))) none [4,7],.mk (some 4) (.mv (.tmp 13)) none [8,4,0,1,2,3,4,5,6,7,8]]
def l84 : AFn :=
  (AFn.mk 14 2 (.seq (.reg l84r0) (.seq (.reg l84r1) .ret)) [.tmp 4])
theorem l84_eq : lowFn Try.prog 84 = some l84 := by kernel_rfl
def l85r0 : List AOper :=
  [.mk (some 2) (.box (.tmp 0)) none [],.mk (some 4) (.mv (.const (.int .i64 0))) none []]
def l85r1 : List AOper :=
  [.mk (some 5) (.mv (.const (.int .i64 0))) none []]
def l85r2 : List AOper :=
  [.mk (some 8) (.mv (.tmp 1)) none [],.mk (some 9) (.len (.tmp 8)) none [0],.mk (some 10) (.mv (.const (.int .i64 0))) none []]
def l85r3 : List AOper :=
  [.mk (some 11) (.bin .lss (.tmp 10) (.tmp 9)) none []]
def l85r4 : List AOper :=
  [.mk (some 12) (.mv (.tmp 10)) none [],.mk (some 13) (.idxA 1 (.tmp 8) (.tmp 10)) none [],.mk (some 14) (.load false 1 (.tmp 13)) none [1],.mk (some 6) (.mv (.tmp 12)) none [0,0,1,2],.mk (some 7) (.mv (.tmp 14)) none [2,3,0,1,2,3]]
def l85r5 : List AOper :=
  [.mk (some 15) (.mv (.tmp 5)) none [],.mk (some 16) (.mv (.tmp 6)) none [],.mk (some 17) (.idxP 1 4 (.tmp 2) (.tmp 16)) none [1],.mk (some 18) (.load false 1 (.tmp 17)) none [2],.mk (some 19) (.mv (.tmp 7)) none [],.mk (some 20) (.bin .mul (.tmp 18) (.tmp 19)) none [3,4],.mk (some 21) (.bin .add (.tmp 15) (.tmp 20)) none [0,5],.mk (some 5) (.mv (.tmp 21)) none [6,0,1,2,3,4,5,6]]
def l85r6 : List AOper :=
  [.mk (some 22) (.bin .add (.tmp 10) (.const (.int .i64 1))) none [],.mk (some 10) (.mv (.tmp 22)) none [0]]
def l85r7 : List AOper :=
  [.mk (some 23) (.mv (.tmp 5)) none [],.mk (some 4) (.mv (.tmp 23)) none [0,0]]
def l85 : AFn :=
  (AFn.mk 24 2 (.seq (.reg l85r0) (.seq (.reg l85r1) (.seq (.seq (.reg l85r2) (.block 0 (.loop (.seq (.reg l85r3) (.seq (.cond (.tmp 11) .skip (.exit 0)) (.seq (.block 1 (.seq (.reg l85r4) (.reg l85r5))) (.reg l85r6))))))) (.seq (.reg l85r7) .ret)))) [.tmp 4])
theorem l85_eq : lowFn Try.prog 85 = some l85 := by kernel_rfl
end Go.Proofs.Ytnnkeephfdkbiaa
