import Derived.Test.YtajhakhncalabaaCW3
import Derived.Test.YtajhakhncalabaaProg
import Derived.KernelRfl
set_option maxRecDepth 100000
namespace Go.Proofs.Ytajhakhncalabaa
open Vw Go
instance globs : Inhabited GlobT := ⟨⟨[]⟩⟩
attribute [push_cast] Bool.false_eq_true List.length_replicate
attribute [bitvec_to_nat] decide_eq_true_eq decide_eq_false_iff_not Bool.not_eq_true' Bool.not_eq_false' Bool.and_eq_true Bool.or_eq_true Bool.and_eq_false_iff Bool.or_eq_false_iff Int.not_le Int.not_lt bne_iff_ne ne_eq beq_iff_eq Bool.not_eq_true Bool.not_eq_false
theorem sd {P : Prop} (h : P := by first | assumption | rfl | omega | (simp <;> omega) | (simp_all <;> omega)) : P := h
def l6r0 : List AOper :=
  [.mk (some 10) (.mv (.const (.bool false))) none []]
def l6r1 : List AOper :=
  [.mk (some 17) (.mv (.tmp 2)) none [],.mk (some 18) (.len (.tmp 17)) none [0],.mk (some 19) (.bin .gtr (.tmp 18) (.const (.int .i64 1048576))) none [1]]
def l6r2 : List AOper :=
  [.mk (some 10) (.mv (.const (.bool true))) none []]
def l6r3 : List AOper :=
  [.mk (some 11) (.mv (.const (.int .i64 1048576))) none []]
def l6r4 : List AOper :=
  [.mk (some 20) (.mv (.tmp 0)) none [],.mk (some 21) (.mv (.tmp 11)) none [],.mk (some 22) (.call 28 [.tmp 20,.tmp 21]) none [0,1],.mk (some 11) (.mv (.tmp 22)) none [2,2,0,1,2]]
def l6r5 : List AOper :=
  [.mk (some 23) (.mv (.tmp 11)) none [],.mk (some 24) (.bin .lss (.tmp 23) (.const (.int .i64 0))) none [0]]
def l6r6 : List AOper :=
  [.mk (some 10) (.mv (.const (.bool true))) none []]
def l6r7 : List AOper :=
  [.mk (some 25) (.mv (.tmp 1)) none [],.mk (some 26) (.mv (.tmp 11)) none [],.mk (some 27) (.call 29 [.tmp 25,.tmp 26]) none [0,1],.mk (some 11) (.mv (.tmp 27)) none [2,2,0,1,2]]
def l6r8 : List AOper :=
  [.mk (some 28) (.mv (.tmp 11)) none [],.mk (some 29) (.bin .lss (.tmp 28) (.const (.int .i64 0))) none [0]]
def l6r9 : List AOper :=
  [.mk (some 10) (.mv (.const (.bool true))) none []]
def l6r10 : List AOper :=
  [.mk (some 30) (.mv (.tmp 0)) none [],.mk (some 31) (.call 31 [.tmp 30]) none [0],.mk (some 32) (.mv (.tmp 1)) none [],.mk (some 33) (.call 32 [.tmp 32]) none [2,1],.mk (some 34) (.mv (.tmp 2)) none [],.mk (some 35) (.call 19 [.tmp 34]) none [4,3],.mk (some 36) (.mv (.tmp 3)) none [],.mk (some 37) (.mv (.tmp 4)) none [],.mk (some 38) (.call 36 [.tmp 31,.tmp 33,.tmp 35,.tmp 36,.tmp 37]) none [1,3,5,6,7,5],.mk (some 12) (.mv (.tmp 38)) none [8,8,0,1,2,3,4,5,6,7,8]]
def l6r11 : List AOper :=
  [.mk (some 39) (.mv (.tmp 0)) none [],.mk (some 40) (.call 31 [.tmp 39]) none [0],.mk (some 13) (.mv (.tmp 40)) none [1,1,0,1]]
def l6r12 : List AOper :=
  [.mk (some 41) (.mv (.tmp 1)) none [],.mk (some 42) (.call 32 [.tmp 41]) none [0],.mk (some 14) (.mv (.tmp 42)) none [1,1,0,1]]
def l6r13 : List AOper :=
  [.mk (some 43) (.mv (.tmp 2)) none [],.mk (some 44) (.call 19 [.tmp 43]) none [0],.mk (some 15) (.mv (.tmp 44)) none [1,1,0,1]]
def l6r14 : List AOper :=
  [.mk (some 45) (.mv (.tmp 13)) none [],.mk (some 46) (.mv (.tmp 14)) none [],.mk (some 47) (.mv (.tmp 15)) none [],.mk (some 48) (.mv (.tmp 3)) none [],.mk (some 49) (.mv (.tmp 4)) none [],.mk (some 50) (.call 37 [.tmp 45,.tmp 46,.tmp 47,.tmp 48,.tmp 49]) none [0,1,2,3,4],.mk (some 16) (.mv (.tmp 50)) none [5,5,0,1,2,3,4,5]]
def l6r15 : List AOper :=
  [.mk (some 51) (.mv (.tmp 16)) none [],.mk (some 52) (.mv (.tmp 12)) none [],.mk (some 53) (.bin .neq (.tmp 51) (.tmp 52)) none [0,1]]
def l6r16 : List AOper :=
  [.mk (some 10) (.mv (.const (.bool false))) none []]
def l6r17 : List AOper :=
  [.mk (some 54) (.mv (.tmp 13)) none [],.mk (some 55) (.mv (.tmp 0)) none [],.mk (some 56) (.call 31 [.tmp 55]) none [1],.mk (some 57) (.call 34 [.tmp 54,.tmp 56]) none [0,2,2],.mk (some 58) (.un .not (.tmp 57)) none [3]]
def l6r18 : List AOper :=
  [.mk (some 10) (.mv (.const (.bool false))) none []]
def l6r19 : List AOper :=
  [.mk (some 59) (.mv (.tmp 14)) none [],.mk (some 60) (.mv (.tmp 1)) none [],.mk (some 61) (.call 32 [.tmp 60]) none [1],.mk (some 62) (.call 35 [.tmp 59,.tmp 61]) none [0,2,2],.mk (some 63) (.un .not (.tmp 62)) none [3]]
def l6r20 : List AOper :=
  [.mk (some 10) (.mv (.const (.bool false))) none []]
def l6r21 : List AOper :=
  [.mk (some 64) (.mv (.tmp 15)) none [],.mk (some 65) (.mv (.tmp 2)) none [],.mk (some 66) (.call 19 [.tmp 65]) none [1],.mk (some 67) (.call 22 [.tmp 64,.tmp 66]) none [0,2,2],.mk (some 68) (.un .not (.tmp 67)) none [3]]
def l6r22 : List AOper :=
  [.mk (some 10) (.mv (.const (.bool false))) none []]
def l6r23 : List AOper :=
  [.mk (some 10) (.mv (.const (.bool true))) none []]
def l6 : AFn :=
  (AFn.mk 69 5 (.seq (.reg l6r0) (.seq (.seq (.reg l6r1) (.cond (.tmp 19) (.seq (.reg l6r2) .ret) .skip)) (.seq (.reg l6r3) (.seq (.reg l6r4) (.seq (.seq (.reg l6r5) (.cond (.tmp 24) (.seq (.reg l6r6) .ret) .skip)) (.seq (.reg l6r7) (.seq (.seq (.reg l6r8) (.cond (.tmp 29) (.seq (.reg l6r9) .ret) .skip)) (.seq (.reg l6r10) (.seq (.reg l6r11) (.seq (.reg l6r12) (.seq (.reg l6r13) (.seq (.reg l6r14) (.seq (.seq (.reg l6r15) (.cond (.tmp 53) (.seq (.reg l6r16) .ret) .skip)) (.seq (.seq (.reg l6r17) (.cond (.tmp 58) (.seq (.reg l6r18) .ret) .skip)) (.seq (.seq (.reg l6r19) (.cond (.tmp 63) (.seq (.reg l6r20) .ret) .skip)) (.seq (.seq (.reg l6r21) (.cond (.tmp 68) (.seq (.reg l6r22) .ret) .skip)) (.seq (.reg l6r23) .ret))))))))))))))))) [.tmp 10])
theorem l6_eq : lowFn Try.prog 6 = some l6 := by kernel_rfl
def l7r0 : List AOper :=
  [.mk (some 6) (.mv (.const (.bool false))) none []]
def l7r1 : List AOper :=
  [.mk (some 15) (.mv (.tmp 2)) none [],.mk (some 16) (.len (.tmp 15)) none [0],.mk (some 17) (.bin .gtr (.tmp 16) (.const (.int .i64 1048576))) none [1]]
def l7r2 : List AOper :=
  [.mk (some 6) (.mv (.const (.bool true))) none []]
def l7r3 : List AOper :=
  [.mk (some 7) (.mv (.const (.int .i64 1048576))) none []]
def l7r4 : List AOper :=
  [.mk (some 18) (.mv (.tmp 0)) none [],.mk (some 19) (.mv (.tmp 7)) none [],.mk (some 20) (.call 28 [.tmp 18,.tmp 19]) none [0,1],.mk (some 7) (.mv (.tmp 20)) none [2,2,0,1,2]]
def l7r5 : List AOper :=
  [.mk (some 21) (.mv (.tmp 7)) none [],.mk (some 22) (.bin .lss (.tmp 21) (.const (.int .i64 0))) none [0]]
def l7r6 : List AOper :=
  [.mk (some 6) (.mv (.const (.bool true))) none []]
def l7r7 : List AOper :=
  [.mk (some 23) (.mv (.tmp 1)) none [],.mk (some 24) (.mv (.tmp 7)) none [],.mk (some 25) (.call 29 [.tmp 23,.tmp 24]) none [0,1],.mk (some 7) (.mv (.tmp 25)) none [2,2,0,1,2]]
def l7r8 : List AOper :=
  [.mk (some 26) (.mv (.tmp 7)) none [],.mk (some 27) (.bin .lss (.tmp 26) (.const (.int .i64 0))) none [0]]
def l7r9 : List AOper :=
  [.mk (some 6) (.mv (.const (.bool true))) none []]
def l7r10 : List AOper :=
  [.mk (some 29) (.mv (.tmp 0)) none [],.mk (some 30) (.call 31 [.tmp 29]) none [0],.mk (some 31) (.mv (.tmp 1)) none [],.mk (some 32) (.call 32 [.tmp 31]) none [2,1],.mk (some 33) (.mv (.tmp 2)) none [],.mk (some 34) (.call 19 [.tmp 33]) none [4,3],.mk (some 35) (.call 38 [.tmp 30,.tmp 32,.tmp 34]) none [1,3,5,5],.mk (some 28) (.mv (.tmp 35)) none [6],.mk (some 36) (.extract (.tmp 28) 0) none [7],.mk (some 37) (.extract (.tmp 28) 1) none [7],.mk (some 8) (.mv (.tmp 36)) none [8,6,0,1,2,3,4,5,6,7,8],.mk (some 9) (.mv (.tmp 37)) none [9,10,0,1,2,3,4,5,6,7,8,9,10]]
def l7r11 : List AOper :=
  [.mk (some 38) (.mv (.tmp 0)) none [],.mk (some 39) (.call 31 [.tmp 38]) none [0],.mk (some 10) (.mv (.tmp 39)) none [1,1,0,1]]
def l7r12 : List AOper :=
  [.mk (some 40) (.mv (.tmp 1)) none [],.mk (some 41) (.call 32 [.tmp 40]) none [0],.mk (some 11) (.mv (.tmp 41)) none [1,1,0,1]]
def l7r13 : List AOper :=
  [.mk (some 42) (.mv (.tmp 2)) none [],.mk (some 43) (.call 19 [.tmp 42]) none [0],.mk (some 12) (.mv (.tmp 43)) none [1,1,0,1]]
def l7r14 : List AOper :=
  [.mk (some 45) (.mv (.tmp 10)) none [],.mk (some 46) (.mv (.tmp 11)) none [],.mk (some 47) (.mv (.tmp 12)) none [],.mk (some 48) (.call 39 [.tmp 45,.tmp 46,.tmp 47]) none [0,1,2],.mk (some 44) (.mv (.tmp 48)) none [3],.mk (some 49) (.extract (.tmp 44) 0) none [4],.mk (some 50) (.extract (.tmp 44) 1) none [4],.mk (some 13) (.mv (.tmp 49)) none [5,3,0,1,2,3,4,5],.mk (some 14) (.mv (.tmp 50)) none [6,7,0,1,2,3,4,5,6,7]]
def l7r15 : List AOper :=
  [.mk (some 51) (.mv (.tmp 13)) none [],.mk (some 52) (.mv (.tmp 8)) none [],.mk (some 53) (.bin .neq (.tmp 51) (.tmp 52)) none [0,1],.mk (some 54) (.mv (.tmp 53)) none [2],.mk (some 55) (.mv (.tmp 14)) (some (54,false)) [3],.mk (some 56) (.mv (.tmp 9)) (some (54,false)) [3],.mk (some 57) (.bin .neq (.tmp 55) (.tmp 56)) (some (54,false)) [4,5,3],.mk (some 58) (.pick (.tmp 54) (.const (.bool true)) (.tmp 57)) none [3,6]]
def l7r16 : List AOper :=
  [.mk (some 6) (.mv (.const (.bool false))) none []]
def l7r17 : List AOper :=
  [.mk (some 59) (.mv (.tmp 10)) none [],.mk (some 60) (.mv (.tmp 0)) none [],.mk (some 61) (.call 31 [.tmp 60]) none [1],.mk (some 62) (.call 34 [.tmp 59,.tmp 61]) none [0,2,2],.mk (some 63) (.un .not (.tmp 62)) none [3]]
def l7r18 : List AOper :=
  [.mk (some 6) (.mv (.const (.bool false))) none []]
def l7r19 : List AOper :=
  [.mk (some 64) (.mv (.tmp 11)) none [],.mk (some 65) (.mv (.tmp 1)) none [],.mk (some 66) (.call 32 [.tmp 65]) none [1],.mk (some 67) (.call 35 [.tmp 64,.tmp 66]) none [0,2,2],.mk (some 68) (.un .not (.tmp 67)) none [3]]
def l7r20 : List AOper :=
  [.mk (some 6) (.mv (.const (.bool false))) none []]
def l7r21 : List AOper :=
  [.mk (some 69) (.mv (.tmp 12)) none [],.mk (some 70) (.mv (.tmp 2)) none [],.mk (some 71) (.call 19 [.tmp 70]) none [1],.mk (some 72) (.call 22 [.tmp 69,.tmp 71]) none [0,2,2],.mk (some 73) (.un .not (.tmp 72)) none [3]]
def l7r22 : List AOper :=
  [.mk (some 6) (.mv (.const (.bool false))) none []]
def l7r23 : List AOper :=
  [.mk (some 6) (.mv (.const (.bool true))) none []]
def l7 : AFn :=
  (AFn.mk 74 3 (.seq (.reg l7r0) (.seq (.seq (.reg l7r1) (.cond (.tmp 17) (.seq (.reg l7r2) .ret) .skip)) (.seq (.reg l7r3) (.seq (.reg l7r4) (.seq (.seq (.reg l7r5) (.cond (.tmp 22) (.seq (.reg l7r6) .ret) .skip)) (.seq (.reg l7r7) (.seq (.seq (.reg l7r8) (.cond (.tmp 27) (.seq (.reg l7r9) .ret) .skip)) (.seq (.reg l7r10) (.seq (.reg l7r11) (.seq (.reg l7r12) (.seq (.reg l7r13) (.seq (.reg l7r14) (.seq (.seq (.reg l7r15) (.cond (.tmp 58) (.seq (.reg l7r16) .ret) .skip)) (.seq (.seq (.reg l7r17) (.cond (.tmp 63) (.seq (.reg l7r18) .ret) .skip)) (.seq (.seq (.reg l7r19) (.cond (.tmp 68) (.seq (.reg l7r20) .ret) .skip)) (.seq (.seq (.reg l7r21) (.cond (.tmp 73) (.seq (.reg l7r22) .ret) .skip)) (.seq (.reg l7r23) .ret))))))))))))))))) [.tmp 6])
theorem l7_eq : lowFn Try.prog 7 = some l7 := by kernel_rfl
def l12r0 : List AOper :=
  [.mk (some 2) (.box (.tmp 0)) none [],.mk (some 4) (.mv (.const (.int .i64 0))) none []]
def l12r1 : List AOper :=
  [.mk (some 5) (.fld 0 (.tmp 2)) none [],.mk (some 6) (.load false 1 (.tmp 5)) none [0],.mk (some 7) (.mv (.tmp 1)) none [],.mk (some 8) (.call 48 [.tmp 6,.tmp 7]) none [1,2],.mk (some 1) (.mv (.tmp 8)) none [3,3,0,1,2,3]]
def l12r2 : List AOper :=
  [.mk (some 9) (.mv (.tmp 1)) none [],.mk (some 10) (.bin .lss (.tmp 9) (.const (.int .i64 0))) none [0]]
def l12r3 : List AOper :=
  [.mk (some 4) (.mv (.const (.int .i64 (-1)))) none []]
def l12r4 : List AOper :=
  [.mk (some 11) (.fld 1 (.tmp 2)) none [],.mk (some 12) (.load false 1 (.tmp 11)) none [0],.mk (some 13) (.mv (.tmp 1)) none [],.mk (some 14) (.call 48 [.tmp 12,.tmp 13]) none [1,2],.mk (some 1) (.mv (.tmp 14)) none [3,3,0,1,2,3]]
def l12r5 : List AOper :=
  [.mk (some 15) (.mv (.tmp 1)) none [],.mk (some 16) (.bin .lss (.tmp 15) (.const (.int .i64 0))) none [0]]
def l12r6 : List AOper :=
  [.mk (some 4) (.mv (.const (.int .i64 (-1)))) none []]
def l12r7 : List AOper :=
  [.mk (some 17) (.mv (.tmp 1)) none [],.mk (some 4) (.mv (.tmp 17)) none [0,0]]
def l12 : AFn :=
  (AFn.mk 18 2 (.seq (.reg l12r0) (.seq (.reg l12r1) (.seq (.seq (.reg l12r2) (.cond (.tmp 10) (.seq (.reg l12r3) .ret) .skip)) (.seq (.reg l12r4) (.seq (.seq (.reg l12r5) (.cond (.tmp 16) (.seq (.reg l12r6) .ret) .skip)) (.seq (.reg l12r7) .ret)))))) [.tmp 4])
theorem l12_eq : lowFn Try.prog 12 = some l12 := by kernel_rfl
def l14r0 : List AOper :=
  [.mk (some 1) (.box (.tmp 0)) none [],.mk (some 2) (.alloc [.slice none 0 0,.slice none 0 0]) none []]
def l14r1 : List AOper :=
  [.mk (some 3) (.alloc [.slice none 0 0,.slice none 0 0]) none []]
def l14r2 : List AOper :=
  [.mk (some 4) (.fld 0 (.tmp 1)) none [],.mk (some 5) (.load false 1 (.tmp 4)) none [0],.mk (some 6) (.call 19 [.tmp 5]) none [1],.mk (some 7) (.fld 0 (.tmp 3)) none [0,1,2],.mk none (.store 1 (.tmp 7) (.tmp 6)) none [3,2,2,0,1,2]]
def l14r3 : List AOper :=
  [.mk (some 8) (.fld 1 (.tmp 1)) none [],.mk (some 9) (.load false 1 (.tmp 8)) none [0],.mk (some 10) (.call 19 [.tmp 9]) none [1],.mk (some 11) (.fld 1 (.tmp 3)) none [0,1,2],.mk none (.store 1 (.tmp 11) (.tmp 10)) none [3,2,2,0,1,2]]
def l14r4 : List AOper :=
  [.mk (some 12) (.load true 2 (.tmp 3)) none [],.mk none (.store 2 (.tmp 2) (.tmp 12)) none [0,0]]
def l14 : AFn :=
  (AFn.mk 13 1 (.seq (.reg l14r0) (.seq (.reg l14r1) (.seq (.reg l14r2) (.seq (.reg l14r3) (.seq (.reg l14r4) .ret))))) [.cell 2 true 2])
theorem l14_eq : lowFn Try.prog 14 = some l14 := by kernel_rfl
def l15r0 : List AOper :=
  [.mk (some 1) (.box (.tmp 0)) none [],.mk (some 2) (.mv (.const (.bool false))) none []]
def l15r1a : List AOper :=
  [.mk (some 5) (.fld 0 (.tmp 1)) none [],.mk (some 6) (.load false 1 (.tmp 5)) none [0],.mk (some 7) (.call 50 [.tmp 6]) none [1],.mk (some 8) (.un .not (.tmp 7)) none [2],.mk (some 9) (.mv (.tmp 8)) none [3,2],.mk (some 10) (.fld 1 (.tmp 1)) (some (9,false)) [4],.mk (some 11) (.load false 1 (.tmp 10)) (some (9,false)) [5,4],.mk (some 12) (.len (.tmp 11)) (some (9,false)) [6,4],.mk (some 13) (.fld 0 (.tmp 1)) (some (9,false)) [4],.mk (some 14) (.load false 1 (.tmp 13)) (some (9,false)) [8,4],.mk (some 15) (.call 51 [.tmp 14]) (some (9,false)) [9,4,4]]
def l15r1b : List AOper :=
  [.mk (some 16) (.bin .neq (.tmp 12) (.tmp 15)) (some (9,false)) [7,10,4],.mk (some 17) (.pick (.tmp 9) (.const (.bool true)) (.tmp 16)) none [4,11]]
def l15r1 : List AOper := l15r1a ++ l15r1b
def l15r2 : List AOper :=
  [.mk (some 2) (.mv (.const (.bool false))) none []]
def l15r3 : List AOper :=
  [.mk (some 18) (.fld 1 (.tmp 1)) none [],.mk (some 19) (.load false 1 (.tmp 18)) none [0],.mk (some 20) (.len (.tmp 19)) none [1],.mk (some 21) (.mv (.const (.int .i64 0))) none []]
def l15r4 : List AOper :=
  [.mk (some 22) (.bin .lss (.tmp 21) (.tmp 20)) none []]
def l15r5 : List AOper :=
  [.mk (some 23) (.idxA 1 (.tmp 19) (.tmp 21)) none [],.mk (some 24) (.load false 1 (.tmp 23)) none [0],.mk (some 4) (.mv (.tmp 24)) none [1,0,1]]
def l15r6 : List AOper :=
  [.mk (some 25) (.mv (.tmp 4)) none [],.mk (some 26) (.call 52 [.tmp 25,.const (.int .i64 1000000)]) none [0],.mk (some 27) (.un .not (.tmp 26)) none [1]]
def l15r7 : List AOper :=
  [.mk (some 2) (.mv (.const (.bool false))) none []]
def l15r8 : List AOper :=
  [.mk (some 28) (.bin .add (.tmp 21) (.const (.int .i64 1))) none [],.mk (some 21) (.mv (.tmp 28)) none [0]]
def l15r9 : List AOper :=
  [.mk (some 2) (.mv (.const (.bool true))) none []]
def l15 : AFn :=
  (AFn.mk 29 1 (.seq (.reg l15r0) (.seq (.seq (.draw l15r1) (.cond (.tmp 17) (.seq (.reg l15r2) .ret) .skip)) (.seq (.seq (.reg l15r3) (.block 0 (.loop (.seq (.reg l15r4) (.seq (.cond (.tmp 22) .skip (.exit 0)) (.seq (.block 1 (.seq (.reg l15r5) (.seq (.reg l15r6) (.cond (.tmp 27) (.seq (.reg l15r7) .ret) .skip)))) (.reg l15r8))))))) (.seq (.reg l15r9) .ret)))) [.tmp 2])
theorem l15_eq : lowFn Try.prog 15 = some l15 := by kernel_rfl
def l16r0 : List AOper :=
  [.mk (some 2) (.box (.tmp 0)) none [],.mk (some 3) (.box (.tmp 1)) none [],.mk (some 4) (.mv (.const (.bool false))) none []]
def l16r1 : List AOper :=
  [.mk (some 5) (.fld 0 (.tmp 2)) none [],.mk (some 6) (.load false 1 (.tmp 5)) none [0],.mk (some 7) (.fld 0 (.tmp 3)) none [],.mk (some 8) (.load false 1 (.tmp 7)) none [2],.mk (some 9) (.call 22 [.tmp 6,.tmp 8]) none [1,3],.mk (some 10) (.un .not (.tmp 9)) none [4]]
def l16r2 : List AOper :=
  [.mk (some 4) (.mv (.const (.bool false))) none []]
def l16r3 : List AOper :=
  [.mk (some 11) (.fld 1 (.tmp 2)) none [],.mk (some 12) (.load false 1 (.tmp 11)) none [0],.mk (some 13) (.fld 1 (.tmp 3)) none [],.mk (some 14) (.load false 1 (.tmp 13)) none [2],.mk (some 15) (.call 22 [.tmp 12,.tmp 14]) none [1,3],.mk (some 16) (.un .not (.tmp 15)) none [4]]
def l16r4 : List AOper :=
  [.mk (some 4) (.mv (.const (.bool false))) none []]
def l16r5 : List AOper :=
  [.mk (some 4) (.mv (.const (.bool true))) none []]
def l16 : AFn :=
  (AFn.mk 17 2 (.seq (.reg l16r0) (.seq (.seq (.reg l16r1) (.cond (.tmp 10) (.seq (.reg l16r2) .ret) .skip)) (.seq (.seq (.reg l16r3) (.cond (.tmp 16) (.seq (.reg l16r4) .ret) .skip)) (.seq (.reg l16r5) .ret)))) [.tmp 4])
theorem l16_eq : lowFn Try.prog 16 = some l16 := by kernel_rfl
def l19r0 : List AOper :=
  [.mk (some 2) (.mv (.const (.slice none 0 0))) none []]
def l19r1 : List AOper :=
  [.mk (some 5) (.mv (.tmp 0)) none [],.mk (some 6) (.len (.tmp 5)) none [0],.mk (some 7) (.mkslice 1 [.int .i64 0] (.tmp 6) (.tmp 6)) none [1,1],.mk (some 3) (.mv (.tmp 7)) none [2,0,1,2]]
def l19r2 : List AOper :=
  [.mk (some 4) (.mv (.const (.int .i64 0))) none []]
def l19r3 : List AOper :=
  [.mk (some 8) (.mv (.tmp 4)) none [],.mk (some 9) (.mv (.tmp 0)) none [],.mk (some 10) (.len (.tmp 9)) none [1],.mk (some 11) (.bin .lss (.tmp 8) (.tmp 10)) none [0,2]]
def l19r4 : List AOper :=
  [.mk (some 14) (.mv (.tmp 3)) none [],.mk (some 15) (.mv (.tmp 4)) none [],.mk (some 16) (.mv (.tmp 0)) none [],.mk (some 17) (.mv (.tmp 4)) none [],.mk (some 18) (.idxA 1 (.tmp 16) (.tmp 17)) none [2,3],.mk (some 19) (.load false 1 (.tmp 18)) none [4],.mk (some 20) (.idxA 1 (.tmp 14) (.tmp 15)) none [0,1,0,1,2,3,4,5],.mk none (.store 1 (.tmp 20) (.tmp 19)) none [6,5,0,1,2,3,4,5]]
def l19r5 : List AOper :=
  [.mk (some 12) (.mv (.tmp 4)) none [],.mk (some 13) (.bin .add (.tmp 12) (.const (.int .i64 1))) none [0],.mk (some 4) (.mv (.tmp 13)) none [1,0,1]]
def l19r6 : List AOper :=
  [.mk (some 21) (.mv (.tmp 3)) none [],.mk (some 2) (.mv (.tmp 21)) none [0,0]]
def l19 : AFn :=
  (AFn.mk 22 1 (.seq (.reg l19r0) (.seq (.reg l19r1) (.seq (.seq (.reg l19r2) (.block 0 (.loop (.seq (.seq (.reg l19r3) (.cond (.tmp 11) .skip (.exit 0))) (.seq (.block 1 (.reg l19r4)) (.reg l19r5)))))) (.seq (.reg l19r6) .ret)))) [.tmp 2])
theorem l19_eq : lowFn Try.prog 19 = some l19 := by kernel_rfl
def l22r0 : List AOper :=
  [.mk (some 4) (.mv (.const (.bool false))) none []]
def l22r1 : List AOper :=
  [.mk (some 6) (.mv (.tmp 0)) none [],.mk (some 7) (.len (.tmp 6)) none [0],.mk (some 8) (.mv (.tmp 1)) none [],.mk (some 9) (.len (.tmp 8)) none [2],.mk (some 10) (.bin .neq (.tmp 7) (.tmp 9)) none [1,3]]
def l22r2 : List AOper :=
  [.mk (some 4) (.mv (.const (.bool false))) none []]
def l22r3 : List AOper :=
  [.mk (some 5) (.mv (.const (.int .i64 0))) none []]
def l22r4 : List AOper :=
  [.mk (some 11) (.mv (.tmp 5)) none [],.mk (some 12) (.mv (.tmp 0)) none [],.mk (some 13) (.len (.tmp 12)) none [1],.mk (some 14) (.bin .lss (.tmp 11) (.tmp 13)) none [0,2]]
def l22r5a : List AOper :=
  [.mk (some 17) (.mv (.tmp 0)) none [],.mk (some 18) (.mv (.tmp 5)) none [],.mk (some 19) (.idxA 1 (.tmp 17) (.tmp 18)) none [0,1],.mk (some 20) (.load false 1 (.tmp 19)) none [2],.mk (some 21) (.mv (.tmp 1)) none [],.mk (some 22) (.mv (.tmp 5)) none [],.mk (some 23) (.idxA 1 (.tmp 21) (.tmp 22)) none [4,5],.mk (some 24) (.load false 1 (.tmp 23)) none [6]]
def l22r5b : List AOper :=
  [.mk (some 25) (.bin .neq (.tmp 20) (.tmp 24)) none [3,7]]
def l22r5 : List AOper := l22r5a ++ l22r5b
def l22r6 : List AOper :=
  [.mk (some 4) (.mv (.const (.bool false))) none []]
def l22r7 : List AOper :=
  [.mk (some 15) (.mv (.tmp 5)) none [],.mk (some 16) (.bin .add (.tmp 15) (.const (.int .i64 1))) none [0],.mk (some 5) (.mv (.tmp 16)) none [1,0,1]]
def l22r8 : List AOper :=
  [.mk (some 4) (.mv (.const (.bool true))) none []]
def l22 : AFn :=
  (AFn.mk 26 2 (.seq (.reg l22r0) (.seq (.seq (.reg l22r1) (.cond (.tmp 10) (.seq (.reg l22r2) .ret) .skip)) (.seq (.seq (.reg l22r3) (.block 0 (.loop (.seq (.seq (.reg l22r4) (.cond (.tmp 14) .skip (.exit 0))) (.seq (.block 1 (.seq (.draw l22r5) (.cond (.tmp 25) (.seq (.reg l22r6) .ret) .skip))) (.reg l22r7)))))) (.seq (.reg l22r8) .ret)))) [.tmp 4])
theorem l22_eq : lowFn Try.prog 22 = some l22 := by kernel_rfl
def l28r0 : List AOper :=
  [.mk (some 4) (.mv (.const (.int .i64 0))) none []]
def l28r1 : List AOper :=
  [.mk (some 6) (.mv (.tmp 1)) none [],.mk (some 7) (.mv (.tmp 0)) none [],.mk (some 8) (.len (.tmp 7)) none [1],.mk (some 9) (.bin .sub (.tmp 6) (.tmp 8)) none [0,2],.mk (some 1) (.mv (.tmp 9)) none [3,0,1,2,3]]
def l28r2 : List AOper :=
  [.mk (some 10) (.mv (.tmp 1)) none [],.mk (some 11) (.bin .lss (.tmp 10) (.const (.int .i64 0))) none [0]]
def l28r3 : List AOper :=
  [.mk (some 4) (.mv (.const (.int .i64 (-1)))) none []]
def l28r4 : List AOper :=
  [.mk (some 5) (.mv (.const (.int .i64 0))) none []]
def l28r5 : List AOper :=
  [.mk (some 12) (.mv (.tmp 5)) none [],.mk (some 13) (.mv (.tmp 0)) none [],.mk (some 14) (.len (.tmp 13)) none [1],.mk (some 15) (.bin .lss (.tmp 12) (.tmp 14)) none [0,2]]
def l28r6 : List AOper :=
  [.mk (some 18) (.mv (.tmp 0)) none [],.mk (some 19) (.mv (.tmp 5)) none [],.mk (some 20) (.idxA 2 (.tmp 18) (.tmp 19)) none [0,1],.mk (some 21) (.load true 2 (.tmp 20)) none [2],.mk (some 22) (.mv (.tmp 1)) none [],.mk (some 23) (.call 12 [.tmp 21,.tmp 22]) none [3,4],.mk (some 1) (.mv (.tmp 23)) none [5,5,0,1,2,3,4,5]]
def l28r7 : List AOper :=
  [.mk (some 24) (.mv (.tmp 1)) none [],.mk (some 25) (.bin .lss (.tmp 24) (.const (.int .i64 0))) none [0]]
def l28r8 : List AOper :=
  [.mk (some 4) (.mv (.const (.int .i64 (-1)))) none []]
def l28r9 : List AOper :=
  [.mk (some 16) (.mv (.tmp 5)) none [],.mk (some 17) (.bin .add (.tmp 16) (.const (.int .i64 1))) none [0],.mk (some 5) (.mv (.tmp 17)) none [1,0,1]]
def l28r10 : List AOper :=
  [.mk (some 26) (.mv (.tmp 1)) none [],.mk (some 4) (.mv (.tmp 26)) none [0,0]]
def l28 : AFn :=
  (AFn.mk 27 2 (.seq (.reg l28r0) (.seq (.reg l28r1) (.seq (.seq (.reg l28r2) (.cond (.tmp 11) (.seq (.reg l28r3) .ret) .skip)) (.seq (.seq (.reg l28r4) (.block 0 (.loop (.seq (.seq (.reg l28r5) (.cond (.tmp 15) .skip (.exit 0))) (.seq (.block 1 (.seq (.reg l28r6) (.seq (.reg l28r7) (.cond (.tmp 25) (.seq (.reg l28r8) .ret) .skip)))) (.reg l28r9)))))) (.seq (.reg l28r10) .ret))))) [.tmp 4])
theorem l28_eq : lowFn Try.prog 28 = some l28 := by kernel_rfl
def l29r0 : List AOper :=
  [.mk (some 4) (.mv (.const (.int .i64 0))) none []]
def l29r1 : List AOper :=
  [.mk (some 6) (.mv (.tmp 1)) none [],.mk (some 7) (.mv (.tmp 0)) none [],.mk (some 8) (.len (.tmp 7)) none [1],.mk (some 9) (.bin .sub (.tmp 6) (.tmp 8)) none [0,2],.mk (some 1) (.mv (.tmp 9)) none [3,0,1,2,3]]
def l29r2 : List AOper :=
  [.mk (some 10) (.mv (.tmp 1)) none [],.mk (some 11) (.bin .lss (.tmp 10) (.const (.int .i64 0))) none [0]]
def l29r3 : List AOper :=
  [.mk (some 4) (.mv (.const (.int .i64 (-1)))) none []]
def l29r4 : List AOper :=
  [.mk (some 5) (.mv (.const (.int .i64 0))) none []]
def l29r5 : List AOper :=
  [.mk (some 12) (.mv (.tmp 5)) none [],.mk (some 13) (.mv (.tmp 0)) none [],.mk (some 14) (.len (.tmp 13)) none [1],.mk (some 15) (.bin .lss (.tmp 12) (.tmp 14)) none [0,2]]
def l29r6 : List AOper :=
  [.mk (some 18) (.mv (.tmp 0)) none [],.mk (some 19) (.mv (.tmp 5)) none [],.mk (some 20) (.idxA 1 (.tmp 18) (.tmp 19)) none [0,1],.mk (some 21) (.load false 1 (.tmp 20)) none [2],.mk (some 22) (.mv (.tmp 1)) none [],.mk (some 23) (.call 48 [.tmp 21,.tmp 22]) none [3,4],.mk (some 1) (.mv (.tmp 23)) none [5,5,0,1,2,3,4,5]]
def l29r7 : List AOper :=
  [.mk (some 24) (.mv (.tmp 1)) none [],.mk (some 25) (.bin .lss (.tmp 24) (.const (.int .i64 0))) none [0]]
def l29r8 : List AOper :=
  [.mk (some 4) (.mv (.const (.int .i64 (-1)))) none []]
def l29r9 : List AOper :=
  [.mk (some 16) (.mv (.tmp 5)) none [],.mk (some 17) (.bin .add (.tmp 16) (.const (.int .i64 1))) none [0],.mk (some 5) (.mv (.tmp 17)) none [1,0,1]]
def l29r10 : List AOper :=
  [.mk (some 26) (.mv (.tmp 1)) none [],.mk (some 4) (.mv (.tmp 26)) none [0,0]]
def l29 : AFn :=
  (AFn.mk 27 2 (.seq (.reg l29r0) (.seq (.reg l29r1) (.seq (.seq (.reg l29r2) (.cond (.tmp 11) (.seq (.reg l29r3) .ret) .skip)) (.seq (.seq (.reg l29r4) (.block 0 (.loop (.seq (.seq (.reg l29r5) (.cond (.tmp 15) .skip (.exit 0))) (.seq (.block 1 (.seq (.reg l29r6) (.seq (.reg l29r7) (.cond (.tmp 25) (.seq (.reg l29r8) .ret) .skip)))) (.reg l29r9)))))) (.seq (.reg l29r10) .ret))))) [.tmp 4])
theorem l29_eq : lowFn Try.prog 29 = some l29 := by kernel_rfl
def l31r0 : List AOper :=
  [.mk (some 2) (.mv (.const (.slice none 0 0))) none []]
def l31r1 : List AOper :=
  [.mk (some 5) (.mv (.tmp 0)) none [],.mk (some 6) (.len (.tmp 5)) none [0],.mk (some 7) (.mkslice 2 [.slice none 0 0,.slice none 0 0] (.tmp 6) (.tmp 6)) none [1,1],.mk (some 3) (.mv (.tmp 7)) none [2,0,1,2]]
def l31r2 : List AOper :=
  [.mk (some 4) (.mv (.const (.int .i64 0))) none []]
def l31r3 : List AOper :=
  [.mk (some 8) (.mv (.tmp 4)) none [],.mk (some 9) (.mv (.tmp 0)) none [],.mk (some 10) (.len (.tmp 9)) none [1],.mk (some 11) (.bin .lss (.tmp 8) (.tmp 10)) none [0,2]]
def l31r4 : List AOper :=
  [.mk (some 14) (.mv (.tmp 3)) none [],.mk (some 15) (.mv (.tmp 4)) none [],.mk (some 16) (.mv (.tmp 0)) none [],.mk (some 17) (.mv (.tmp 4)) none [],.mk (some 18) (.idxA 2 (.tmp 16) (.tmp 17)) none [2,3],.mk (some 19) (.load true 2 (.tmp 18)) none [4],.mk (some 20) (.call 14 [.tmp 19]) none [5],.mk (some 21) (.idxA 2 (.tmp 14) (.tmp 15)) none [0,1,0,1,2,3,4,5,6],.mk none (.store 2 (.tmp 21) (.tmp 20)) none [7,6,6,0,1,2,3,4,5,6]]
def l31r5 : List AOper :=
  [.mk (some 12) (.mv (.tmp 4)) none [],.mk (some 13) (.bin .add (.tmp 12) (.const (.int .i64 1))) none [0],.mk (some 4) (.mv (.tmp 13)) none [1,0,1]]
def l31r6 : List AOper :=
  [.mk (some 22) (.mv (.tmp 3)) none [],.mk (some 2) (.mv (.tmp 22)) none [0,0]]
def l31 : AFn :=
  (AFn.mk 23 1 (.seq (.reg l31r0) (.seq (.reg l31r1) (.seq (.seq (.reg l31r2) (.block 0 (.loop (.seq (.seq (.reg l31r3) (.cond (.tmp 11) .skip (.exit 0))) (.seq (.block 1 (.reg l31r4)) (.reg l31r5)))))) (.seq (.reg l31r6) .ret)))) [.tmp 2])
theorem l31_eq : lowFn Try.prog 31 = some l31 := by kernel_rfl
def l32r0 : List AOper :=
  [.mk (some 2) (.mv (.const (.slice none 0 0))) none []]
def l32r1 : List AOper :=
  [.mk (some 5) (.mv (.tmp 0)) none [],.mk (some 6) (.len (.tmp 5)) none [0],.mk (some 7) (.mkslice 1 [.slice none 0 0] (.tmp 6) (.tmp 6)) none [1,1],.mk (some 3) (.mv (.tmp 7)) none [2,0,1,2]]
def l32r2 : List AOper :=
  [.mk (some 4) (.mv (.const (.int .i64 0))) none []]
def l32r3 : List AOper :=
  [.mk (some 8) (.mv (.tmp 4)) none [],.mk (some 9) (.mv (.tmp 0)) none [],.mk (some 10) (.len (.tmp 9)) none [1],.mk (some 11) (.bin .lss (.tmp 8) (.tmp 10)) none [0,2]]
def l32r4 : List AOper :=
  [.mk (some 14) (.mv (.tmp 3)) none [],.mk (some 15) (.mv (.tmp 4)) none [],.mk (some 16) (.mv (.tmp 0)) none [],.mk (some 17) (.mv (.tmp 4)) none [],.mk (some 18) (.idxA 1 (.tmp 16) (.tmp 17)) none [2,3],.mk (some 19) (.load false 1 (.tmp 18)) none [4],.mk (some 20) (.call 19 [.tmp 19]) none [5],.mk (some 21) (.idxA 1 (.tmp 14) (.tmp 15)) none [0,1,0,1,2,3,4,5,6],.mk none (.store 1 (.tmp 21) (.tmp 20)) none [7,6,6,0,1,2,3,4,5,6]]
def l32r5 : List AOper :=
  [.mk (some 12) (.mv (.tmp 4)) none [],.mk (some 13) (.bin .add (.tmp 12) (.const (.int .i64 1))) none [0],.mk (some 4) (.mv (.tmp 13)) none [1,0,1]]
def l32r6 : List AOper :=
  [.mk (some 22) (.mv (.tmp 3)) none [],.mk (some 2) (.mv (.tmp 22)) none [0,0]]
def l32 : AFn :=
  (AFn.mk 23 1 (.seq (.reg l32r0) (.seq (.reg l32r1) (.seq (.seq (.reg l32r2) (.block 0 (.loop (.seq (.seq (.reg l32r3) (.cond (.tmp 11) .skip (.exit 0))) (.seq (.block 1 (.reg l32r4)) (.reg l32r5)))))) (.seq (.reg l32r6) .ret)))) [.tmp 2])
theorem l32_eq : lowFn Try.prog 32 = some l32 := by kernel_rfl
def l34r0 : List AOper :=
  [.mk (some 4) (.mv (.const (.bool false))) none []]
def l34r1 : List AOper :=
  [.mk (some 6) (.mv (.tmp 0)) none [],.mk (some 7) (.len (.tmp 6)) none [0],.mk (some 8) (.mv (.tmp 1)) none [],.mk (some 9) (.len (.tmp 8)) none [2],.mk (some 10) (.bin .neq (.tmp 7) (.tmp 9)) none [1,3]]
def l34r2 : List AOper :=
  [.mk (some 4) (.mv (.const (.bool false))) none []]
def l34r3 : List AOper :=
  [.mk (some 5) (.mv (.const (.int .i64 0))) none []]
def l34r4 : List AOper :=
  [.mk (some 11) (.mv (.tmp 5)) none [],.mk (some 12) (.mv (.tmp 0)) none [],.mk (some 13) (.len (.tmp 12)) none [1],.mk (some 14) (.bin .lss (.tmp 11) (.tmp 13)) none [0,2]]
def l34r5a : List AOper :=
  [.mk (some 17) (.mv (.tmp 0)) none [],.mk (some 18) (.mv (.tmp 5)) none [],.mk (some 19) (.idxA 2 (.tmp 17) (.tmp 18)) none [0,1],.mk (some 20) (.load true 2 (.tmp 19)) none [2],.mk (some 21) (.mv (.tmp 1)) none [],.mk (some 22) (.mv (.tmp 5)) none [],.mk (some 23) (.idxA 2 (.tmp 21) (.tmp 22)) none [4,5],.mk (some 24) (.load true 2 (.tmp 23)) none [6]]
def l34r5b : List AOper :=
  [.mk (some 25) (.call 16 [.tmp 20,.tmp 24]) none [3,7],.mk (some 26) (.un .not (.tmp 25)) none [8]]
def l34r5 : List AOper := l34r5a ++ l34r5b
def l34r6 : List AOper :=
  [.mk (some 4) (.mv (.const (.bool false))) none []]
def l34r7 : List AOper :=
  [.mk (some 15) (.mv (.tmp 5)) none [],.mk (some 16) (.bin .add (.tmp 15) (.const (.int .i64 1))) none [0],.mk (some 5) (.mv (.tmp 16)) none [1,0,1]]
def l34r8 : List AOper :=
  [.mk (some 4) (.mv (.const (.bool true))) none []]
def l34 : AFn :=
  (AFn.mk 27 2 (.seq (.reg l34r0) (.seq (.seq (.reg l34r1) (.cond (.tmp 10) (.seq (.reg l34r2) .ret) .skip)) (.seq (.seq (.reg l34r3) (.block 0 (.loop (.seq (.seq (.reg l34r4) (.cond (.tmp 14) .skip (.exit 0))) (.seq (.block 1 (.seq (.draw l34r5) (.cond (.tmp 26) (.seq (.reg l34r6) .ret) .skip))) (.reg l34r7)))))) (.seq (.reg l34r8) .ret)))) [.tmp 4])
theorem l34_eq : lowFn Try.prog 34 = some l34 := by kernel_rfl
def l35r0 : List AOper :=
  [.mk (some 4) (.mv (.const (.bool false))) none []]
def l35r1 : List AOper :=
  [.mk (some 6) (.mv (.tmp 0)) none [],.mk (some 7) (.len (.tmp 6)) none [0],.mk (some 8) (.mv (.tmp 1)) none [],.mk (some 9) (.len (.tmp 8)) none [2],.mk (some 10) (.bin .neq (.tmp 7) (.tmp 9)) none [1,3]]
def l35r2 : List AOper :=
  [.mk (some 4) (.mv (.const (.bool false))) none []]
def l35r3 : List AOper :=
  [.mk (some 5) (.mv (.const (.int .i64 0))) none []]
def l35r4 : List AOper :=
  [.mk (some 11) (.mv (.tmp 5)) none [],.mk (some 12) (.mv (.tmp 0)) none [],.mk (some 13) (.len (.tmp 12)) none [1],.mk (some 14) (.bin .lss (.tmp 11) (.tmp 13)) none [0,2]]
def l35r5a : List AOper :=
  [.mk (some 17) (.mv (.tmp 0)) none [],.mk (some 18) (.mv (.tmp 5)) none [],.mk (some 19) (.idxA 1 (.tmp 17) (.tmp 18)) none [0,1],.mk (some 20) (.load false 1 (.tmp 19)) none [2],.mk (some 21) (.mv (.tmp 1)) none [],.mk (some 22) (.mv (.tmp 5)) none [],.mk (some 23) (.idxA 1 (.tmp 21) (.tmp 22)) none [4,5],.mk (some 24) (.load false 1 (.tmp 23)) none [6]]
def l35r5b : List AOper :=
  [.mk (some 25) (.call 22 [.tmp 20,.tmp 24]) none [3,7],.mk (some 26) (.un .not (.tmp 25)) none [8]]
def l35r5 : List AOper := l35r5a ++ l35r5b
def l35r6 : List AOper :=
  [.mk (some 4) (.mv (.const (.bool false))) none []]
def l35r7 : List AOper :=
  [.mk (some 15) (.mv (.tmp 5)) none [],.mk (some 16) (.bin .add (.tmp 15) (.const (.int .i64 1))) none [0],.mk (some 5) (.mv (.tmp 16)) none [1,0,1]]
def l35r8 : List AOper :=
  [.mk (some 4) (.mv (.const (.bool true))) none []]
def l35 : AFn :=
  (AFn.mk 27 2 (.seq (.reg l35r0) (.seq (.seq (.reg l35r1) (.cond (.tmp 10) (.seq (.reg l35r2) .ret) .skip)) (.seq (.seq (.reg l35r3) (.block 0 (.loop (.seq (.seq (.reg l35r4) (.cond (.tmp 14) .skip (.exit 0))) (.seq (.block 1 (.seq (.draw l35r5) (.cond (.tmp 26) (.seq (.reg l35r6) .ret) .skip))) (.reg l35r7)))))) (.seq (.reg l35r8) .ret)))) [.tmp 4])
theorem l35_eq : lowFn Try.prog 35 = some l35 := by kernel_rfl
def l36r0 : List AOper :=
  [.mk (some 10) (.mv (.const (.int .i64 0))) none []]
def l36r1 : List AOper :=
  [.mk (some 14) (.mv (.tmp 0)) none [],.mk (some 15) (.mv (.tmp 1)) none [],.mk (some 16) (.call 60 [.tmp 14,.tmp 15]) none [0,1],.mk (some 13) (.mv (.tmp 16)) none [2],.mk (some 17) (.extract (.tmp 13) 0) none [3],.mk (some 18) (.extract (.tmp 13) 1) none [3],.mk (some 11) (.mv (.tmp 17)) none [4,2,0,1,2,3,4],.mk (some 12) (.mv (.tmp 18)) none [5,6,0,1,2,3,4,5,6]]
def l36r2 : List AOper :=
  [.mk (some 19) (.mv (.tmp 12)) none [],.mk (some 20) (.un .not (.tmp 19)) none [0],.mk (some 21) (.mv (.tmp 20)) none [1],.mk (some 22) (.mv (.tmp 2)) (some (21,false)) [2],.mk (some 23) (.call 64 [.tmp 22,.const (.int .i64 0),.const (.int .i64 4)]) (some (21,false)) [3,2,2],.mk (some 24) (.un .not (.tmp 23)) (some (21,false)) [4,2],.mk (some 25) (.pick (.tmp 21) (.const (.bool true)) (.tmp 24)) none [2,5],.mk (some 26) (.mv (.tmp 25)) none [6,4],.mk (some 27) (.mv (.tmp 3)) (some (26,false)) [7],.mk (some 28) (.mv (.tmp 0)) (some (26,false)) [7],.mk (some 29) (.len (.tmp 28)) (some (26,false)) [9,7],.mk (some 30) (.bin .sub (.tmp 29) (.const (.int .i64 1))) (some (26,false)) [10,7],.mk (some 31) (.call 65 [.tmp 27,.const (.int .i64 0),.tmp 30]) (some (26,false)) [8,11,7,7],.mk (some 32) (.un .not (.tmp 31)) (some (26,false)) [12,7],.mk (some 33) (.pick (.tmp 26) (.const (.bool true)) (.tmp 32)) none [7,13],.mk (some 34) (.mv (.tmp 33)) none [14,12],.mk (some 35) (.mv (.tmp 4)) (some (34,false)) [15],.mk (some 36) (.mv (.tmp 0)) (some (34,false)) [15],.mk (some 37) (.len (.tmp 36)) (some (34,false)) [17,15],.mk (some 38) (.bin .sub (.tmp 37) (.const (.int .i64 1))) (some (34,false)) [18,15],.mk (some 39) (.call 65 [.tmp 35,.const (.int .i64 0),.tmp 38]) (some (34,false)) [16,19,15,15],.mk (some 40) (.un .not (.tmp 39)) (some (34,false)) [20,15],.mk (some 41) (.pick (.tmp 34) (.const (.bool true)) (.tmp 40)) none [15,21],.mk (some 42) (.mv (.tmp 41)) none [22,20],.mk (some 43) (.mv (.tmp 3)) (some (42,false)) [23],.mk (some 44) (.mv (.tmp 4)) (some (42,false)) [23],.mk (some 45) (.bin .eql (.tmp 43) (.tmp 44)) (some (42,false)) [24,25,23],.mk (some 46) (.pick (.tmp 42) (.const (.bool true)) (.tmp 45)) none [23,26]]
def l36r3 : List AOper :=
  [.mk (some 10) (.mv (.const (.int .i64 (-1)))) none []]
def l36r4 : List AOper :=
  [.mk (some 47) (.mv (.tmp 11)) none [],.mk (some 48) (.mv (.tmp 1)) none [],.mk (some 49) (.mv (.tmp 2)) none [],.mk (some 50) (.mv (.tmp 3)) none [],.mk (some 51) (.mv (.tmp 4)) none [],.mk (some 52) (.call 66 [.tmp 47,.tmp 48,.tmp 49,.tmp 50,.tmp 51]) none [0,1,2,3,4],.mk (some 10) (.mv (.tmp 52)) none [5,5,0,1,2,3,4,5]]
def l36 : AFn :=
  (AFn.mk 53 5 (.seq (.reg l36r0) (.seq (.reg l36r1) (.seq (.seq (.reg l36r2) (.cond (.tmp 46) (.seq (.reg l36r3) .ret) .skip)) (.seq (.reg l36r4) .ret)))) [.tmp 10])
theorem l36_eq : lowFn Try.prog 36 = some l36 := by kernel_rfl
def l37r0 : List AOper :=
  [.mk (some 10) (.mv (.const (.int .i64 0))) none []]
def l37r1 : List AOper :=
  [.mk (some 15) (.mv (.tmp 0)) none [],.mk (some 16) (.mv (.tmp 1)) none [],.mk (some 17) (.mv (.tmp 2)) none [],.mk (some 18) (.call 62 [.tmp 15,.tmp 16,.tmp 17]) none [0,1,2],.mk (some 14) (.mv (.tmp 18)) none [3],.mk (some 19) (.extract (.tmp 14) 0) none [4],.mk (some 20) (.extract (.tmp 14) 1) none [4],.mk (some 11) (.alloc [.int .i64 0,.int .i64 0,.int .i64 0,.int .i64 0,.int .i64 0]) none [],.mk none (.store 5 (.tmp 11) (.tmp 19)) none [7,5,3,0,1,2,3,4,5,7],.mk (some 12) (.mv (.tmp 20)) none [6,8,0,1,2,3,4,5,6,7,8]]
def l37r2 : List AOper :=
  [.mk (some 21) (.mv (.tmp 12)) none [],.mk (some 22) (.un .not (.tmp 21)) none [0],.mk (some 23) (.mv (.tmp 22)) none [1],.mk (some 24) (.mv (.tmp 3)) (some (23,false)) [2],.mk (some 25) (.mv (.tmp 4)) (some (23,false)) [2],.mk (some 26) (.mv (.tmp 0)) (some (23,false)) [2],.mk (some 27) (.len (.tmp 26)) (some (23,false)) [5,2],.mk (some 28) (.call 67 [.tmp 24,.tmp 25,.tmp 27]) (some (23,false)) [3,4,6,2,2],.mk (some 29) (.un .not (.tmp 28)) (some (23,false)) [7,2],.mk (some 30) (.pick (.tmp 23) (.const (.bool true)) (.tmp 29)) none [2,8]]
def l37r3 : List AOper :=
  [.mk (some 10) (.mv (.const (.int .i64 (-1)))) none []]
def l37r4 : List AOper :=
  [.mk (some 31) (.mv (.tmp 1)) none [],.mk (some 32) (.mv (.tmp 3)) none [],.mk (some 33) (.mv (.tmp 4)) none [],.mk (some 34) (.call 68 [.tmp 31,.tmp 32,.tmp 33]) none [0,1,2],.mk (some 35) (.mv (.tmp 1)) none [],.mk (some 36) (.mv (.tmp 2)) none [],.mk (some 37) (.mv (.tmp 3)) none [],.mk (some 38) (.mv (.tmp 4)) none [],.mk (some 39) (.call 69 [.tmp 35,.tmp 36,.tmp 37,.tmp 38]) none [4,5,6,7,3],.mk (some 40) (.bslice 1 [.slice none 0 0] [(0,.tmp 39)] 1) none [8],.mk (some 41) (.append 1 (.tmp 34) (.tmp 40)) none [3,9,8],.mk (some 13) (.mv (.tmp 41)) none [10,10,0,1,2,3,4,5,6,7,8,9,10]]
def l37r5a : List AOper :=
  [.mk (some 42) (.load true 5 (.tmp 11)) none [],.mk (some 43) (.mv (.tmp 1)) none [],.mk (some 44) (.mv (.tmp 3)) none [],.mk (some 45) (.idxA 1 (.tmp 43) (.tmp 44)) none [1,2],.mk (some 46) (.load false 1 (.tmp 45)) none [3],.mk (some 47) (.mv (.tmp 1)) none [],.mk (some 48) (.mv (.tmp 4)) none [],.mk (some 49) (.idxA 1 (.tmp 47) (.tmp 48)) none [5,6],.mk (some 50) (.load false 1 (.tmp 49)) none [7],.mk (some 51) (.bslice 1 [.slice none 0 0] [(0,.tmp 46),(1,.tmp 50)] 2) none [4,8],.mk (some 52) (.call 63 [.tmp 42,.tmp 51]) none [0,9],.mk (some 53) (.load true 5 (.tmp 11)) none [],.mk (some 54) (.mv (.tmp 13)) none []]
def l37r5b : List AOper :=
  [.mk (some 55) (.call 63 [.tmp 53,.tmp 54]) none [11,12,10],.mk (some 56) (.bin .add (.tmp 52) (.tmp 55)) none [10,13],.mk (some 10) (.mv (.tmp 56)) none [14,13,0,1,2,3,4,5,6,7,8,9,10,11,12,13,14]]
def l37r5 : List AOper := l37r5a ++ l37r5b
def l37 : AFn :=
  (AFn.mk 57 5 (.seq (.reg l37r0) (.seq (.reg l37r1) (.seq (.seq (.reg l37r2) (.cond (.tmp 30) (.seq (.reg l37r3) .ret) .skip)) (.seq (.reg l37r4) (.seq (.draw l37r5) .ret))))) [.tmp 10])
theorem l37_eq : lowFn Try.prog 37 = some l37 := by kernel_rfl
def l38r0 : List AOper :=
  [.mk (some 6) (.mv (.const (.int .i64 0))) none [],.mk (some 7) (.mv (.const (.int .i64 0))) none [0]]
def l38r1 : List AOper :=
  [.mk (some 17) (.mv (.tmp 0)) none [],.mk (some 18) (.mv (.tmp 1)) none [],.mk (some 19) (.call 60 [.tmp 17,.tmp 18]) none [0,1],.mk (some 16) (.mv (.tmp 19)) none [2],.mk (some 20) (.extract (.tmp 16) 0) none [3],.mk (some 21) (.extract (.tmp 16) 1) none [3],.mk (some 8) (.mv (.tmp 20)) none [4,2,0,1,2,3,4],.mk (some 9) (.mv (.tmp 21)) none [5,6,0,1,2,3,4,5,6]]
def l38r2 : List AOper :=
  [.mk (some 22) (.mv (.tmp 9)) none [],.mk (some 23) (.un .not (.tmp 22)) none [0],.mk (some 24) (.mv (.tmp 23)) none [1],.mk (some 25) (.mv (.tmp 2)) (some (24,false)) [2],.mk (some 26) (.call 64 [.tmp 25,.const (.int .i64 0),.const (.int .i64 4)]) (some (24,false)) [3,2,2],.mk (some 27) (.un .not (.tmp 26)) (some (24,false)) [4,2],.mk (some 28) (.pick (.tmp 24) (.const (.bool true)) (.tmp 27)) none [2,5]]
def l38r3 : List AOper :=
  [.mk (some 6) (.mv (.const (.int .i64 (-1)))) none [],.mk (some 7) (.mv (.const (.int .i64 (-1)))) none [0,0]]
def l38r4 : List AOper :=
  [.mk (some 10) (.mv (.const (.int .i64 (-1)))) none []]
def l38r5 : List AOper :=
  [.mk (some 11) (.mv (.const (.int .i64 (-1)))) none []]
def l38r6 : List AOper :=
  [.mk (some 12) (.mv (.const (.int .i64 0))) none []]
def l38r7 : List AOper :=
  [.mk (some 13) (.mv (.const (.int .i64 0))) none []]
def l38r8 : List AOper :=
  [.mk (some 29) (.mv (.tmp 13)) none [],.mk (some 30) (.mv (.tmp 0)) none [],.mk (some 31) (.len (.tmp 30)) none [1],.mk (some 32) (.bin .lss (.tmp 29) (.tmp 31)) none [0,2]]
def l38r9 : List AOper :=
  [.mk (some 35) (.mv (.tmp 13)) none [],.mk (some 36) (.bin .add (.tmp 35) (.const (.int .i64 1))) none [0],.mk (some 14) (.mv (.tmp 36)) none [1,0,1]]
def l38r10 : List AOper :=
  [.mk (some 37) (.mv (.tmp 14)) none [],.mk (some 38) (.mv (.tmp 0)) none [],.mk (some 39) (.len (.tmp 38)) none [1],.mk (some 40) (.bin .lss (.tmp 37) (.tmp 39)) none [0,2]]
def l38r11 : List AOper :=
  [.mk (some 43) (.mv (.tmp 8)) none [],.mk (some 44) (.mv (.tmp 1)) none [],.mk (some 45) (.mv (.tmp 2)) none [],.mk (some 46) (.mv (.tmp 13)) none [],.mk (some 47) (.mv (.tmp 14)) none [],.mk (some 48) (.call 66 [.tmp 43,.tmp 44,.tmp 45,.tmp 46,.tmp 47]) none [0,1,2,3,4],.mk (some 15) (.mv (.tmp 48)) none [5,5,0,1,2,3,4,5]]
def l38r12 : List AOper :=
  [.mk (some 49) (.mv (.tmp 10)) none [],.mk (some 50) (.bin .lss (.tmp 49) (.const (.int .i64 0))) none [0],.mk (some 51) (.mv (.tmp 50)) none [1],.mk (some 52) (.mv (.tmp 15)) (some (51,false)) [2],.mk (some 53) (.mv (.tmp 12)) (some (51,false)) [2],.mk (some 54) (.bin .lss (.tmp 52) (.tmp 53)) (some (51,false)) [3,4,2],.mk (some 55) (.pick (.tmp 51) (.const (.bool true)) (.tmp 54)) none [2,5]]
def l38r13 : List AOper :=
  [.mk (some 56) (.mv (.tmp 13)) none [],.mk (some 10) (.mv (.tmp 56)) none [0,0]]
def l38r14 : List AOper :=
  [.mk (some 57) (.mv (.tmp 14)) none [],.mk (some 11) (.mv (.tmp 57)) none [0,0]]
def l38r15 : List AOper :=
  [.mk (some 58) (.mv (.tmp 15)) none [],.mk (some 12) (.mv (.tmp 58)) none [0,0]]
def l38r16 : List AOper :=
  [.mk (some 41) (.mv (.tmp 14)) none [],.mk (some 42) (.bin .add (.tmp 41) (.const (.int .i64 1))) none [0],.mk (some 14) (.mv (.tmp 42)) none [1,0,1]]
def l38r17 : List AOper :=
  [.mk (some 33) (.mv (.tmp 13)) none [],.mk (some 34) (.bin .add (.tmp 33) (.const (.int .i64 1))) none [0],.mk (some 13) (.mv (.tmp 34)) none [1,0,1]]
def l38r18 : List AOper :=
  [.mk (some 59) (.mv (.tmp 10)) none [],.mk (some 60) (.mv (.tmp 11)) none [],.mk (some 6) (.mv (.tmp 59)) none [0,0],.mk (some 7) (.mv (.tmp 60)) none [1,2,0,1,2]]
def l38 : AFn :=
  (AFn.mk 61 3 (.seq (.reg l38r0) (.seq (.reg l38r1) (.seq (.seq (.reg l38r2) (.cond (.tmp 28) (.seq (.reg l38r3) .ret) .skip)) (.seq (.reg l38r4) (.seq (.reg l38r5) (.seq (.reg l38r6) (.seq (.seq (.reg l38r7) (.block 0 (.loop (.seq (.seq (.reg l38r8) (.cond (.tmp 32) .skip (.exit 0))) (.seq (.block 1 (.seq (.reg l38r9) (.block 2 (.loop (.seq (.seq (.reg l38r10) (.cond (.tmp 40) .skip (.exit 2))) (.seq (.block 3 (.seq (.reg l38r11) (.seq (.reg l38r12) (.cond (.tmp 55) (.seq (.reg l38r13) (.seq (.reg l38r14) (.reg l38r15))) .skip)))) (.reg l38r16))))))) (.reg l38r17)))))) (.seq (.reg l38r18) .ret)))))))) [.tmp 6,.tmp 7])
theorem l38_eq : lowFn Try.prog 38 = some l38 := by kernel_rfl
def l39r0 : List AOper :=
  [.mk (some 6) (.mv (.const (.int .i64 0))) none [],.mk (some 7) (.mv (.const (.int .i64 0))) none [0]]
def l39r1 : List AOper :=
  [.mk (some 15) (.mv (.tmp 0)) none [],.mk (some 16) (.mv (.tmp 1)) none [],.mk (some 17) (.mv (.tmp 2)) none [],.mk (some 18) (.call 62 [.tmp 15,.tmp 16,.tmp 17]) none [0,1,2],.mk (some 14) (.mv (.tmp 18)) none [3],.mk (some 19) (.extract (.tmp 14) 0) none [4],.mk (some 20) (.extract (.tmp 14) 1) none [4],.mk (some 8) (.alloc [.int .i64 0,.int .i64 0,.int .i64 0,.int .i64 0,.int .i64 0]) none [],.mk none (.store 5 (.tmp 8) (.tmp 19)) none [7,5,3,0,1,2,3,4,5,7],.mk (some 9) (.mv (.tmp 20)) none [6,8,0,1,2,3,4,5,6,7,8]]
def l39r2 : List AOper :=
  [.mk (some 21) (.mv (.tmp 9)) none [],.mk (some 22) (.un .not (.tmp 21)) none [0],.mk (some 23) (.mv (.tmp 22)) none [1],.mk (some 24) (.mv (.tmp 0)) (some (23,false)) [2],.mk (some 25) (.len (.tmp 24)) (some (23,false)) [3,2],.mk (some 26) (.bin .lss (.tmp 25) (.const (.int .i64 2))) (some (23,false)) [4,2],.mk (some 27) (.pick (.tmp 23) (.const (.bool true)) (.tmp 26)) none [2,5]]
def l39r3 : List AOper :=
  [.mk (some 6) (.mv (.const (.int .i64 (-1)))) none [],.mk (some 7) (.mv (.const (.int .i64 (-1)))) none [0,0]]
def l39r4 : List AOper :=
  [.mk (some 10) (.mv (.const (.int .i64 0))) none [],.mk (some 11) (.mv (.const (.int .i64 1))) none [0,0]]
def l39r5 : List AOper :=
  [.mk (some 28) (.mv (.tmp 0)) none [],.mk (some 29) (.len (.tmp 28)) none [0],.mk (some 30) (.mv (.const (.int .i64 0))) none []]
def l39r6 : List AOper :=
  [.mk (some 31) (.bin .lss (.tmp 30) (.tmp 29)) none []]
def l39r7 : List AOper :=
  [.mk (some 32) (.mv (.tmp 30)) none [],.mk (some 12) (.mv (.tmp 32)) none [0,0]]
def l39r8 : List AOper :=
  [.mk (some 33) (.mv (.tmp 12)) none [],.mk (some 34) (.bin .add (.tmp 33) (.const (.int .i64 1))) none [0],.mk (some 13) (.mv (.tmp 34)) none [1,0,1]]
def l39r9 : List AOper :=
  [.mk (some 35) (.mv (.tmp 13)) none [],.mk (some 36) (.mv (.tmp 0)) none [],.mk (some 37) (.len (.tmp 36)) none [1],.mk (some 38) (.bin .lss (.tmp 35) (.tmp 37)) none [0,2]]
def l39r10 : List AOper :=
  [.mk (some 41) (.mv (.tmp 0)) none [],.mk (some 42) (.mv (.tmp 1)) none [],.mk (some 43) (.mv (.tmp 2)) none [],.mk (some 44) (.mv (.tmp 12)) none [],.mk (some 45) (.mv (.tmp 13)) none [],.mk (some 46) (.call 37 [.tmp 41,.tmp 42,.tmp 43,.tmp 44,.tmp 45]) none [0,1,2,3,4],.mk (some 47) (.mv (.tmp 0)) none [],.mk (some 48) (.mv (.tmp 1)) none [],.mk (some 49) (.mv (.tmp 2)) none [],.mk (some 50) (.mv (.tmp 10)) none [],.mk (some 51) (.mv (.tmp 11)) none [],.mk (some 52) (.call 37 [.tmp 47,.tmp 48,.tmp 49,.tmp 50,.tmp 51]) none [6,7,8,9,10,5],.mk (some 53) (.bin .lss (.tmp 46) (.tmp 52)) none [5,11]]
def l39r11 : List AOper :=
  [.mk (some 54) (.mv (.tmp 12)) none [],.mk (some 55) (.mv (.tmp 13)) none [],.mk (some 10) (.mv (.tmp 54)) none [0,0],.mk (some 11) (.mv (.tmp 55)) none [1,2,0,1,2]]
def l39r12 : List AOper :=
  [.mk (some 39) (.mv (.tmp 13)) none [],.mk (some 40) (.bin .add (.tmp 39) (.const (.int .i64 1))) none [0],.mk (some 13) (.mv (.tmp 40)) none [1,0,1]]
def l39r13 : List AOper :=
  [.mk (some 56) (.bin .add (.tmp 30) (.const (.int .i64 1))) none [],.mk (some 30) (.mv (.tmp 56)) none [0]]
def l39r14 : List AOper :=
  [.mk (some 57) (.mv (.tmp 10)) none [],.mk (some 58) (.mv (.tmp 11)) none [],.mk (some 6) (.mv (.tmp 57)) none [0,0],.mk (some 7) (.mv (.tmp 58)) none [1,2,0,1,2]]
def l39 : AFn :=
  (AFn.mk 59 3 (.seq (.reg l39r0) (.seq (.seq (.reg l39r1) (.seq (.reg l39r2) (.cond (.tmp 27) (.seq (.reg l39r3) .ret) .skip))) (.seq (.reg l39r4) (.seq (.seq (.reg l39r5) (.block 0 (.loop (.seq (.reg l39r6) (.seq (.cond (.tmp 31) .skip (.exit 0)) (.seq (.block 1 (.seq (.reg l39r7) (.seq (.reg l39r8) (.block 2 (.loop (.seq (.seq (.reg l39r9) (.cond (.tmp 38) .skip (.exit 2))) (.seq (.block 3 (.seq (.reg l39r10) (.cond (.tmp 53) (.reg l39r11) .skip))) (.reg l39r12)))))))) (.reg l39r13))))))) (.seq (.reg l39r14) .ret))))) [.tmp 6,.tmp 7])
theorem l39_eq : lowFn Try.prog 39 = some l39 := by kernel_rfl
def l48r0 : List AOper :=
  [.mk (some 4) (.mv (.const (.int .i64 0))) none []]
def l48r1 : List AOper :=
  [.mk (some 5) (.mv (.tmp 1)) none [],.mk (some 6) (.mv (.tmp 0)) none [],.mk (some 7) (.len (.tmp 6)) none [1],.mk (some 8) (.bin .sub (.tmp 5) (.tmp 7)) none [0,2],.mk (some 1) (.mv (.tmp 8)) none [3,0,1,2,3]]
def l48r2 : List AOper :=
  [.mk (some 9) (.mv (.tmp 1)) none [],.mk (some 10) (.bin .lss (.tmp 9) (.const (.int .i64 0))) none [0]]
def l48r3 : List AOper :=
  [.mk (some 4) (.mv (.const (.int .i64 (-1)))) none []]
def l48r4 : List AOper :=
  [.mk (some 11) (.mv (.tmp 1)) none [],.mk (some 4) (.mv (.tmp 11)) none [0,0]]
def l48 : AFn :=
  (AFn.mk 12 2 (.seq (.reg l48r0) (.seq (.reg l48r1) (.seq (.seq (.reg l48r2) (.cond (.tmp 10) (.seq (.reg l48r3) .ret) .skip)) (.seq (.reg l48r4) .ret)))) [.tmp 4])
theorem l48_eq : lowFn Try.prog 48 = some l48 := by kernel_rfl
def l49r0 : List AOper :=
  [.mk (some 1) (.box (.tmp 0)) none [],.mk (some 2) (.mv (.const (.bool false))) none []]
def l49r1a : List AOper :=
  [.mk (some 3) (.fld 0 (.tmp 1)) none [],.mk (some 4) (.load false 1 (.tmp 3)) none [0],.mk (some 5) (.call 82 [.tmp 4]) none [1],.mk (some 6) (.mv (.tmp 5)) none [2,2],.mk (some 7) (.fld 1 (.tmp 1)) (some (6,true)) [3],.mk (some 8) (.load false 1 (.tmp 7)) (some (6,true)) [4,3],.mk (some 9) (.len (.tmp 8)) (some (6,true)) [5,3],.mk (some 10) (.fld 0 (.tmp 1)) (some (6,true)) [3],.mk (some 11) (.load false 1 (.tmp 10)) (some (6,true)) [7,3],.mk (some 12) (.call 83 [.tmp 11]) (some (6,true)) [8,3,3]]
def l49r1b : List AOper :=
  [.mk (some 13) (.bin .eql (.tmp 9) (.tmp 12)) (some (6,true)) [6,9,3],.mk (some 14) (.pick (.tmp 6) (.tmp 13) (.const (.bool false))) none [3,10],.mk (some 15) (.mv (.tmp 14)) none [11,9],.mk (some 16) (.fld 1 (.tmp 1)) (some (15,true)) [12],.mk (some 17) (.load false 1 (.tmp 16)) (some (15,true)) [13,12],.mk (some 18) (.call 64 [.tmp 17,.const (.int .i64 (-1000000)),.const (.int .i64 1000000)]) (some (15,true)) [14,12,12],.mk (some 19) (.pick (.tmp 15) (.tmp 18) (.const (.bool false))) none [12,15],.mk (some 2) (.mv (.tmp 19)) none [16,15,0,1,2,3,4,5,6,7,8,9,10,11,12,13,14,15,16]]
def l49r1 : List AOper := l49r1a ++ l49r1b
def l49 : AFn :=
  (AFn.mk 20 1 (.seq (.reg l49r0) (.seq (.draw l49r1) .ret)) [.tmp 2])
theorem l49_eq : lowFn Try.prog 49 = some l49 := by kernel_rfl
def l50r0 : List AOper :=
  [.mk (some 2) (.mv (.const (.bool false))) none []]
def l50r1 : List AOper :=
  [.mk (some 5) (.mv (.tmp 0)) none [],.mk (some 6) (.len (.tmp 5)) none [0],.mk (some 7) (.bin .gtr (.tmp 6) (.const (.int .i64 4))) none [1]]
def l50r2 : List AOper :=
  [.mk (some 2) (.mv (.const (.bool false))) none []]
def l50r3 : List AOper :=
  [.mk (some 8) (.mv (.tmp 0)) none [],.mk (some 9) (.len (.tmp 8)) none [0],.mk (some 10) (.mv (.const (.int .i64 0))) none []]
def l50r4 : List AOper :=
  [.mk (some 11) (.bin .lss (.tmp 10) (.tmp 9)) none []]
def l50r5 : List AOper :=
  [.mk (some 12) (.idxA 1 (.tmp 8) (.tmp 10)) none [],.mk (some 13) (.load false 1 (.tmp 12)) none [0],.mk (some 4) (.mv (.tmp 13)) none [1,0,1]]
def l50r6 : List AOper :=
  [.mk (some 14) (.mv (.tmp 4)) none [],.mk (some 15) (.call 80 [.tmp 14,.const (.int .i64 60)]) none [0],.mk (some 16) (.un .not (.tmp 15)) none [1]]
def l50r7 : List AOper :=
  [.mk (some 2) (.mv (.const (.bool false))) none []]
def l50r8 : List AOper :=
  [.mk (some 17) (.bin .add (.tmp 10) (.const (.int .i64 1))) none [],.mk (some 10) (.mv (.tmp 17)) none [0]]
def l50r9 : List AOper :=
  [.mk (some 18) (.mv (.tmp 0)) none [],.mk (some 19) (.call 51 [.tmp 18]) none [0],.mk (some 20) (.bin .leq (.tmp 19) (.const (.int .i64 60))) none [1],.mk (some 2) (.mv (.tmp 20)) none [2,1,0,1,2]]
def l50 : AFn :=
  (AFn.mk 21 1 (.seq (.reg l50r0) (.seq (.seq (.reg l50r1) (.cond (.tmp 7) (.seq (.reg l50r2) .ret) .skip)) (.seq (.seq (.reg l50r3) (.block 0 (.loop (.seq (.reg l50r4) (.seq (.cond (.tmp 11) .skip (.exit 0)) (.seq (.block 1 (.seq (.reg l50r5) (.seq (.reg l50r6) (.cond (.tmp 16) (.seq (.reg l50r7) .ret) .skip)))) (.reg l50r8))))))) (.seq (.reg l50r9) .ret)))) [.tmp 2])
theorem l50_eq : lowFn Try.prog 50 = some l50 := by kernel_rfl
def l51r0 : List AOper :=
  [.mk (some 2) (.mv (.const (.int .i64 0))) none []]
def l51r1 : List AOper :=
  [.mk (some 3) (.mv (.const (.int .i64 1))) none []]
def l51r2 : List AOper :=
  [.mk (some 6) (.mv (.tmp 0)) none [],.mk (some 7) (.len (.tmp 6)) none [0],.mk (some 8) (.mv (.const (.int .i64 0))) none []]
def l51r3 : List AOper :=
  [.mk (some 9) (.bin .lss (.tmp 8) (.tmp 7)) none []]
def l51r4 : List AOper :=
  [.mk (some 10) (.idxA 1 (.tmp 6) (.tmp 8)) none [],.mk (some 11) (.load false 1 (.tmp 10)) none [0],.mk (some 5) (.mv (.tmp 11)) none [1,0,1]]
def l51r5 : List AOper :=
  [.mk (some 12) (.mv (.tmp 3)) none [],.mk (some 13) (.mv (.tmp 5)) none [],.mk (some 14) (.bin .mul (.tmp 12) (.tmp 13)) none [0,1],.mk (some 3) (.mv (.tmp 14)) none [2,0,1,2]]
def l51r6 : List AOper :=
  [.mk (some 15) (.bin .add (.tmp 8) (.const (.int .i64 1))) none [],.mk (some 8) (.mv (.tmp 15)) none [0]]
def l51r7 : List AOper :=
  [.mk (some 16) (.mv (.tmp 3)) none [],.mk (some 2) (.mv (.tmp 16)) none [0,0]]
def l51 : AFn :=
  (AFn.mk 17 1 (.seq (.reg l51r0) (.seq (.reg l51r1) (.seq (.seq (.reg l51r2) (.block 0 (.loop (.seq (.reg l51r3) (.seq (.cond (.tmp 9) .skip (.exit 0)) (.seq (.block 1 (.seq (.reg l51r4) (.reg l51r5))) (.reg l51r6))))))) (.seq (.reg l51r7) .ret)))) [.tmp 2])
theorem l51_eq : lowFn Try.prog 51 = some l51 := by kernel_rfl
def l52r0 : List AOper :=
  [.mk (some 4) (.mv (.const (.bool false))) none []]
def l52r1 : List AOper :=
  [.mk (some 5) (.mv (.tmp 1)) none [],.mk (some 6) (.un .neg (.tmp 5)) none [0],.mk (some 7) (.mv (.tmp 0)) none [],.mk (some 8) (.bin .leq (.tmp 6) (.tmp 7)) none [1,2],.mk (some 9) (.mv (.tmp 8)) none [3],.mk (some 10) (.mv (.tmp 0)) (some (9,true)) [4],.mk (some 11) (.mv (.tmp 1)) (some (9,true)) [4],.mk (some 12) (.bin .leq (.tmp 10) (.tmp 11)) (some (9,true)) [5,6,4],.mk (some 13) (.pick (.tmp 9) (.tmp 12) (.const (.bool false))) none [4,7],.mk (some 4) (.mv (.tmp 13)) none [8,4,0,1,2,3,4,5,6,7,8]]
def l52 : AFn :=
  (AFn.mk 14 2 (.seq (.reg l52r0) (.seq (.reg l52r1) .ret)) [.tmp 4])
theorem l52_eq : lowFn Try.prog 52 = some l52 := by kernel_rfl
def l60r0 : List AOper :=
  [.mk (some 4) (.mv (.const (.slice none 0 0))) none [],.mk (some 5) (.mv (.const (.bool false))) none [0]]
def l60r1 : List AOper :=
  [.mk (some 6) (.mv (.tmp 0)) none [],.mk (some 7) (.mv (.tmp 1)) none [],.mk (some 8) (.call 94 [.tmp 6,.tmp 7]) none [0,1],.mk (some 9) (.un .not (.tmp 8)) none [2]]
def l60r2 : List AOper :=
  [.mk (some 4) (.mv (.const (.slice none 0 0))) none [],.mk (some 5) (.mv (.const (.bool false))) none [0,0]]
def l60r3 : List AOper :=
  [.mk (some 10) (.mv (.tmp 0)) none [],.mk (some 11) (.mv (.tmp 1)) none [],.mk (some 12) (.call 95 [.tmp 10,.tmp 11]) none [0,1],.mk (some 13) (.extract (.tmp 12) 0) none [2],.mk (some 14) (.extract (.tmp 12) 1) none [2],.mk (some 4) (.mv (.tmp 13)) none [3,2,0,1,2,3,4],.mk (some 5) (.mv (.tmp 14)) none [4,5,0,1,2,3,4,5]]
def l60 : AFn :=
  (AFn.mk 15 2 (.seq (.reg l60r0) (.seq (.seq (.reg l60r1) (.cond (.tmp 9) (.seq (.reg l60r2) .ret) .skip)) (.seq (.reg l60r3) .ret))) [.tmp 4,.tmp 5])
theorem l60_eq : lowFn Try.prog 60 = some l60 := by kernel_rfl
def l61r0 : List AOper :=
  [.mk (some 2) (.mv (.const (.slice none 0 0))) none [],.mk (some 3) (.mv (.const (.int .i64 0))) none [0]]
def l61r1 : List AOper :=
  [.mk (some 8) (.bslice 1 [.int .i64 0] [] 0) none [],.mk (some 4) (.mv (.tmp 8)) none [0,0]]
def l61r2 : List AOper :=
  [.mk (some 5) (.mv (.const (.int .i64 1))) none []]
def l61r3 : List AOper :=
  [.mk (some 6) (.mv (.const (.int .i64 0))) none []]
def l61r4 : List AOper :=
  [.mk (some 9) (.mv (.tmp 6)) none [],.mk (some 10) (.mv (.tmp 0)) none [],.mk (some 11) (.len (.tmp 10)) none [1],.mk (some 12) (.bin .lss (.tmp 9) (.tmp 11)) none [0,2]]
def l61r5 : List AOper :=
  [.mk (some 15) (.mv (.tmp 0)) none [],.mk (some 16) (.mv (.tmp 6)) none [],.mk (some 17) (.idxA 1 (.tmp 15) (.tmp 16)) none [0,1],.mk (some 18) (.load false 1 (.tmp 17)) none [2],.mk (some 7) (.mv (.tmp 18)) none [3,0,1,2,3]]
def l61r6 : List AOper :=
  [.mk (some 19) (.mv (.tmp 7)) none [],.mk (some 20) (.bin .lss (.tmp 19) (.const (.int .i64 0))) none [0]]
def l61r7 : List AOper :=
  [.mk (some 7) (.mv (.const (.int .i64 1))) none []]
def l61r8 : List AOper :=
  [.mk (some 21) (.mv (.tmp 4)) none [],.mk (some 22) (.mv (.tmp 7)) none [],.mk (some 23) (.bslice 1 [.int .i64 0] [(0,.tmp 22)] 1) none [1],.mk (some 24) (.append 1 (.tmp 21) (.tmp 23)) none [0,2],.mk (some 4) (.mv (.tmp 24)) none [3,3,0,1,2,3]]
def l61r9 : List AOper :=
  [.mk (some 25) (.mv (.tmp 5)) none [],.mk (some 26) (.mv (.tmp 7)) none [],.mk (some 27) (.bin .mul (.tmp 25) (.tmp 26)) none [0,1],.mk (some 5) (.mv (.tmp 27)) none [2,0,1,2]]
def l61r10 : List AOper :=
  [.mk (some 13) (.mv (.tmp 6)) none [],.mk (some 14) (.bin .add (.tmp 13) (.const (.int .i64 1))) none [0],.mk (some 6) (.mv (.tmp 14)) none [1,0,1]]
def l61r11 : List AOper :=
  [.mk (some 28) (.mv (.tmp 4)) none [],.mk (some 29) (.mv (.tmp 5)) none [],.mk (some 2) (.mv (.tmp 28)) none [0,0],.mk (some 3) (.mv (.tmp 29)) none [1,2,0,1,2]]
def l61 : AFn :=
  (AFn.mk 30 1 (.seq (.reg l61r0) (.seq (.reg l61r1) (.seq (.reg l61r2) (.seq (.seq (.reg l61r3) (.block 0 (.loop (.seq (.seq (.reg l61r4) (.cond (.tmp 12) .skip (.exit 0))) (.seq (.block 1 (.seq (.reg l61r5) (.seq (.seq (.reg l61r6) (.cond (.tmp 20) (.reg l61r7) .skip)) (.seq (.reg l61r8) (.reg l61r9))))) (.reg l61r10)))))) (.seq (.reg l61r11) .ret))))) [.tmp 2,.tmp 3])
theorem l61_eq : lowFn Try.prog 61 = some l61 := by kernel_rfl
def l62r0 : List AOper :=
  [.mk (some 6) (.alloc [.int .i64 0,.int .i64 0,.int .i64 0,.int .i64 0,.int .i64 0]) none [],.mk (some 7) (.mv (.const (.bool false))) none []]
def l62r1 : List AOper :=
  [.mk (some 8) (.mv (.tmp 0)) none [],.mk (some 9) (.len (.tmp 8)) none [0],.mk (some 10) (.bin .lss (.tmp 9) (.const (.int .i64 1))) none [1],.mk (some 11) (.mv (.tmp 10)) none [2],.mk (some 12) (.mv (.tmp 0)) (some (11,false)) [3],.mk (some 13) (.len (.tmp 12)) (some (11,false)) [4,3],.mk (some 14) (.bin .gtr (.tmp 13) (.const (.int .i64 3))) (some (11,false)) [5,3],.mk (some 15) (.pick (.tmp 11) (.const (.bool true)) (.tmp 14)) none [3,6],.mk (some 16) (.mv (.tmp 15)) none [7,3],.mk (some 17) (.mv (.tmp 1)) (some (16,false)) [8],.mk (some 18) (.len (.tmp 17)) (some (16,false)) [9,8],.mk (some 19) (.mv (.tmp 0)) (some (16,false)) [8],.mk (some 20) (.len (.tmp 19)) (some (16,false)) [11,8],.mk (some 21) (.bin .neq (.tmp 18) (.tmp 20)) (some (16,false)) [10,12,8],.mk (some 22) (.pick (.tmp 16) (.const (.bool true)) (.tmp 21)) none [8,13],.mk (some 23) (.mv (.tmp 22)) none [14,8],.mk (some 24) (.mv (.tmp 2)) (some (23,false)) [15],.mk (some 25) (.call 96 [.tmp 24]) (some (23,false)) [16,15,15],.mk (some 26) (.un .not (.tmp 25)) (some (23,false)) [17,15],.mk (some 27) (.pick (.tmp 23) (.const (.bool true)) (.tmp 26)) none [15,18]]
def l62r2 : List AOper :=
  [.mk (some 28) (.call 97 []) none [],.mk none (.store 5 (.tmp 6) (.tmp 28)) none [0,0,0],.mk (some 7) (.mv (.const (.bool false))) none [1,0,1]]
def l62r3 : List AOper :=
  [.mk (some 29) (.mv (.tmp 0)) none [],.mk (some 30) (.mv (.tmp 1)) none [],.mk (some 31) (.call 98 [.tmp 29,.tmp 30]) none [0,1],.mk (some 32) (.extract (.tmp 31) 0) none [2],.mk (some 33) (.extract (.tmp 31) 1) none [2],.mk none (.store 5 (.tmp 6) (.tmp 32)) none [3,2,0,1,2,3,4],.mk (some 7) (.mv (.tmp 33)) none [4,5,0,1,2,3,4,5]]
def l62 : AFn :=
  (AFn.mk 34 3 (.seq (.reg l62r0) (.seq (.seq (.reg l62r1) (.cond (.tmp 27) (.seq (.reg l62r2) .ret) .skip)) (.seq (.reg l62r3) .ret))) [.cell 6 true 5,.tmp 7])
theorem l62_eq : lowFn Try.prog 62 = some l62 := by kernel_rfl
def l63r0 : List AOper :=
  [.mk (some 2) (.box (.tmp 0)) none [],.mk (some 4) (.mv (.const (.int .i64 0))) none []]
def l63r1a : List AOper :=
  [.mk (some 5) (.load true 5 (.tmp 2)) none [],.mk (some 6) (.mv (.tmp 1)) none [],.mk (some 7) (.call 100 [.tmp 6]) none [1]]
def l63r1b : List AOper :=
  [.mk (some 8) (.call 99 [.tmp 5,.tmp 7]) none [0,2,2],.mk (some 9) (.call 51 [.tmp 8]) none [3,3],.mk (some 4) (.mv (.tmp 9)) none [4,4,0,1,2,3,4]]
def l63r1 : List AOper := l63r1a ++ l63r1b
def l63 : AFn :=
  (AFn.mk 10 2 (.seq (.reg l63r0) (.seq (.draw l63r1) .ret)) [.tmp 4])
theorem l63_eq : lowFn Try.prog 63 = some l63 := by kernel_rfl
def l64r0 : List AOper :=
  [.mk (some 6) (.mv (.const (.bool false))) none []]
def l64r1 : List AOper :=
  [.mk (some 7) (.mv (.const (.int .i64 0))) none []]
def l64r2 : List AOper :=
  [.mk (some 8) (.mv (.tmp 7)) none [],.mk (some 9) (.mv (.tmp 0)) none [],.mk (some 10) (.len (.tmp 9)) none [1],.mk (some 11) (.bin .lss (.tmp 8) (.tmp 10)) none [0,2]]
def l64r3 : List AOper :=
  [.mk (some 14) (.mv (.tmp 0)) none [],.mk (some 15) (.mv (.tmp 7)) none [],.mk (some 16) (.idxA 1 (.tmp 14) (.tmp 15)) none [0,1],.mk (some 17) (.load false 1 (.tmp 16)) none [2],.mk (some 18) (.mv (.tmp 1)) none [],.mk (some 19) (.mv (.tmp 2)) none [],.mk (some 20) (.call 65 [.tmp 17,.tmp 18,.tmp 19]) none [3,4,5],.mk (some 21) (.un .not (.tmp 20)) none [6]]
def l64r4 : List AOper :=
  [.mk (some 6) (.mv (.const (.bool false))) none []]
def l64r5 : List AOper :=
  [.mk (some 12) (.mv (.tmp 7)) none [],.mk (some 13) (.bin .add (.tmp 12) (.const (.int .i64 1))) none [0],.mk (some 7) (.mv (.tmp 13)) none [1,0,1]]
def l64r6 : List AOper :=
  [.mk (some 6) (.mv (.const (.bool true))) none []]
def l64 : AFn :=
  (AFn.mk 22 3 (.seq (.reg l64r0) (.seq (.seq (.reg l64r1) (.block 0 (.loop (.seq (.seq (.reg l64r2) (.cond (.tmp 11) .skip (.exit 0))) (.seq (.block 1 (.seq (.reg l64r3) (.cond (.tmp 21) (.seq (.reg l64r4) .ret) .skip))) (.reg l64r5)))))) (.seq (.reg l64r6) .ret))) [.tmp 6])
theorem l64_eq : lowFn Try.prog 64 = some l64 := by kernel_rfl
def l65r0 : List AOper :=
  [.mk (some 6) (.mv (.const (.bool false))) none []]
def l65r1 : List AOper :=
  [.mk (some 7) (.mv (.tmp 1)) none [],.mk (some 8) (.mv (.tmp 0)) none [],.mk (some 9) (.bin .leq (.tmp 7) (.tmp 8)) none [0,1],.mk (some 10) (.mv (.tmp 9)) none [2],.mk (some 11) (.mv (.tmp 0)) (some (10,true)) [3],.mk (some 12) (.mv (.tmp 2)) (some (10,true)) [3],.mk (some 13) (.bin .leq (.tmp 11) (.tmp 12)) (some (10,true)) [4,5,3],.mk (some 14) (.pick (.tmp 10) (.tmp 13) (.const (.bool false))) none [3,6],.mk (some 6) (.mv (.tmp 14)) none [7,3,0,1,2,3,4,5,6,7]]
def l65 : AFn :=
  (AFn.mk 15 3 (.seq (.reg l65r0) (.seq (.reg l65r1) .ret)) [.tmp 6])
theorem l65_eq : lowFn Try.prog 65 = some l65 := by kernel_rfl
def l66r0 : List AOper :=
  [.mk (some 10) (.mv (.const (.int .i64 0))) none []]
def l66r1 : List AOper :=
  [.mk (some 22) (.bslice 1 [.int .i64 0] [] 0) none [],.mk (some 11) (.mv (.tmp 22)) none [0,0]]
def l66r2 : List AOper :=
  [.mk (some 23) (.bslice 1 [.int .i64 0] [] 0) none [],.mk (some 12) (.mv (.tmp 23)) none [0,0]]
def l66r3 : List AOper :=
  [.mk (some 24) (.mv (.tmp 1)) none [],.mk (some 25) (.mv (.tmp 2)) none [],.mk (some 26) (.mv (.tmp 3)) none [],.mk (some 27) (.mv (.tmp 4)) none [],.mk (some 28) (.call 101 [.tmp 24,.tmp 25,.tmp 26,.tmp 27]) none [0,1,2,3],.mk (some 13) (.mv (.tmp 28)) none [4,4,0,1,2,3,4]]
def l66r4 : List AOper :=
  [.mk (some 14) (.mv (.const (.int .i64 0))) none []]
def l66r5 : List AOper :=
  [.mk (some 29) (.mv (.tmp 14)) none [],.mk (some 30) (.bin .leq (.tmp 29) (.const (.int .i64 4))) none [0]]
def l66r6 : List AOper :=
  [.mk (some 15) (.mv (.const (.int .i64 (-1)))) none []]
def l66r7 : List AOper :=
  [.mk (some 16) (.mv (.const (.int .i64 (-1)))) none []]
def l66r8 : List AOper :=
  [.mk (some 33) (.mv (.tmp 1)) none [],.mk (some 34) (.mv (.tmp 3)) none [],.mk (some 35) (.idxA 1 (.tmp 33) (.tmp 34)) none [0,1],.mk (some 36) (.load false 1 (.tmp 35)) none [2],.mk (some 37) (.mv (.tmp 14)) none [],.mk (some 38) (.call 102 [.tmp 36,.tmp 37]) none [3,4],.mk (some 39) (.bin .geq (.tmp 38) (.const (.int .i64 0))) none [5],.mk (some 40) (.mv (.tmp 39)) none [6,5],.mk (some 41) (.mv (.tmp 1)) (some (40,false)) [7],.mk (some 42) (.mv (.tmp 4)) (some (40,false)) [7],.mk (some 43) (.idxA 1 (.tmp 41) (.tmp 42)) (some (40,false)) [8,9,7],.mk (some 44) (.load false 1 (.tmp 43)) (some (40,false)) [10,7],.mk (some 45) (.mv (.tmp 14)) (some (40,false)) [7],.mk (some 46) (.call 102 [.tmp 44,.tmp 45]) (some (40,false)) [11,12,7,7],.mk (some 47) (.bin .geq (.tmp 46) (.const (.int .i64 0))) (some (40,false)) [13,7],.mk (some 48) (.pick (.tmp 40) (.const (.bool true)) (.tmp 47)) none [7,14]]
def l66r9 : List AOper :=
  [.mk (some 49) (.mv (.tmp 0)) none [],.mk (some 50) (.mv (.tmp 14)) none [],.mk (some 51) (.idxA 1 (.tmp 49) (.tmp 50)) none [0,1],.mk (some 52) (.load false 1 (.tmp 51)) none [2],.mk (some 15) (.mv (.tmp 52)) none [3,0,1,2,3]]
def l66r10 : List AOper :=
  [.mk (some 17) (.mv (.const (.int .i64 0))) none []]
def l66r11 : List AOper :=
  [.mk (some 53) (.mv (.tmp 17)) none [],.mk (some 54) (.mv (.tmp 1)) none [],.mk (some 55) (.len (.tmp 54)) none [1],.mk (some 56) (.bin .lss (.tmp 53) (.tmp 55)) none [0,2]]
def l66r12 : List AOper :=
  [.mk (some 59) (.mv (.tmp 17)) none [],.mk (some 60) (.mv (.tmp 3)) none [],.mk (some 61) (.bin .neq (.tmp 59) (.tmp 60)) none [0,1],.mk (some 62) (.mv (.tmp 61)) none [2],.mk (some 63) (.mv (.tmp 17)) (some (62,true)) [3],.mk (some 64) (.mv (.tmp 4)) (some (62,true)) [3],.mk (some 65) (.bin .neq (.tmp 63) (.tmp 64)) (some (62,true)) [4,5,3],.mk (some 66) (.pick (.tmp 62) (.tmp 65) (.const (.bool false))) none [3,6],.mk (some 67) (.mv (.tmp 66)) none [7,3],.mk (some 68) (.mv (.tmp 1)) (some (67,true)) [8],.mk (some 69) (.mv (.tmp 17)) (some (67,true)) [8],.mk (some 70) (.idxA 1 (.tmp 68) (.tmp 69)) (some (67,true)) [9,10,8],.mk (some 71) (.load false 1 (.tmp 70)) (some (67,true)) [11,8],.mk (some 72) (.mv (.tmp 14)) (some (67,true)) [8],.mk (some 73) (.call 102 [.tmp 71,.tmp 72]) (some (67,true)) [12,13,8,8],.mk (some 74) (.bin .geq (.tmp 73) (.const (.int .i64 0))) (some (67,true)) [14,8],.mk (some 75) (.pick (.tmp 67) (.tmp 74) (.const (.bool false))) none [8,15],.mk (some 76) (.mv (.tmp 75)) none [16,14],.mk (some 77) (.mv (.tmp 13)) (some (76,false)) [17],.mk (some 78) (.mv (.tmp 14)) (some (76,false)) [17],.mk (some 79) (.call 102 [.tmp 77,.tmp 78]) (some (76,false)) [18,19,17,17],.mk (some 80) (.bin .geq (.tmp 79) (.const (.int .i64 0))) (some (76,false)) [20,17],.mk (some 81) (.pick (.tmp 76) (.const (.bool true)) (.tmp 80)) none [17,21]]
def l66r13 : List AOper :=
  [.mk (some 82) (.mv (.tmp 0)) none [],.mk (some 83) (.mv (.tmp 14)) none [],.mk (some 84) (.idxA 1 (.tmp 82) (.tmp 83)) none [0,1],.mk (some 85) (.load false 1 (.tmp 84)) none [2],.mk (some 16) (.mv (.tmp 85)) none [3,0,1,2,3]]
def l66r14 : List AOper :=
  [.mk (some 57) (.mv (.tmp 17)) none [],.mk (some 58) (.bin .add (.tmp 57) (.const (.int .i64 1))) none [0],.mk (some 17) (.mv (.tmp 58)) none [1,0,1]]
def l66r15 : List AOper :=
  [.mk (some 86) (.mv (.tmp 11)) none [],.mk (some 87) (.mv (.tmp 15)) none [],.mk (some 88) (.bslice 1 [.int .i64 0] [(0,.tmp 87)] 1) none [1],.mk (some 89) (.append 1 (.tmp 86) (.tmp 88)) none [0,2],.mk (some 11) (.mv (.tmp 89)) none [3,3,0,1,2,3]]
def l66r16 : List AOper :=
  [.mk (some 90) (.mv (.tmp 12)) none [],.mk (some 91) (.mv (.tmp 16)) none [],.mk (some 92) (.bslice 1 [.int .i64 0] [(0,.tmp 91)] 1) none [1],.mk (some 93) (.append 1 (.tmp 90) (.tmp 92)) none [0,2],.mk (some 12) (.mv (.tmp 93)) none [3,3,0,1,2,3]]
def l66r17 : List AOper :=
  [.mk (some 31) (.mv (.tmp 14)) none [],.mk (some 32) (.bin .add (.tmp 31) (.const (.int .i64 1))) none [0],.mk (some 14) (.mv (.tmp 32)) none [1,0,1]]
def l66r18 : List AOper :=
  [.mk (some 95) (.mv (.tmp 11)) none [],.mk (some 96) (.call 61 [.tmp 95]) none [0],.mk (some 94) (.mv (.tmp 96)) none [1],.mk (some 97) (.extract (.tmp 94) 0) none [2],.mk (some 98) (.extract (.tmp 94) 1) none [2],.mk (some 18) (.mv (.tmp 97)) none [3,1,0,1,2,3],.mk (some 19) (.mv (.tmp 98)) none [4,5,0,1,2,3,4,5]]
def l66r19 : List AOper :=
  [.mk (some 100) (.mv (.tmp 12)) none [],.mk (some 101) (.call 61 [.tmp 100]) none [0],.mk (some 99) (.mv (.tmp 101)) none [1],.mk (some 102) (.extract (.tmp 99) 0) none [2],.mk (some 103) (.extract (.tmp 99) 1) none [2],.mk (some 20) (.mv (.tmp 102)) none [3,1,0,1,2,3],.mk (some 21) (.mv (.tmp 103)) none [4,5,0,1,2,3,4,5]]
def l66r20 : List AOper :=
  [.mk (some 104) (.mv (.tmp 19)) none [],.mk (some 105) (.mv (.tmp 21)) none [],.mk (some 106) (.bin .add (.tmp 104) (.tmp 105)) none [0,1],.mk (some 10) (.mv (.tmp 106)) none [2,0,1,2]]
def l66 : AFn :=
  (AFn.mk 107 5 (.seq (.reg l66r0) (.seq (.reg l66r1) (.seq (.reg l66r2) (.seq (.reg l66r3) (.seq (.seq (.reg l66r4) (.block 0 (.loop (.seq (.seq (.reg l66r5) (.cond (.tmp 30) .skip (.exit 0))) (.seq (.block 1 (.seq (.reg l66r6) (.seq (.reg l66r7) (.seq (.seq (.reg l66r8) (.cond (.tmp 48) (.reg l66r9) .skip)) (.seq (.seq (.reg l66r10) (.block 2 (.loop (.seq (.seq (.reg l66r11) (.cond (.tmp 56) .skip (.exit 2))) (.seq (.block 3 (.seq (.reg l66r12) (.cond (.tmp 81) (.reg l66r13) .skip))) (.reg l66r14)))))) (.seq (.reg l66r15) (.reg l66r16))))))) (.reg l66r17)))))) (.seq (.reg l66r18) (.seq (.reg l66r19) (.seq (.reg l66r20) .ret)))))))) [.tmp 10])
theorem l66_eq : lowFn Try.prog 66 = some l66 := by kernel_rfl
def l67r0 : List AOper :=
  [.mk (some 6) (.mv (.const (.bool false))) none []]
def l67r1 : List AOper :=
  [.mk (some 7) (.mv (.tmp 0)) none [],.mk (some 8) (.mv (.tmp 1)) none [],.mk (some 9) (.bin .neq (.tmp 7) (.tmp 8)) none [0,1],.mk (some 10) (.mv (.tmp 9)) none [2],.mk (some 11) (.mv (.tmp 0)) (some (10,true)) [3],.mk (some 12) (.mv (.tmp 2)) (some (10,true)) [3],.mk (some 13) (.bin .sub (.tmp 12) (.const (.int .i64 1))) (some (10,true)) [5,3],.mk (some 14) (.call 80 [.tmp 11,.tmp 13]) (some (10,true)) [4,6,3,3],.mk (some 15) (.pick (.tmp 10) (.tmp 14) (.const (.bool false))) none [3,7],.mk (some 16) (.mv (.tmp 15)) none [8,7],.mk (some 17) (.mv (.tmp 1)) (some (16,true)) [9],.mk (some 18) (.mv (.tmp 2)) (some (16,true)) [9],.mk (some 19) (.bin .sub (.tmp 18) (.const (.int .i64 1))) (some (16,true)) [11,9],.mk (some 20) (.call 80 [.tmp 17,.tmp 19]) (some (16,true)) [10,12,9,9],.mk (some 21) (.pick (.tmp 16) (.tmp 20) (.const (.bool false))) none [9,13],.mk (some 6) (.mv (.tmp 21)) none [14,13,0,1,2,3,4,5,6,7,8,9,10,11,12,13,14]]
def l67 : AFn :=
  (AFn.mk 22 3 (.seq (.reg l67r0) (.seq (.reg l67r1) .ret)) [.tmp 6])
theorem l67_eq : lowFn Try.prog 67 = some l67 := by kernel_rfl
def l68r0 : List AOper :=
  [.mk (some 6) (.mv (.const (.slice none 0 0))) none []]
def l68r1 : List AOper :=
  [.mk (some 7) (.mv (.const (.slice none 0 0))) none []]
def l68r2 : List AOper :=
  [.mk (some 10) (.mv (.tmp 0)) none [],.mk (some 11) (.len (.tmp 10)) none [0],.mk (some 12) (.mv (.const (.int .i64 0))) none []]
def l68r3 : List AOper :=
  [.mk (some 13) (.bin .lss (.tmp 12) (.tmp 11)) none []]
def l68r4 : List AOper :=
  [.mk (some 14) (.mv (.tmp 12)) none [],.mk (some 15) (.idxA 1 (.tmp 10) (.tmp 12)) none [],.mk (some 16) (.load false 1 (.tmp 15)) none [1],.mk (some 8) (.mv (.tmp 14)) none [0,0,1,2],.mk (some 9) (.mv (.tmp 16)) none [2,3,0,1,2,3]]
def l68r5 : List AOper :=
  [.mk (some 17) (.mv (.tmp 8)) none [],.mk (some 18) (.mv (.tmp 1)) none [],.mk (some 19) (.bin .neq (.tmp 17) (.tmp 18)) none [0,1],.mk (some 20) (.mv (.tmp 19)) none [2],.mk (some 21) (.mv (.tmp 8)) (some (20,true)) [3],.mk (some 22) (.mv (.tmp 2)) (some (20,true)) [3],.mk (some 23) (.bin .neq (.tmp 21) (.tmp 22)) (some (20,true)) [4,5,3],.mk (some 24) (.pick (.tmp 20) (.tmp 23) (.const (.bool false))) none [3,6]]
def l68r6 : List AOper :=
  [.mk (some 25) (.mv (.tmp 7)) none [],.mk (some 26) (.mv (.tmp 9)) none [],.mk (some 27) (.bslice 1 [.slice none 0 0] [(0,.tmp 26)] 1) none [1],.mk (some 28) (.append 1 (.tmp 25) (.tmp 27)) none [0,2],.mk (some 7) (.mv (.tmp 28)) none [3,3,0,1,2,3]]
def l68r7 : List AOper :=
  [.mk (some 29) (.bin .add (.tmp 12) (.const (.int .i64 1))) none [],.mk (some 12) (.mv (.tmp 29)) none [0]]
def l68r8 : List AOper :=
  [.mk (some 30) (.mv (.tmp 7)) none [],.mk (some 6) (.mv (.tmp 30)) none [0,0]]
def l68 : AFn :=
  (AFn.mk 31 3 (.seq (.reg l68r0) (.seq (.reg l68r1) (.seq (.seq (.reg l68r2) (.block 0 (.loop (.seq (.reg l68r3) (.seq (.cond (.tmp 13) .skip (.exit 0)) (.seq (.block 1 (.seq (.reg l68r4) (.seq (.reg l68r5) (.cond (.tmp 24) (.reg l68r6) .skip)))) (.reg l68r7))))))) (.seq (.reg l68r8) .ret)))) [.tmp 6])
theorem l68_eq : lowFn Try.prog 68 = some l68 := by kernel_rfl
def l69r0 : List AOper :=
  [.mk (some 8) (.mv (.const (.slice none 0 0))) none []]
def l69r1a : List AOper :=
  [.mk (some 11) (.mv (.tmp 0)) none [],.mk (some 12) (.mv (.tmp 2)) none [],.mk (some 13) (.idxA 1 (.tmp 11) (.tmp 12)) none [0,1],.mk (some 14) (.load false 1 (.tmp 13)) none [2],.mk (some 15) (.mv (.tmp 0)) none [],.mk (some 16) (.mv (.tmp 3)) none [],.mk (some 17) (.idxA 1 (.tmp 15) (.tmp 16)) none [4,5],.mk (some 18) (.load false 1 (.tmp 17)) none [6]]
def l69r1b : List AOper :=
  [.mk (some 19) (.bslice 1 [.slice none 0 0] [(0,.tmp 14),(1,.tmp 18)] 2) none [3,7],.mk (some 20) (.call 100 [.tmp 19]) none [8],.mk (some 9) (.mv (.tmp 20)) none [9,9,0,1,2,3,4,5,6,7,8,9]]
def l69r1 : List AOper := l69r1a ++ l69r1b
def l69r2 : List AOper :=
  [.mk (some 21) (.mv (.tmp 9)) none [],.mk (some 22) (.mv (.tmp 0)) none [],.mk (some 23) (.mv (.tmp 2)) none [],.mk (some 24) (.mv (.tmp 3)) none [],.mk (some 25) (.call 68 [.tmp 22,.tmp 23,.tmp 24]) none [1,2,3],.mk (some 26) (.mv (.tmp 1)) none [],.mk (some 27) (.bslice 1 [.slice none 0 0] [(0,.tmp 26)] 1) none [5],.mk (some 28) (.append 1 (.tmp 25) (.tmp 27)) none [4,6,4],.mk (some 29) (.call 103 [.tmp 28]) none [7,7],.mk (some 30) (.call 81 [.tmp 21,.tmp 29]) none [0,8,8],.mk (some 10) (.mv (.tmp 30)) none [9,9,0,1,2,3,4,5,6,7,8,9]]
def l69r3 : List AOper :=
  [.mk (some 31) (.mv (.tmp 9)) none [],.mk (some 32) (.mv (.tmp 10)) none [],.mk (some 33) (.call 81 [.tmp 31,.tmp 32]) none [0,1],.mk (some 8) (.mv (.tmp 33)) none [2,2,0,1,2]]
def l69 : AFn :=
  (AFn.mk 34 4 (.seq (.reg l69r0) (.seq (.draw l69r1) (.seq (.reg l69r2) (.seq (.reg l69r3) .ret)))) [.tmp 8])
theorem l69_eq : lowFn Try.prog 69 = some l69 := by kernel_rfl
def l80r0 : List AOper :=
  [.mk (some 4) (.mv (.const (.bool false))) none []]
def l80r1 : List AOper :=
  [.mk (some 5) (.mv (.tmp 0)) none [],.mk (some 6) (.bin .leq (.const (.int .i64 0)) (.tmp 5)) none [0],.mk (some 7) (.mv (.tmp 6)) none [1],.mk (some 8) (.mv (.tmp 0)) (some (7,true)) [2],.mk (some 9) (.mv (.tmp 1)) (some (7,true)) [2],.mk (some 10) (.bin .leq (.tmp 8) (.tmp 9)) (some (7,true)) [3,4,2],.mk (some 11) (.pick (.tmp 7) (.tmp 10) (.const (.bool false))) none [2,5],.mk (some 4) (.mv (.tmp 11)) none [6,2,0,1,2,3,4,5,6]]
def l80 : AFn :=
  (AFn.mk 12 2 (.seq (.reg l80r0) (.seq (.reg l80r1) .ret)) [.tmp 4])
theorem l80_eq : lowFn Try.prog 80 = some l80 := by kernel_rfl
def l81r0 : List AOper :=
  [.mk (some 4) (.mv (.const (.slice none 0 0))) none []]
def l81r1 : List AOper :=
  [.mk (some 5) (.mv (.const (.slice none 0 0))) none []]
def l81r2 : List AOper :=
  [.mk (some 8) (.mv (.tmp 0)) none [],.mk (some 9) (.len (.tmp 8)) none [0],.mk (some 10) (.mv (.const (.int .i64 0))) none []]
def l81r3 : List AOper :=
  [.mk (some 11) (.bin .lss (.tmp 10) (.tmp 9)) none []]
def l81r4 : List AOper :=
  [.mk (some 12) (.idxA 1 (.tmp 8) (.tmp 10)) none [],.mk (some 13) (.load false 1 (.tmp 12)) none [0],.mk (some 7) (.mv (.tmp 13)) none [1,0,1]]
def l81r5 : List AOper :=
  [.mk (some 14) (.mv (.tmp 1)) none [],.mk (some 15) (.mv (.tmp 7)) none [],.mk (some 16) (.call 107 [.tmp 14,.tmp 15]) none [0,1],.mk (some 17) (.un .not (.tmp 16)) none [2]]
def l81r6 : List AOper :=
  [.mk (some 18) (.mv (.tmp 5)) none [],.mk (some 19) (.mv (.tmp 7)) none [],.mk (some 20) (.bslice 1 [.int .i64 0] [(0,.tmp 19)] 1) none [1],.mk (some 21) (.append 1 (.tmp 18) (.tmp 20)) none [0,2],.mk (some 5) (.mv (.tmp 21)) none [3,3,0,1,2,3]]
def l81r7 : List AOper :=
  [.mk (some 22) (.bin .add (.tmp 10) (.const (.int .i64 1))) none [],.mk (some 10) (.mv (.tmp 22)) none [0]]
def l81r8 : List AOper :=
  [.mk (some 23) (.mv (.tmp 5)) none [],.mk (some 4) (.mv (.tmp 23)) none [0,0]]
def l81 : AFn :=
  (AFn.mk 24 2 (.seq (.reg l81r0) (.seq (.reg l81r1) (.seq (.seq (.reg l81r2) (.block 0 (.loop (.seq (.reg l81r3) (.seq (.cond (.tmp 11) .skip (.exit 0)) (.seq (.block 1 (.seq (.reg l81r4) (.seq (.reg l81r5) (.cond (.tmp 17) (.reg l81r6) .skip)))) (.reg l81r7))))))) (.seq (.reg l81r8) .ret)))) [.tmp 4])
theorem l81_eq : lowFn Try.prog 81 = some l81 := by kernel_rfl
def l82r0 : List AOper :=
  [.mk (some 2) (.mv (.const (.bool false))) none []]
def l82r1 : List AOper :=
  [.mk (some 3) (.mv (.tmp 0)) none [],.mk (some 4) (.len (.tmp 3)) none [0],.mk (some 5) (.bin .leq (.tmp 4) (.const (.int .i64 4))) none [1],.mk (some 6) (.mv (.tmp 5)) none [2],.mk (some 7) (.mv (.tmp 0)) (some (6,true)) [3],.mk (some 8) (.call 64 [.tmp 7,.const (.int .i64 0),.const (.int .i64 60)]) (some (6,true)) [4,3,3],.mk (some 9) (.pick (.tmp 6) (.tmp 8) (.const (.bool false))) none [3,5],.mk (some 10) (.mv (.tmp 9)) none [6,5],.mk (some 11) (.mv (.tmp 0)) (some (10,true)) [7],.mk (some 12) (.call 83 [.tmp 11]) (some (10,true)) [8,7,7],.mk (some 13) (.bin .leq (.tmp 12) (.const (.int .i64 60))) (some (10,true)) [9,7],.mk (some 14) (.pick (.tmp 10) (.tmp 13) (.const (.bool false))) none [7,10],.mk (some 2) (.mv (.tmp 14)) none [11,9,0,1,2,3,4,5,6,7,8,9,10,11]]
def l82 : AFn :=
  (AFn.mk 15 1 (.seq (.reg l82r0) (.seq (.reg l82r1) .ret)) [.tmp 2])
theorem l82_eq : lowFn Try.prog 82 = some l82 := by kernel_rfl
def l83r0 : List AOper :=
  [.mk (some 2) (.mv (.const (.int .i64 0))) none []]
def l83r1 : List AOper :=
  [.mk (some 3) (.mv (.const (.int .i64 1))) none []]
def l83r2 : List AOper :=
  [.mk (some 4) (.mv (.const (.int .i64 0))) none []]
def l83r3 : List AOper :=
  [.mk (some 5) (.mv (.tmp 4)) none [],.mk (some 6) (.mv (.tmp 0)) none [],.mk (some 7) (.len (.tmp 6)) none [1],.mk (some 8) (.bin .lss (.tmp 5) (.tmp 7)) none [0,2]]
def l83r4 : List AOper :=
  [.mk (some 11) (.mv (.tmp 3)) none [],.mk (some 12) (.mv (.tmp 0)) none [],.mk (some 13) (.mv (.tmp 4)) none [],.mk (some 14) (.idxA 1 (.tmp 12) (.tmp 13)) none [1,2],.mk (some 15) (.load false 1 (.tmp 14)) none [3],.mk (some 16) (.bin .mul (.tmp 11) (.tmp 15)) none [0,4],.mk (some 3) (.mv (.tmp 16)) none [5,0,1,2,3,4,5]]
def l83r5 : List AOper :=
  [.mk (some 9) (.mv (.tmp 4)) none [],.mk (some 10) (.bin .add (.tmp 9) (.const (.int .i64 1))) none [0],.mk (some 4) (.mv (.tmp 10)) none [1,0,1]]
def l83r6 : List AOper :=
  [.mk (some 17) (.mv (.tmp 3)) none [],.mk (some 2) (.mv (.tmp 17)) none [0,0]]
def l83 : AFn :=
  (AFn.mk 18 1 (.seq (.reg l83r0) (.seq (.reg l83r1) (.seq (.seq (.reg l83r2) (.block 0 (.loop (.seq (.seq (.reg l83r3) (.cond (.tmp 8) .skip (.exit 0))) (.seq (.block 1 (.reg l83r4)) (.reg l83r5)))))) (.seq (.reg l83r6) .ret)))) [.tmp 2])
theorem l83_eq : lowFn Try.prog 83 = some l83 := by kernel_rfl
def l94r0 : List AOper :=
  [.mk (some 4) (.mv (.const (.bool false))) none []]
def l94r1 : List AOper :=
  [.mk (some 5) (.mv (.const (.int .i64 0))) none []]
def l94r2 : List AOper :=
  [.mk (some 6) (.mv (.tmp 5)) none [],.mk (some 7) (.mv (.tmp 0)) none [],.mk (some 8) (.len (.tmp 7)) none [1],.mk (some 9) (.bin .lss (.tmp 6) (.tmp 8)) none [0,2]]
def l94r3 : List AOper :=
  [.mk (some 12) (.mv (.tmp 0)) none [],.mk (some 13) (.mv (.tmp 5)) none [],.mk (some 14) (.idxA 2 (.tmp 12) (.tmp 13)) none [0,1],.mk (some 15) (.load true 2 (.tmp 14)) none [2],.mk (some 16) (.call 49 [.tmp 15]) none [3],.mk (some 17) (.un .not (.tmp 16)) none [4]]
def l94r4 : List AOper :=
  [.mk (some 4) (.mv (.const (.bool false))) none []]
def l94r5 : List AOper :=
  [.mk (some 10) (.mv (.tmp 5)) none [],.mk (some 11) (.bin .add (.tmp 10) (.const (.int .i64 1))) none [0],.mk (some 5) (.mv (.tmp 11)) none [1,0,1]]
def l94r6 : List AOper :=
  [.mk (some 18) (.mv (.tmp 0)) none [],.mk (some 19) (.len (.tmp 18)) none [0],.mk (some 20) (.call 65 [.tmp 19,.const (.int .i64 1),.const (.int .i64 3)]) none [1],.mk (some 21) (.mv (.tmp 20)) none [2,2],.mk (some 22) (.mv (.tmp 1)) (some (21,true)) [3],.mk (some 23) (.len (.tmp 22)) (some (21,true)) [4,3],.mk (some 24) (.mv (.tmp 0)) (some (21,true)) [3],.mk (some 25) (.len (.tmp 24)) (some (21,true)) [6,3],.mk (some 26) (.bin .eql (.tmp 23) (.tmp 25)) (some (21,true)) [5,7,3],.mk (some 27) (.pick (.tmp 21) (.tmp 26) (.const (.bool false))) none [3,8],.mk (some 4) (.mv (.tmp 27)) none [9,3,0,1,2,3,4,5,6,7,8,9]]
def l94 : AFn :=
  (AFn.mk 28 2 (.seq (.reg l94r0) (.seq (.seq (.reg l94r1) (.block 0 (.loop (.seq (.seq (.reg l94r2) (.cond (.tmp 9) .skip (.exit 0))) (.seq (.block 1 (.seq (.reg l94r3) (.cond (.tmp 17) (.seq (.reg l94r4) .ret) .skip))) (.reg l94r5)))))) (.seq (.reg l94r6) .ret))) [.tmp 4])
theorem l94_eq : lowFn Try.prog 94 = some l94 := by kernel_rfl
def l95r0 : List AOper :=
  [.mk (some 4) (.mv (.const (.slice none 0 0))) none [],.mk (some 5) (.mv (.const (.bool false))) none [0]]
def l95r1 : List AOper :=
  [.mk (some 11) (.bslice 1 [.int .i64 0] [] 0) none [],.mk (some 6) (.mv (.tmp 11)) none [0,0]]
def l95r2 : List AOper :=
  [.mk (some 7) (.mv (.const (.int .i64 0))) none []]
def l95r3 : List AOper :=
  [.mk (some 12) (.mv (.tmp 7)) none [],.mk (some 13) (.bin .leq (.tmp 12) (.const (.int .i64 4))) none [0]]
def l95r4 : List AOper :=
  [.mk (some 16) (.mv (.tmp 6)) none [],.mk (some 17) (.bslice 1 [.int .i64 0] [(0,.const (.int .i64 (-1)))] 1) none [],.mk (some 18) (.append 1 (.tmp 16) (.tmp 17)) none [0,1],.mk (some 6) (.mv (.tmp 18)) none [2,2,0,1,2]]
def l95r5 : List AOper :=
  [.mk (some 14) (.mv (.tmp 7)) none [],.mk (some 15) (.bin .add (.tmp 14) (.const (.int .i64 1))) none [0],.mk (some 7) (.mv (.tmp 15)) none [1,0,1]]
def l95r6 : List AOper :=
  [.mk (some 8) (.mv (.const (.int .i64 0))) none []]
def l95r7 : List AOper :=
  [.mk (some 19) (.mv (.tmp 8)) none [],.mk (some 20) (.mv (.tmp 0)) none [],.mk (some 21) (.len (.tmp 20)) none [1],.mk (some 22) (.bin .lss (.tmp 19) (.tmp 21)) none [0,2]]
def l95r8a : List AOper :=
  [.mk (some 25) (.mv (.tmp 1)) none [],.mk (some 26) (.mv (.tmp 8)) none [],.mk (some 27) (.idxA 1 (.tmp 25) (.tmp 26)) none [0,1],.mk (some 28) (.load false 1 (.tmp 27)) none [2],.mk (some 29) (.len (.tmp 28)) none [3],.mk (some 30) (.mv (.tmp 0)) none [],.mk (some 31) (.mv (.tmp 8)) none [],.mk (some 32) (.idxA 2 (.tmp 30) (.tmp 31)) none [5,6],.mk (some 33) (.fld 0 (.tmp 32)) none [7],.mk (some 34) (.load false 1 (.tmp 33)) none [8],.mk (some 35) (.len (.tmp 34)) none [9],.mk (some 36) (.bin .neq (.tmp 29) (.tmp 35)) none [4,10],.mk (some 37) (.mv (.tmp 36)) none [11],.mk (some 38) (.mv (.tmp 1)) (some (37,false)) [12],.mk (some 39) (.mv (.tmp 8)) (some (37,false)) [12]]
def l95r8b : List AOper :=
  [.mk (some 40) (.idxA 1 (.tmp 38) (.tmp 39)) (some (37,false)) [13,14,12],.mk (some 41) (.load false 1 (.tmp 40)) (some (37,false)) [15,12],.mk (some 42) (.call 64 [.tmp 41,.const (.int .i64 0),.const (.int .i64 4)]) (some (37,false)) [16,12,12],.mk (some 43) (.un .not (.tmp 42)) (some (37,false)) [17,12],.mk (some 44) (.pick (.tmp 37) (.const (.bool true)) (.tmp 43)) none [12,18]]
def l95r8 : List AOper := l95r8a ++ l95r8b
def l95r9 : List AOper :=
  [.mk (some 4) (.mv (.const (.slice none 0 0))) none [],.mk (some 5) (.mv (.const (.bool false))) none [0,0]]
def l95r10 : List AOper :=
  [.mk (some 9) (.mv (.const (.int .i64 0))) none []]
def l95r11 : List AOper :=
  [.mk (some 45) (.mv (.tmp 9)) none [],.mk (some 46) (.mv (.tmp 1)) none [],.mk (some 47) (.mv (.tmp 8)) none [],.mk (some 48) (.idxA 1 (.tmp 46) (.tmp 47)) none [1,2],.mk (some 49) (.load false 1 (.tmp 48)) none [3],.mk (some 50) (.len (.tmp 49)) none [4],.mk (some 51) (.bin .lss (.tmp 45) (.tmp 50)) none [0,5]]
def l95r12 : List AOper :=
  [.mk (some 54) (.mv (.tmp 1)) none [],.mk (some 55) (.mv (.tmp 8)) none [],.mk (some 56) (.idxA 1 (.tmp 54) (.tmp 55)) none [0,1],.mk (some 57) (.load false 1 (.tmp 56)) none [2],.mk (some 58) (.mv (.tmp 9)) none [],.mk (some 59) (.idxA 1 (.tmp 57) (.tmp 58)) none [3,4],.mk (some 60) (.load false 1 (.tmp 59)) none [5],.mk (some 10) (.mv (.tmp 60)) none [6,0,1,2,3,4,5,6]]
def l95r13a : List AOper :=
  [.mk (some 61) (.mv (.tmp 6)) none [],.mk (some 62) (.mv (.tmp 10)) none [],.mk (some 63) (.idxA 1 (.tmp 61) (.tmp 62)) none [0,1],.mk (some 64) (.load false 1 (.tmp 63)) none [2],.mk (some 65) (.bin .geq (.tmp 64) (.const (.int .i64 0))) none [3],.mk (some 66) (.mv (.tmp 65)) none [4],.mk (some 67) (.mv (.tmp 6)) (some (66,true)) [5],.mk (some 68) (.mv (.tmp 10)) (some (66,true)) [5],.mk (some 69) (.idxA 1 (.tmp 67) (.tmp 68)) (some (66,true)) [6,7,5],.mk (some 70) (.load false 1 (.tmp 69)) (some (66,true)) [8,5],.mk (some 71) (.mv (.tmp 0)) (some (66,true)) [5],.mk (some 72) (.mv (.tmp 8)) (some (66,true)) [5],.mk (some 73) (.idxA 2 (.tmp 71) (.tmp 72)) (some (66,true)) [10,11,5],.mk (some 74) (.fld 0 (.tmp 73)) (some (66,true)) [12,5],.mk (some 75) (.load false 1 (.tmp 74)) (some (66,true)) [13,5],.mk (some 76) (.mv (.tmp 9)) (some (66,true)) [5],.mk (some 77) (.idxA 1 (.tmp 75) (.tmp 76)) (some (66,true)) [14,15,5],.mk (some 78) (.load false 1 (.tmp 77)) (some (66,true)) [16,5]]
def l95r13b : List AOper :=
  [.mk (some 79) (.bin .neq (.tmp 70) (.tmp 78)) (some (66,true)) [9,17,5],.mk (some 80) (.pick (.tmp 66) (.tmp 79) (.const (.bool false))) none [5,18]]
def l95r13 : List AOper := l95r13a ++ l95r13b
def l95r14 : List AOper :=
  [.mk (some 4) (.mv (.const (.slice none 0 0))) none [],.mk (some 5) (.mv (.const (.bool false))) none [0,0]]
def l95r15 : List AOper :=
  [.mk (some 81) (.mv (.tmp 6)) none [],.mk (some 82) (.mv (.tmp 10)) none [],.mk (some 83) (.mv (.tmp 0)) none [],.mk (some 84) (.mv (.tmp 8)) none [],.mk (some 85) (.idxA 2 (.tmp 83) (.tmp 84)) none [2,3],.mk (some 86) (.fld 0 (.tmp 85)) none [4],.mk (some 87) (.load false 1 (.tmp 86)) none [5],.mk (some 88) (.mv (.tmp 9)) none [],.mk (some 89) (.idxA 1 (.tmp 87) (.tmp 88)) none [6,7],.mk (some 90) (.load false 1 (.tmp 89)) none [8],.mk (some 91) (.idxA 1 (.tmp 81) (.tmp 82)) none [0,1,0,1,2,3,4,5,6,7,8,9],.mk none (.store 1 (.tmp 91) (.tmp 90)) none [10,9,0,1,2,3,4,5,6,7,8,9]]
def l95r16 : List AOper :=
  [.mk (some 52) (.mv (.tmp 9)) none [],.mk (some 53) (.bin .add (.tmp 52) (.const (.int .i64 1))) none [0],.mk (some 9) (.mv (.tmp 53)) none [1,0,1]]
def l95r17 : List AOper :=
  [.mk (some 23) (.mv (.tmp 8)) none [],.mk (some 24) (.bin .add (.tmp 23) (.const (.int .i64 1))) none [0],.mk (some 8) (.mv (.tmp 24)) none [1,0,1]]
def l95r18 : List AOper :=
  [.mk (some 92) (.mv (.tmp 6)) none [],.mk (some 4) (.mv (.tmp 92)) none [0,0],.mk (some 5) (.mv (.const (.bool true))) none [1,0,1]]
def l95 : AFn :=
  (AFn.mk 93 2 (.seq (.reg l95r0) (.seq (.reg l95r1) (.seq (.seq (.reg l95r2) (.block 0 (.loop (.seq (.seq (.reg l95r3) (.cond (.tmp 13) .skip (.exit 0))) (.seq (.block 1 (.reg l95r4)) (.reg l95r5)))))) (.seq (.seq (.reg l95r6) (.block 2 (.loop (.seq (.seq (.reg l95r7) (.cond (.tmp 22) .skip (.exit 2))) (.seq (.block 3 (.seq (.seq (.draw l95r8) (.cond (.tmp 44) (.seq (.reg l95r9) .ret) .skip)) (.seq (.reg l95r10) (.block 4 (.loop (.seq (.seq (.reg l95r11) (.cond (.tmp 51) .skip (.exit 4))) (.seq (.block 5 (.seq (.reg l95r12) (.seq (.seq (.draw l95r13) (.cond (.tmp 80) (.seq (.reg l95r14) .ret) .skip)) (.reg l95r15)))) (.reg l95r16)))))))) (.reg l95r17)))))) (.seq (.reg l95r18) .ret))))) [.tmp 4,.tmp 5])
theorem l95_eq : lowFn Try.prog 95 = some l95 := by kernel_rfl
def l96r0 : List AOper :=
  [.mk (some 2) (.mv (.const (.bool false))) none []]
def l96r1 : List AOper :=
  [.mk (some 5) (.mv (.tmp 0)) none [],.mk (some 6) (.len (.tmp 5)) none [0],.mk (some 7) (.mv (.const (.int .i64 0))) none []]
def l96r2 : List AOper :=
  [.mk (some 8) (.bin .lss (.tmp 7) (.tmp 6)) none []]
def l96r3 : List AOper :=
  [.mk (some 9) (.idxA 1 (.tmp 5) (.tmp 7)) none [],.mk (some 10) (.load false 1 (.tmp 9)) none [0],.mk (some 4) (.mv (.tmp 10)) none [1,0,1]]
def l96r4 : List AOper :=
  [.mk (some 11) (.mv (.tmp 4)) none [],.mk (some 12) (.call 80 [.tmp 11,.const (.int .i64 4)]) none [0],.mk (some 13) (.un .not (.tmp 12)) none [1]]
def l96r5 : List AOper :=
  [.mk (some 2) (.mv (.const (.bool false))) none []]
def l96r6 : List AOper :=
  [.mk (some 14) (.bin .add (.tmp 7) (.const (.int .i64 1))) none [],.mk (some 7) (.mv (.tmp 14)) none [0]]
def l96r7 : List AOper :=
  [.mk (some 2) (.mv (.const (.bool true))) none []]
def l96 : AFn :=
  (AFn.mk 15 1 (.seq (.reg l96r0) (.seq (.seq (.reg l96r1) (.block 0 (.loop (.seq (.reg l96r2) (.seq (.cond (.tmp 8) .skip (.exit 0)) (.seq (.block 1 (.seq (.reg l96r3) (.seq (.reg l96r4) (.cond (.tmp 13) (.seq (.reg l96r5) .ret) .skip)))) (.reg l96r6))))))) (.seq (.reg l96r7) .ret))) [.tmp 2])
theorem l96_eq : lowFn Try.prog 96 = some l96 := by kernel_rfl
def l97r0 : List AOper :=
  [.mk (some 0) (.alloc [.int .i64 0,.int .i64 0,.int .i64 0,.int .i64 0,.int .i64 0]) none []]
def l97r1 : List AOper :=
  [.mk (some 1) (.alloc [.int .i64 0,.int .i64 0,.int .i64 0,.int .i64 0,.int .i64 0]) none []]
def l97r2 : List AOper :=
  [.mk (some 3) (.mv (.const (.int .i64 0))) none []]
def l97r3 : List AOper :=
  [.mk (some 4) (.bin .lss (.tmp 3) (.const (.int .i64 5))) none []]
def l97r4 : List AOper :=
  [.mk (some 5) (.mv (.tmp 3)) none [],.mk (some 2) (.mv (.tmp 5)) none [0,0]]
def l97r5 : List AOper :=
  [.mk (some 6) (.mv (.tmp 2)) none [],.mk (some 7) (.idxP 1 5 (.tmp 1) (.tmp 6)) none [0,0],.mk none (.store 1 (.tmp 7) (.const (.int .i64 (-1)))) none [1,0]]
def l97r6 : List AOper :=
  [.mk (some 8) (.bin .add (.tmp 3) (.const (.int .i64 1))) none [],.mk (some 3) (.mv (.tmp 8)) none [0]]
def l97r7 : List AOper :=
  [.mk (some 9) (.load true 5 (.tmp 1)) none [],.mk none (.store 5 (.tmp 0) (.tmp 9)) none [0,0]]
def l97 : AFn :=
  (AFn.mk 10 0 (.seq (.reg l97r0) (.seq (.reg l97r1) (.seq (.seq (.reg l97r2) (.block 0 (.loop (.seq (.reg l97r3) (.seq (.cond (.tmp 4) .skip (.exit 0)) (.seq (.block 1 (.seq (.reg l97r4) (.reg l97r5))) (.reg l97r6))))))) (.seq (.reg l97r7) .ret)))) [.cell 0 true 5])
theorem l97_eq : lowFn Try.prog 97 = some l97 := by kernel_rfl
def l98r0 : List AOper :=
  [.mk (some 4) (.alloc [.int .i64 0,.int .i64 0,.int .i64 0,.int .i64 0,.int .i64 0]) none [],.mk (some 5) (.mv (.const (.bool false))) none []]
def l98r1 : List AOper :=
  [.mk (some 11) (.call 97 []) none [],.mk (some 6) (.alloc [.int .i64 0,.int .i64 0,.int .i64 0,.int .i64 0,.int .i64 0]) none [],.mk none (.store 5 (.tmp 6) (.tmp 11)) none [1,0,0,0,1]]
def l98r2 : List AOper :=
  [.mk (some 12) (.mv (.tmp 0)) none [],.mk (some 13) (.len (.tmp 12)) none [0],.mk (some 14) (.mv (.const (.int .i64 0))) none []]
def l98r3 : List AOper :=
  [.mk (some 15) (.bin .lss (.tmp 14) (.tmp 13)) none []]
def l98r4 : List AOper :=
  [.mk (some 16) (.mv (.tmp 14)) none [],.mk (some 17) (.idxA 2 (.tmp 12) (.tmp 14)) none [],.mk (some 18) (.load true 2 (.tmp 17)) none [1],.mk (some 8) (.alloc [.slice none 0 0,.slice none 0 0]) none [],.mk (some 7) (.mv (.tmp 16)) none [0,0,1,2,3],.mk none (.store 2 (.tmp 8) (.tmp 18)) none [3,2,4,0,1,2,3,4]]
def l98r5a : List AOper :=
  [.mk (some 19) (.load true 2 (.tmp 8)) none [],.mk (some 20) (.call 15 [.tmp 19]) none [0],.mk (some 21) (.un .not (.tmp 20)) none [1],.mk (some 22) (.mv (.tmp 21)) none [2,1],.mk (some 23) (.mv (.tmp 1)) (some (22,false)) [3],.mk (some 24) (.mv (.tmp 7)) (some (22,false)) [3],.mk (some 25) (.idxA 1 (.tmp 23) (.tmp 24)) (some (22,false)) [4,5,3],.mk (some 26) (.load false 1 (.tmp 25)) (some (22,false)) [6,3],.mk (some 27) (.len (.tmp 26)) (some (22,false)) [7,3],.mk (some 28) (.fld 0 (.tmp 8)) (some (22,false)) [3],.mk (some 29) (.load false 1 (.tmp 28)) (some (22,false)) [9,3],.mk (some 30) (.len (.tmp 29)) (some (22,false)) [10,3],.mk (some 31) (.bin .neq (.tmp 27) (.tmp 30)) (some (22,false)) [8,11,3],.mk (some 32) (.pick (.tmp 22) (.const (.bool true)) (.tmp 31)) none [3,12],.mk (some 33) (.mv (.tmp 32)) none [13,3],.mk (some 34) (.mv (.tmp 1)) (some (33,false)) [14],.mk (some 35) (.mv (.tmp 7)) (some (33,false)) [14]]
def l98r5b : List AOper :=
  [.mk (some 36) (.idxA 1 (.tmp 34) (.tmp 35)) (some (33,false)) [15,16,14],.mk (some 37) (.load false 1 (.tmp 36)) (some (33,false)) [17,14],.mk (some 38) (.call 96 [.tmp 37]) (some (33,false)) [18,14,14],.mk (some 39) (.un .not (.tmp 38)) (some (33,false)) [19,14],.mk (some 40) (.pick (.tmp 33) (.const (.bool true)) (.tmp 39)) none [14,20]]
def l98r5 : List AOper := l98r5a ++ l98r5b
def l98r6 : List AOper :=
  [.mk (some 41) (.load true 5 (.tmp 6)) none [],.mk none (.store 5 (.tmp 4) (.tmp 41)) none [0,0],.mk (some 5) (.mv (.const (.bool false))) none [1,0,1]]
def l98r7 : List AOper :=
  [.mk (some 42) (.mv (.tmp 1)) none [],.mk (some 43) (.mv (.tmp 7)) none [],.mk (some 44) (.idxA 1 (.tmp 42) (.tmp 43)) none [0,1],.mk (some 45) (.load false 1 (.tmp 44)) none [2],.mk (some 46) (.len (.tmp 45)) none [3],.mk (some 47) (.mv (.const (.int .i64 0))) none []]
def l98r8 : List AOper :=
  [.mk (some 48) (.bin .lss (.tmp 47) (.tmp 46)) none []]
def l98r9 : List AOper :=
  [.mk (some 49) (.mv (.tmp 47)) none [],.mk (some 50) (.idxA 1 (.tmp 45) (.tmp 47)) none [],.mk (some 51) (.load false 1 (.tmp 50)) none [1],.mk (some 9) (.mv (.tmp 49)) none [0,0,1,2],.mk (some 10) (.mv (.tmp 51)) none [2,3,0,1,2,3]]
def l98r10a : List AOper :=
  [.mk (some 52) (.mv (.tmp 10)) none [],.mk (some 53) (.idxP 1 5 (.tmp 6) (.tmp 52)) none [0],.mk (some 54) (.load false 1 (.tmp 53)) none [1],.mk (some 55) (.bin .geq (.tmp 54) (.const (.int .i64 0))) none [2],.mk (some 56) (.mv (.tmp 55)) none [3],.mk (some 57) (.mv (.tmp 10)) (some (56,true)) [4],.mk (some 58) (.idxP 1 5 (.tmp 6) (.tmp 57)) (some (56,true)) [5,4],.mk (some 59) (.load false 1 (.tmp 58)) (some (56,true)) [6,4],.mk (some 60) (.fld 0 (.tmp 8)) (some (56,true)) [4],.mk (some 61) (.load false 1 (.tmp 60)) (some (56,true)) [8,4],.mk (some 62) (.mv (.tmp 9)) (some (56,true)) [4],.mk (some 63) (.idxA 1 (.tmp 61) (.tmp 62)) (some (56,true)) [9,10,4],.mk (some 64) (.load false 1 (.tmp 63)) (some (56,true)) [11,4]]
def l98r10b : List AOper :=
  [.mk (some 65) (.bin .neq (.tmp 59) (.tmp 64)) (some (56,true)) [7,12,4],.mk (some 66) (.pick (.tmp 56) (.tmp 65) (.const (.bool false))) none [4,13]]
def l98r10 : List AOper := l98r10a ++ l98r10b
def l98r11 : List AOper :=
  [.mk (some 67) (.load true 5 (.tmp 6)) none [],.mk none (.store 5 (.tmp 4) (.tmp 67)) none [0,0],.mk (some 5) (.mv (.const (.bool false))) none [1,0,1]]
def l98r12 : List AOper :=
  [.mk (some 68) (.mv (.tmp 10)) none [],.mk (some 69) (.fld 0 (.tmp 8)) none [],.mk (some 70) (.load false 1 (.tmp 69)) none [1],.mk (some 71) (.mv (.tmp 9)) none [],.mk (some 72) (.idxA 1 (.tmp 70) (.tmp 71)) none [2,3],.mk (some 73) (.load false 1 (.tmp 72)) none [4],.mk (some 74) (.idxP 1 5 (.tmp 6) (.tmp 68)) none [0,0,1,2,3,4,5],.mk none (.store 1 (.tmp 74) (.tmp 73)) none [6,5,0,1,2,3,4,5]]
def l98r13 : List AOper :=
  [.mk (some 75) (.bin .add (.tmp 47) (.const (.int .i64 1))) none [],.mk (some 47) (.mv (.tmp 75)) none [0]]
def l98r14 : List AOper :=
  [.mk (some 76) (.bin .add (.tmp 14) (.const (.int .i64 1))) none [],.mk (some 14) (.mv (.tmp 76)) none [0]]
def l98r15 : List AOper :=
  [.mk (some 77) (.load true 5 (.tmp 6)) none [],.mk none (.store 5 (.tmp 4) (.tmp 77)) none [0,0],.mk (some 5) (.mv (.const (.bool true))) none [1,0,1]]
def l98 : AFn :=
  (AFn.mk 78 2 (.seq (.reg l98r0) (.seq (.reg l98r1) (.seq (.seq (.reg l98r2) (.block 0 (.loop (.seq (.reg l98r3) (.seq (.cond (.tmp 15) .skip (.exit 0)) (.seq (.block 1 (.seq (.reg l98r4) (.seq (.seq (.draw l98r5) (.cond (.tmp 40) (.seq (.reg l98r6) .ret) .skip)) (.seq (.reg l98r7) (.block 2 (.loop (.seq (.reg l98r8) (.seq (.cond (.tmp 48) .skip (.exit 2)) (.seq (.block 3 (.seq (.reg l98r9) (.seq (.seq (.draw l98r10) (.cond (.tmp 66) (.seq (.reg l98r11) .ret) .skip)) (.reg l98r12)))) (.reg l98r13)))))))))) (.reg l98r14))))))) (.seq (.reg l98r15) .ret)))) [.cell 4 true 5,.tmp 5])
theorem l98_eq : lowFn Try.prog 98 = some l98 := by kernel_rfl
def l99r0 : List AOper :=
  [.mk (some 2) (.box (.tmp 0)) none [],.mk (some 4) (.mv (.const (.slice none 0 0))) none []]
def l99r1 : List AOper :=
  [.mk (some 8) (.mv (.tmp 1)) none [],.mk (some 9) (.len (.tmp 8)) none [0],.mk (some 10) (.mkslice 1 [.int .i64 0] (.tmp 9) (.tmp 9)) none [1,1],.mk (some 5) (.mv (.tmp 10)) none [2,0,1,2]]
def l99r2 : List AOper :=
  [.mk (some 11) (.mv (.tmp 1)) none [],.mk (some 12) (.len (.tmp 11)) none [0],.mk (some 13) (.mv (.const (.int .i64 0))) none []]
def l99r3 : List AOper :=
  [.mk (some 14) (.bin .lss (.tmp 13) (.tmp 12)) none []]
def l99r4 : List AOper :=
  [.mk (some 15) (.mv (.tmp 13)) none [],.mk (some 16) (.idxA 1 (.tmp 11) (.tmp 13)) none [],.mk (some 17) (.load false 1 (.tmp 16)) none [1],.mk (some 6) (.mv (.tmp 15)) none [0,0,1,2],.mk (some 7) (.mv (.tmp 17)) none [2,3,0,1,2,3]]
def l99r5 : List AOper :=
  [.mk (some 18) (.mv (.tmp 5)) none [],.mk (some 19) (.mv (.tmp 6)) none [],.mk (some 20) (.mv (.tmp 7)) none [],.mk (some 21) (.idxP 1 5 (.tmp 2) (.tmp 20)) none [2],.mk (some 22) (.load false 1 (.tmp 21)) none [3],.mk (some 23) (.idxA 1 (.tmp 18) (.tmp 19)) none [0,1,0,1,2,3,4],.mk none (.store 1 (.tmp 23) (.tmp 22)) none [5,4,0,1,2,3,4]]
def l99r6 : List AOper :=
  [.mk (some 24) (.bin .add (.tmp 13) (.const (.int .i64 1))) none [],.mk (some 13) (.mv (.tmp 24)) none [0]]
def l99r7 : List AOper :=
  [.mk (some 25) (.mv (.tmp 5)) none [],.mk (some 4) (.mv (.tmp 25)) none [0,0]]
def l99 : AFn :=
  (AFn.mk 26 2 (.seq (.reg l99r0) (.seq (.reg l99r1) (.seq (.seq (.reg l99r2) (.block 0 (.loop (.seq (.reg l99r3) (.seq (.cond (.tmp 14) .skip (.exit 0)) (.seq (.block 1 (.seq (.reg l99r4) (.reg l99r5))) (.reg l99r6))))))) (.seq (.reg l99r7) .ret)))) [.tmp 4])
theorem l99_eq : lowFn Try.prog 99 = some l99 := by kernel_rfl
def l100r0 : List AOper :=
  [.mk (some 2) (.mv (.const (.slice none 0 0))) none []]
def l100r1 : List AOper :=
  [.mk (some 3) (.alloc [.bool false,.bool false,.bool false,.bool false,.bool false]) none []]
def l100r2 : List AOper :=
  [.mk (some 11) (.mv (.tmp 0)) none [],.mk (some 12) (.len (.tmp 11)) none [0],.mk (some 13) (.mv (.const (.int .i64 0))) none []]
def l100r3 : List AOper :=
  [.mk (some 14) (.bin .lss (.tmp 13) (.tmp 12)) none []]
def l100r4 : List AOper :=
  [.mk (some 15) (.idxA 1 (.tmp 11) (.tmp 13)) none [],.mk (some 16) (.load false 1 (.tmp 15)) none [0],.mk (some 5) (.mv (.tmp 16)) none [1,0,1]]
def l100r5 : List AOper :=
  [.mk (some 17) (.mv (.tmp 5)) none [],.mk (some 18) (.len (.tmp 17)) none [0],.mk (some 19) (.mv (.const (.int .i64 0))) none []]
def l100r6 : List AOper :=
  [.mk (some 20) (.bin .lss (.tmp 19) (.tmp 18)) none []]
def l100r7 : List AOper :=
  [.mk (some 21) (.idxA 1 (.tmp 17) (.tmp 19)) none [],.mk (some 22) (.load false 1 (.tmp 21)) none [0],.mk (some 7) (.mv (.tmp 22)) none [1,0,1]]
def l100r8 : List AOper :=
  [.mk (some 23) (.mv (.tmp 7)) none [],.mk (some 24) (.idxP 1 5 (.tmp 3) (.tmp 23)) none [0,0],.mk none (.store 1 (.tmp 24) (.const (.bool true))) none [1,0]]
def l100r9 : List AOper :=
  [.mk (some 25) (.bin .add (.tmp 19) (.const (.int .i64 1))) none [],.mk (some 19) (.mv (.tmp 25)) none [0]]
def l100r10 : List AOper :=
  [.mk (some 26) (.bin .add (.tmp 13) (.const (.int .i64 1))) none [],.mk (some 13) (.mv (.tmp 26)) none [0]]
def l100r11 : List AOper :=
  [.mk (some 8) (.mv (.const (.slice none 0 0))) none []]
def l100r12 : List AOper :=
  [.mk (some 27) (.load true 5 (.tmp 3)) none [],.mk (some 28) (.mv (.const (.int .i64 0))) none []]
def l100r13 : List AOper :=
  [.mk (some 29) (.bin .lss (.tmp 28) (.const (.int .i64 5))) none []]
def l100r14 : List AOper :=
  [.mk (some 30) (.mv (.tmp 28)) none [],.mk (some 31) (.raw (Op.index 120 (.tmp 27) (.tmp 28))) none [],.mk (some 9) (.mv (.tmp 30)) none [0,0,1],.mk (some 10) (.mv (.tmp 31)) none [1,2,0,1,2]]
def l100r15 : List AOper :=
  [.mk (some 32) (.mv (.tmp 10)) none []]
def l100r16 : List AOper :=
  [.mk (some 33) (.mv (.tmp 8)) none [],.mk (some 34) (.mv (.tmp 9)) none [],.mk (some 35) (.bslice 1 [.int .i64 0] [(0,.tmp 34)] 1) none [1],.mk (some 36) (.append 1 (.tmp 33) (.tmp 35)) none [0,2],.mk (some 8) (.mv (.tmp 36)) none [3,3,0,1,2,3]]
def l100r17 : List AOper :=
  [.mk (some 37) (.bin .add (.tmp 28) (.const (.int .i64 1))) none [],.mk (some 28) (.mv (.tmp 37)) none [0]]
def l100r18 : List AOper :=
  [.mk (some 38) (.mv (.tmp 8)) none [],.mk (some 2) (.mv (.tmp 38)) none [0,0]]
def l100 : AFn :=
  (AFn.mk 39 1 (.seq (.reg l100r0) (.seq (.reg l100r1) (.seq (.seq (.reg l100r2) (.block 0 (.loop (.seq (.reg l100r3) (.seq (.cond (.tmp 14) .skip (.exit 0)) (.seq (.block 1 (.seq (.reg l100r4) (.seq (.reg l100r5) (.block 2 (.loop (.seq (.reg l100r6) (.seq (.cond (.tmp 20) .skip (.exit 2)) (.seq (.block 3 (.seq (.reg l100r7) (.reg l100r8))) (.reg l100r9))))))))) (.reg l100r10))))))) (.seq (.reg l100r11) (.seq (.seq (.reg l100r12) (.block 4 (.loop (.seq (.reg l100r13) (.seq (.cond (.tmp 29) .skip (.exit 4)) (.seq (.block 5 (.seq (.reg l100r14) (.seq (.reg l100r15) (.cond (.tmp 32) (.reg l100r16) .skip)))) (.reg l100r17))))))) (.seq (.reg l100r18) .ret)))))) [.tmp 2])
theorem l100_eq : lowFn Try.prog 100 = some l100 := by kernel_rfl
def l101r0 : List AOper :=
  [.mk (some 8) (.mv (.const (.slice none 0 0))) none []]
def l101r1 : List AOper :=
  [.mk (some 13) (.bslice 1 [.int .i64 0] [] 0) none [],.mk (some 9) (.mv (.tmp 13)) none [0,0]]
def l101r2 : List AOper :=
  [.mk (some 10) (.mv (.const (.int .i64 0))) none []]
def l101r3 : List AOper :=
  [.mk (some 14) (.mv (.tmp 10)) none [],.mk (some 15) (.bin .leq (.tmp 14) (.const (.int .i64 4))) none [0]]
def l101r4 : List AOper :=
  [.mk (some 18) (.mv (.tmp 0)) none [],.mk (some 19) (.mv (.tmp 2)) none [],.mk (some 20) (.idxA 1 (.tmp 18) (.tmp 19)) none [0,1],.mk (some 21) (.load false 1 (.tmp 20)) none [2],.mk (some 22) (.mv (.tmp 10)) none [],.mk (some 23) (.call 102 [.tmp 21,.tmp 22]) none [3,4],.mk (some 24) (.bin .lss (.tmp 23) (.const (.int .i64 0))) none [5],.mk (some 25) (.mv (.tmp 24)) none [6,5],.mk (some 26) (.mv (.tmp 0)) (some (25,true)) [7],.mk (some 27) (.mv (.tmp 3)) (some (25,true)) [7],.mk (some 28) (.idxA 1 (.tmp 26) (.tmp 27)) (some (25,true)) [8,9,7],.mk (some 29) (.load false 1 (.tmp 28)) (some (25,true)) [10,7],.mk (some 30) (.mv (.tmp 10)) (some (25,true)) [7],.mk (some 31) (.call 102 [.tmp 29,.tmp 30]) (some (25,true)) [11,12,7,7],.mk (some 32) (.bin .lss (.tmp 31) (.const (.int .i64 0))) (some (25,true)) [13,7],.mk (some 33) (.pick (.tmp 25) (.tmp 32) (.const (.bool false))) none [7,14]]
def l101r5 : List AOper :=
  [.mk (some 34) (.mv (.tmp 1)) none [],.mk (some 35) (.mv (.tmp 10)) none [],.mk (some 36) (.call 102 [.tmp 34,.tmp 35]) none [0,1],.mk (some 37) (.bin .geq (.tmp 36) (.const (.int .i64 0))) none [2],.mk (some 11) (.mv (.tmp 37)) none [3,2,0,1,2,3]]
def l101r6 : List AOper :=
  [.mk (some 12) (.mv (.const (.int .i64 0))) none []]
def l101r7 : List AOper :=
  [.mk (some 38) (.mv (.tmp 12)) none [],.mk (some 39) (.mv (.tmp 0)) none [],.mk (some 40) (.len (.tmp 39)) none [1],.mk (some 41) (.bin .lss (.tmp 38) (.tmp 40)) none [0,2]]
def l101r8 : List AOper :=
  [.mk (some 44) (.mv (.tmp 11)) none [],.mk (some 45) (.mv (.tmp 44)) none [0],.mk (some 46) (.mv (.tmp 12)) (some (45,false)) [1],.mk (some 47) (.mv (.tmp 2)) (some (45,false)) [1],.mk (some 48) (.bin .neq (.tmp 46) (.tmp 47)) (some (45,false)) [2,3,1],.mk (some 49) (.mv (.tmp 48)) (some (45,false)) [4,1,1],.mk (some 50) (.mv (.tmp 12)) (some (49,true)) [5],.mk (some 51) (.mv (.tmp 3)) (some (49,true)) [5],.mk (some 52) (.bin .neq (.tmp 50) (.tmp 51)) (some (49,true)) [6,7,5],.mk (some 53) (.pick (.tmp 49) (.tmp 52) (.const (.bool false))) (some (45,false)) [5,8,1],.mk (some 54) (.mv (.tmp 53)) (some (45,false)) [9,5,1],.mk (some 55) (.mv (.tmp 0)) (some (54,true)) [10],.mk (some 56) (.mv (.tmp 12)) (some (54,true)) [10],.mk (some 57) (.idxA 1 (.tmp 55) (.tmp 56)) (some (54,true)) [11,12,10],.mk (some 58) (.load false 1 (.tmp 57)) (some (54,true)) [13,10],.mk (some 59) (.mv (.tmp 10)) (some (54,true)) [10],.mk (some 60) (.call 102 [.tmp 58,.tmp 59]) (some (54,true)) [14,15,10,10],.mk (some 61) (.bin .geq (.tmp 60) (.const (.int .i64 0))) (some (54,true)) [16,10],.mk (some 62) (.pick (.tmp 54) (.tmp 61) (.const (.bool false))) (some (45,false)) [10,17,1],.mk (some 63) (.pick (.tmp 45) (.const (.bool true)) (.tmp 62)) none [1,18],.mk (some 11) (.mv (.tmp 63)) none [19,16,0,1,2,3,4,5,6,7,8,9,10,11,12,13,14,15,16,17,18,19]]
def l101r9 : List AOper :=
  [.mk (some 42) (.mv (.tmp 12)) none [],.mk (some 43) (.bin .add (.tmp 42) (.const (.int .i64 1))) none [0],.mk (some 12) (.mv (.tmp 43)) none [1,0,1]]
def l101r10 : List AOper :=
  [.mk (some 64) (.mv (.tmp 11)) none []]
def l101r11 : List AOper :=
  [.mk (some 65) (.mv (.tmp 9)) none [],.mk (some 66) (.mv (.tmp 10)) none [],.mk (some 67) (.bslice 1 [.int .i64 0] [(0,.tmp 66)] 1) none [1],.mk (some 68) (.append 1 (.tmp 65) (.tmp 67)) none [0,2],.mk (some 9) (.mv (.tmp 68)) none [3,3,0,1,2,3]]
def l101r12 : List AOper :=
  [.mk (some 16) (.mv (.tmp 10)) none [],.mk (some 17) (.bin .add (.tmp 16) (.const (.int .i64 1))) none [0],.mk (some 10) (.mv (.tmp 17)) none [1,0,1]]
def l101r13 : List AOper :=
  [.mk (some 69) (.mv (.tmp 9)) none [],.mk (some 8) (.mv (.tmp 69)) none [0,0]]
def l101 : AFn :=
  (AFn.mk 70 4 (.seq (.reg l101r0) (.seq (.reg l101r1) (.seq (.seq (.reg l101r2) (.block 0 (.loop (.seq (.seq (.reg l101r3) (.cond (.tmp 15) .skip (.exit 0))) (.seq (.block 1 (.seq (.seq (.reg l101r4) (.cond (.tmp 33) (.exit 1) .skip)) (.seq (.reg l101r5) (.seq (.seq (.reg l101r6) (.block 2 (.loop (.seq (.seq (.reg l101r7) (.cond (.tmp 41) .skip (.exit 2))) (.seq (.block 3 (.reg l101r8)) (.reg l101r9)))))) (.seq (.reg l101r10) (.cond (.tmp 64) (.reg l101r11) .skip)))))) (.reg l101r12)))))) (.seq (.reg l101r13) .ret)))) [.tmp 8])
theorem l101_eq : lowFn Try.prog 101 = some l101 := by kernel_rfl
def l102r0 : List AOper :=
  [.mk (some 4) (.mv (.const (.int .i64 0))) none []]
def l102r1 : List AOper :=
  [.mk (some 5) (.mv (.const (.int .i64 0))) none []]
def l102r2 : List AOper :=
  [.mk (some 6) (.mv (.tmp 5)) none [],.mk (some 7) (.mv (.tmp 0)) none [],.mk (some 8) (.len (.tmp 7)) none [1],.mk (some 9) (.bin .lss (.tmp 6) (.tmp 8)) none [0,2]]
def l102r3 : List AOper :=
  [.mk (some 12) (.mv (.tmp 0)) none [],.mk (some 13) (.mv (.tmp 5)) none [],.mk (some 14) (.idxA 1 (.tmp 12) (.tmp 13)) none [0,1],.mk (some 15) (.load false 1 (.tmp 14)) none [2],.mk (some 16) (.mv (.tmp 1)) none [],.mk (some 17) (.bin .eql (.tmp 15) (.tmp 16)) none [3,4]]
def l102r4 : List AOper :=
  [.mk (some 18) (.mv (.tmp 5)) none [],.mk (some 4) (.mv (.tmp 18)) none [0,0]]
def l102r5 : List AOper :=
  [.mk (some 10) (.mv (.tmp 5)) none [],.mk (some 11) (.bin .add (.tmp 10) (.const (.int .i64 1))) none [0],.mk (some 5) (.mv (.tmp 11)) none [1,0,1]]
def l102r6 : List AOper :=
  [.mk (some 4) (.mv (.const (.int .i64 (-1)))) none []]
def l102 : AFn :=
  (AFn.mk 19 2 (.seq (.reg l102r0) (.seq (.seq (.reg l102r1) (.block 0 (.loop (.seq (.seq (.reg l102r2) (.cond (.tmp 9) .skip (.exit 0))) (.seq (.block 1 (.seq (.reg l102r3) (.cond (.tmp 17) (.seq (.reg l102r4) .ret) .skip))) (.reg l102r5)))))) (.seq (.reg l102r6) .ret))) [.tmp 4])
theorem l102_eq : lowFn Try.prog 102 = some l102 := by kernel_rfl
def l103r0 : List AOper :=
  [.mk (some 2) (.mv (.const (.slice none 0 0))) none []]
def l103r1 : List AOper :=
  [.mk (some 3) (.mv (.const (.int .i64 0))) none []]
def l103r2 : List AOper :=
  [.mk (some 9) (.mv (.tmp 0)) none [],.mk (some 10) (.len (.tmp 9)) none [0],.mk (some 11) (.mv (.const (.int .i64 0))) none []]
def l103r3 : List AOper :=
  [.mk (some 12) (.bin .lss (.tmp 11) (.tmp 10)) none []]
def l103r4 : List AOper :=
  [.mk (some 13) (.idxA 1 (.tmp 9) (.tmp 11)) none [],.mk (some 14) (.load false 1 (.tmp 13)) none [0],.mk (some 5) (.mv (.tmp 14)) none [1,0,1]]
def l103r5 : List AOper :=
  [.mk (some 15) (.mv (.tmp 3)) none [],.mk (some 16) (.mv (.tmp 5)) none [],.mk (some 17) (.len (.tmp 16)) none [1],.mk (some 18) (.bin .add (.tmp 15) (.tmp 17)) none [0,2],.mk (some 3) (.mv (.tmp 18)) none [3,0,1,2,3]]
def l103r6 : List AOper :=
  [.mk (some 19) (.mv (.tmp 3)) none [],.mk (some 20) (.bin .lss (.tmp 19) (.const (.int .i64 0))) none [0]]
def l103r7 : List AOper :=
  [.mk (some 21) (.raw (Op.makeInterface 9 (.const (.string (ByteArray.mk (Array.mk [(108 : UInt8),(101 : UInt8),(110 : UInt8),(32 : UInt8),(111 : UInt8),(117 : UInt8),(116 : UInt8),(32 : UInt8),(111 : UInt8),(102 : UInt8),(32 : UInt8),(114 : UInt8),(97 : UInt8),(110 : UInt8),(103 : UInt8),(101 : UInt8)])))))) none [],.mk none (.raw (Op.panic (.tmp 21))) none [0]]
def l103r8 : List AOper :=
  [.mk (some 22) (.bin .add (.tmp 11) (.const (.int .i64 1))) none [],.mk (some 11) (.mv (.tmp 22)) none [0]]
def l103r9 : List AOper :=
  [.mk (some 23) (.mv (.tmp 3)) none [],.mk (some 24) (.call 119 [.const (.slice none 0 0),.tmp 23]) none [0],.mk (some 6) (.mv (.tmp 24)) none [1,1,0,1]]
def l103r10 : List AOper :=
  [.mk (some 25) (.mv (.tmp 0)) none [],.mk (some 26) (.len (.tmp 25)) none [0],.mk (some 27) (.mv (.const (.int .i64 0))) none []]
def l103r11 : List AOper :=
  [.mk (some 28) (.bin .lss (.tmp 27) (.tmp 26)) none []]
def l103r12 : List AOper :=
  [.mk (some 29) (.idxA 1 (.tmp 25) (.tmp 27)) none [],.mk (some 30) (.load false 1 (.tmp 29)) none [0],.mk (some 8) (.mv (.tmp 30)) none [1,0,1]]
def l103r13 : List AOper :=
  [.mk (some 31) (.mv (.tmp 6)) none [],.mk (some 32) (.mv (.tmp 8)) none [],.mk (some 33) (.append 1 (.tmp 31) (.tmp 32)) none [0,1],.mk (some 6) (.mv (.tmp 33)) none [2,2,0,1,2]]
def l103r14 : List AOper :=
  [.mk (some 34) (.bin .add (.tmp 27) (.const (.int .i64 1))) none [],.mk (some 27) (.mv (.tmp 34)) none [0]]
def l103r15 : List AOper :=
  [.mk (some 35) (.mv (.tmp 6)) none [],.mk (some 2) (.mv (.tmp 35)) none [0,0]]
def l103 : AFn :=
  (AFn.mk 36 1 (.seq (.reg l103r0) (.seq (.reg l103r1) (.seq (.seq (.reg l103r2) (.block 0 (.loop (.seq (.reg l103r3) (.seq (.cond (.tmp 12) .skip (.exit 0)) (.seq (.block 1 (.seq (.reg l103r4) (.seq (.reg l103r5) (.seq (.reg l103r6) (.cond (.tmp 20) (.reg l103r7) .skip))))) (.reg l103r8))))))) (.seq (.reg l103r9) (.seq (.seq (.reg l103r10) (.block 2 (.loop (.seq (.reg l103r11) (.seq (.cond (.tmp 28) .skip (.exit 2)) (.seq (.block 3 (.seq (.reg l103r12) (.reg l103r13))) (.reg l103r14))))))) (.seq (.reg l103r15) .ret)))))) [.tmp 2])
theorem l103_eq : lowFn Try.prog 103 = some l103 := by kernel_rfl
def l107r0 : List AOper :=
  [.mk (some 4) (.mv (.const (.bool false))) none []]
def l107r1 : List AOper :=
  [.mk (some 5) (.mv (.tmp 0)) none [],.mk (some 6) (.mv (.tmp 1)) none [],.mk (some 7) (.call 126 [.tmp 5,.tmp 6]) none [0,1],.mk (some 8) (.bin .geq (.tmp 7) (.const (.int .i64 0))) none [2],.mk (some 4) (.mv (.tmp 8)) none [3,2,0,1,2,3]]
def l107 : AFn :=
  (AFn.mk 9 2 (.seq (.reg l107r0) (.seq (.reg l107r1) .ret)) [.tmp 4])
theorem l107_eq : lowFn Try.prog 107 = some l107 := by kernel_rfl
def l119r0 : List AOper :=
  [.mk (some 4) (.mv (.const (.slice none 0 0))) none []]
def l119r1 : List AOper :=
  [.mk (some 5) (.mv (.tmp 1)) none [],.mk (some 6) (.bin .lss (.tmp 5) (.const (.int .i64 0))) none [0]]
def l119r2 : List AOper :=
  [.mk (some 7) (.raw (Op.makeInterface 9 (.const (.string (ByteArray.mk (Array.mk [(99 : UInt8),(97 : UInt8),(110 : UInt8),(110 : UInt8),(111 : UInt8),(116 : UInt8),(32 : UInt8),(98 : UInt8),(101 : UInt8),(32 : UInt8),(110 : UInt8),(101 : UInt8),(103 : UInt8),(97 : UInt8),(116 : UInt8),(105 : UInt8),(118 : UInt8),(101 : UInt8)])))))) none [],.mk none (.raw (Op.panic (.tmp 7))) none [0]]
def l119r3 : List AOper :=
  [.mk (some 8) (.mv (.tmp 1)) none [],.mk (some 9) (.mv (.tmp 0)) none [],.mk (some 10) (.raw (Op.call (Call.mk (Callee.builtin Builtin.cap) (Array.mk [.tmp 9]) (Array.mk [22])))) none [1],.mk (some 11) (.mv (.tmp 0)) none [],.mk (some 12) (.len (.tmp 11)) none [3],.mk (some 13) (.bin .sub (.tmp 10) (.tmp 12)) none [2,4],.mk (some 14) (.bin .sub (.tmp 8) (.tmp 13)) none [0,5],.mk (some 1) (.mv (.tmp 14)) none [6,0,1,2,3,4,5,6]]
def l119r4 : List AOper :=
  [.mk (some 15) (.mv (.tmp 1)) none [],.mk (some 16) (.bin .gtr (.tmp 15) (.const (.int .i64 0))) none [0]]
def l119r5 : List AOper :=
  [.mk (some 17) (.mv (.tmp 0)) none [],.mk (some 18) (.mv (.tmp 0)) none [],.mk (some 19) (.raw (Op.call (Call.mk (Callee.builtin Builtin.cap) (Array.mk [.tmp 18]) (Array.mk [22])))) none [1],.mk (some 20) (.slice 1 (.tmp 17) none (some (.tmp 19))) none [0,2],.mk (some 21) (.mv (.tmp 1)) none [],.mk (some 22) (.raw (Op.call (Call.mk (Callee.builtin Builtin.append) (Array.mk [.tmp 20,.tmp 21]) (Array.mk [22,3])))) none [3,4],.mk (some 23) (.mv (.tmp 0)) none [],.mk (some 24) (.len (.tmp 23)) none [6],.mk (some 25) (.slice 1 (.tmp 22) none (some (.tmp 24))) none [5,7],.mk (some 0) (.mv (.tmp 25)) none [8,5,0,1,2,3,4,5,6,7,8]]
def l119r6 : List AOper :=
  [.mk (some 26) (.mv (.tmp 0)) none [],.mk (some 4) (.mv (.tmp 26)) none [0,0]]
def l119 : AFn :=
  (AFn.mk 27 2 (.seq (.reg l119r0) (.seq (.seq (.reg l119r1) (.cond (.tmp 6) (.reg l119r2) .skip)) (.seq (.seq (.reg l119r3) (.seq (.reg l119r4) (.cond (.tmp 16) (.reg l119r5) .skip))) (.seq (.reg l119r6) .ret)))) [.tmp 4])
theorem l119_eq : lowFn Try.prog 119 = some l119 := by kernel_rfl
def l126r0 : List AOper :=
  [.mk (some 4) (.mv (.const (.int .i64 0))) none []]
def l126r1 : List AOper :=
  [.mk (some 6) (.mv (.tmp 0)) none [],.mk (some 7) (.len (.tmp 6)) none [0],.mk (some 8) (.mv (.const (.int .i64 0))) none []]
def l126r2 : List AOper :=
  [.mk (some 9) (.bin .lss (.tmp 8) (.tmp 7)) none []]
def l126r3 : List AOper :=
  [.mk (some 10) (.mv (.tmp 8)) none [],.mk (some 5) (.mv (.tmp 10)) none [0,0]]
def l126r4 : List AOper :=
  [.mk (some 11) (.mv (.tmp 1)) none [],.mk (some 12) (.mv (.tmp 0)) none [],.mk (some 13) (.mv (.tmp 5)) none [],.mk (some 14) (.idxA 1 (.tmp 12) (.tmp 13)) none [1,2],.mk (some 15) (.load false 1 (.tmp 14)) none [3],.mk (some 16) (.bin .eql (.tmp 11) (.tmp 15)) none [0,4]]
def l126r5 : List AOper :=
  [.mk (some 17) (.mv (.tmp 5)) none [],.mk (some 4) (.mv (.tmp 17)) none [0,0]]
def l126r6 : List AOper :=
  [.mk (some 18) (.bin .add (.tmp 8) (.const (.int .i64 1))) none [],.mk (some 8) (.mv (.tmp 18)) none [0]]
def l126r7 : List AOper :=
  [.mk (some 4) (.mv (.const (.int .i64 (-1)))) none []]
def l126 : AFn :=
  (AFn.mk 19 2 (.seq (.reg l126r0) (.seq (.seq (.reg l126r1) (.block 0 (.loop (.seq (.reg l126r2) (.seq (.cond (.tmp 9) .skip (.exit 0)) (.seq (.block 1 (.seq (.reg l126r3) (.seq (.reg l126r4) (.cond (.tmp 16) (.seq (.reg l126r5) .ret) .skip)))) (.reg l126r6))))))) (.seq (.reg l126r7) .ret))) [.tmp 4])
theorem l126_eq : lowFn Try.prog 126 = some l126 := by kernel_rfl
end Go.Proofs.Ytajhakhncalabaa
