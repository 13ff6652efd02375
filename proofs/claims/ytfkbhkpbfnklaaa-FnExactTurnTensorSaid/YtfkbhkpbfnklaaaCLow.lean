import Derived.Test.YtfkbhkpbfnklaaaCW3
import Derived.Test.YtfkbhkpbfnklaaaProg
import Derived.KernelRfl
set_option maxRecDepth 100000
namespace Go.Proofs.Ytfkbhkpbfnklaaa
open Vw Go
instance globs:Inhabited GlobT:=⟨⟨[]⟩⟩
attribute [push_cast] Bool.false_eq_true List.length_replicate
attribute [bitvec_to_nat] decide_eq_true_eq decide_eq_false_iff_not Bool.not_eq_true' Bool.not_eq_false' Bool.and_eq_true Bool.or_eq_true Bool.and_eq_false_iff Bool.or_eq_false_iff Int.not_le Int.not_lt bne_iff_ne ne_eq beq_iff_eq Bool.not_eq_true Bool.not_eq_false
theorem sd {P:Prop} (h:P:=by first|assumption|rfl|omega|(simp<;>omega)|(simp_all<;>omega)):P:=h
def l7r0:List AOper :=
  [.mk (some 2) (.box (.tmp 0)) none [],.mk (some 4) (.mv (.const (.bool false))) none []]
def l7r1:List AOper :=
  [.mk (some 14) (.mv (.tmp 1)) none [],.mk (some 15) (.len (.tmp 14)) none [0],.mk (some 16) (.bin .gtr (.tmp 15) (.const (.int .i64 1048576))) none [1]]
def l7r2:List AOper :=
  [.mk (some 4) (.mv (.const (.bool true))) none []]
def l7r3:List AOper :=
  [.mk (some 5) (.mv (.const (.int .i64 1048576))) none []]
def l7r4:List AOper :=
  [.mk (some 17) (.load true 2 (.tmp 2)) none [],.mk (some 18) (.mv (.tmp 5)) none [],.mk (some 19) (.call 30 [.tmp 17,.tmp 18]) none [0,1],.mk (some 5) (.mv (.tmp 19)) none [2,2,0,1,2]]
def l7r5:List AOper :=
  [.mk (some 20) (.mv (.tmp 5)) none [],.mk (some 21) (.bin .lss (.tmp 20) (.const (.int .i64 0))) none [0]]
def l7r6:List AOper :=
  [.mk (some 4) (.mv (.const (.bool true))) none []]
def l7r7:List AOper :=
  [.mk (some 22) (.load true 2 (.tmp 2)) none [],.mk (some 23) (.call 32 [.tmp 22]) none [0],.mk (some 24) (.mv (.tmp 1)) none [],.mk (some 25) (.call 17 [.tmp 24]) none [2,1],.mk (some 26) (.call 36 [.tmp 23,.tmp 25]) none [1,3,3],.mk (some 6) (.alloc [.slice none 0 0,.slice none 0 0]) none [],.mk none (.store 2 (.tmp 6) (.tmp 26)) none [5,4,4,0,1,2,3,4,5]]
def l7r8:List AOper :=
  [.mk (some 27) (.load true 2 (.tmp 2)) none [],.mk (some 28) (.call 32 [.tmp 27]) none [0],.mk (some 7) (.alloc [.slice none 0 0,.slice none 0 0]) none [],.mk none (.store 2 (.tmp 7) (.tmp 28)) none [2,1,1,0,1,2]]
def l7r9:List AOper :=
  [.mk (some 29) (.mv (.tmp 1)) none [],.mk (some 30) (.call 17 [.tmp 29]) none [0],.mk (some 8) (.mv (.tmp 30)) none [1,1,0,1]]
def l7r10:List AOper :=
  [.mk (some 31) (.load true 2 (.tmp 7)) none [],.mk (some 32) (.mv (.tmp 8)) none [],.mk (some 33) (.call 37 [.tmp 31,.tmp 32]) none [0,1],.mk (some 9) (.alloc [.slice none 0 0,.slice none 0 0]) none [],.mk none (.store 2 (.tmp 9) (.tmp 33)) none [3,2,2,0,1,2,3]]
def l7r11:List AOper :=
  [.mk (some 34) (.load true 2 (.tmp 9)) none [],.mk (some 35) (.load true 2 (.tmp 6)) none [],.mk (some 36) (.call 19 [.tmp 34,.tmp 35]) none [0,1],.mk (some 37) (.un .not (.tmp 36)) none [2]]
def l7r12:List AOper :=
  [.mk (some 4) (.mv (.const (.bool false))) none []]
def l7r13a:List AOper :=
  [.mk (some 38) (.load true 2 (.tmp 7)) none [],.mk (some 39) (.load true 2 (.tmp 2)) none [],.mk (some 40) (.call 32 [.tmp 39]) none [1]]
def l7r13b:List AOper :=
  [.mk (some 41) (.call 19 [.tmp 38,.tmp 40]) none [0,2,2],.mk (some 42) (.un .not (.tmp 41)) none [3]]
def l7r13:List AOper:=l7r13a ++ l7r13b
def l7r14:List AOper :=
  [.mk (some 4) (.mv (.const (.bool false))) none []]
def l7r15:List AOper :=
  [.mk (some 43) (.mv (.tmp 8)) none [],.mk (some 44) (.mv (.tmp 1)) none [],.mk (some 45) (.call 17 [.tmp 44]) none [1],.mk (some 46) (.call 22 [.tmp 43,.tmp 45]) none [0,2,2],.mk (some 47) (.un .not (.tmp 46)) none [3]]
def l7r16:List AOper :=
  [.mk (some 4) (.mv (.const (.bool false))) none []]
def l7r17:List AOper :=
  [.mk (some 10) (.mv (.const (.int .i64 1))) none []]
def l7r18:List AOper :=
  [.mk (some 48) (.load true 2 (.tmp 7)) none [],.mk (some 49) (.mv (.tmp 10)) none [],.mk (some 50) (.call 26 [.tmp 48,.tmp 49]) none [0,1],.mk (some 10) (.mv (.tmp 50)) none [2,2,0,1,2]]
def l7r19:List AOper :=
  [.mk (some 51) (.mv (.tmp 8)) none [],.mk (some 52) (.mv (.tmp 10)) none [],.mk (some 53) (.call 25 [.tmp 51,.tmp 52]) none [0,1],.mk (some 10) (.mv (.tmp 53)) none [2,2,0,1,2]]
def l7r20:List AOper :=
  [.mk (some 54) (.mv (.tmp 10)) none [],.mk (some 55) (.bin .lss (.tmp 54) (.const (.int .i64 0))) none [0],.mk (some 56) (.mv (.tmp 55)) none [1],.mk (some 57) (.load true 2 (.tmp 9)) (some (56,false)) [2],.mk (some 58) (.load true 2 (.tmp 6)) (some (56,false)) [2],.mk (some 59) (.call 19 [.tmp 57,.tmp 58]) (some (56,false)) [3,4,2,2],.mk (some 60) (.un .not (.tmp 59)) (some (56,false)) [5,2],.mk (some 61) (.pick (.tmp 56) (.const (.bool true)) (.tmp 60)) none [2,6]]
def l7r21:List AOper :=
  [.mk (some 4) (.mv (.const (.bool false))) none []]
def l7r22:List AOper :=
  [.mk (some 11) (.mv (.const (.int .i64 1))) none []]
def l7r23:List AOper :=
  [.mk (some 62) (.load true 2 (.tmp 9)) none [],.mk (some 63) (.mv (.tmp 11)) none [],.mk (some 64) (.call 26 [.tmp 62,.tmp 63]) none [0,1],.mk (some 11) (.mv (.tmp 64)) none [2,2,0,1,2]]
def l7r24:List AOper :=
  [.mk (some 12) (.mv (.const (.int .i64 1))) none []]
def l7r25:List AOper :=
  [.mk (some 65) (.load true 2 (.tmp 9)) none [],.mk (some 66) (.mv (.tmp 12)) none [],.mk (some 67) (.call 27 [.tmp 65,.tmp 66]) none [0,1],.mk (some 12) (.mv (.tmp 67)) none [2,2,0,1,2]]
def l7r26:List AOper :=
  [.mk (some 68) (.mv (.tmp 12)) none [],.mk (some 69) (.bin .lss (.tmp 68) (.const (.int .i64 0))) none [0]]
def l7r27:List AOper :=
  [.mk (some 4) (.mv (.const (.bool false))) none []]
def l7r28:List AOper :=
  [.mk (some 70) (.mv (.tmp 12)) none [],.mk (some 71) (.mv (.tmp 11)) none [],.mk (some 72) (.bin .neq (.tmp 70) (.tmp 71)) none [0,1]]
def l7r29:List AOper :=
  [.mk (some 4) (.mv (.const (.bool false))) none []]
def l7r30:List AOper :=
  [.mk (some 73) (.load true 2 (.tmp 2)) none [],.mk (some 74) (.call 32 [.tmp 73]) none [0],.mk (some 75) (.mv (.tmp 1)) none [],.mk (some 76) (.call 17 [.tmp 75]) none [2,1],.mk (some 77) (.call 37 [.tmp 74,.tmp 76]) none [1,3,3],.mk (some 13) (.alloc [.slice none 0 0,.slice none 0 0]) none [],.mk none (.store 2 (.tmp 13) (.tmp 77)) none [5,4,4,0,1,2,3,4,5]]
def l7r31:List AOper :=
  [.mk (some 78) (.load true 2 (.tmp 13)) none [],.mk (some 79) (.load true 2 (.tmp 6)) none [],.mk (some 80) (.call 19 [.tmp 78,.tmp 79]) none [0,1],.mk (some 81) (.un .not (.tmp 80)) none [2]]
def l7r32:List AOper :=
  [.mk (some 4) (.mv (.const (.bool false))) none []]
def l7r33:List AOper :=
  [.mk (some 12) (.mv (.const (.int .i64 1))) none []]
def l7r34:List AOper :=
  [.mk (some 82) (.load true 2 (.tmp 9)) none [],.mk (some 83) (.mv (.tmp 12)) none [],.mk (some 84) (.call 27 [.tmp 82,.tmp 83]) none [0,1],.mk (some 12) (.mv (.tmp 84)) none [2,2,0,1,2]]
def l7r35:List AOper :=
  [.mk (some 85) (.mv (.tmp 12)) none [],.mk (some 86) (.bin .lss (.tmp 85) (.const (.int .i64 0))) none [0]]
def l7r36:List AOper :=
  [.mk (some 4) (.mv (.const (.bool false))) none []]
def l7r37:List AOper :=
  [.mk (some 87) (.mv (.tmp 12)) none [],.mk (some 88) (.mv (.tmp 11)) none [],.mk (some 89) (.bin .neq (.tmp 87) (.tmp 88)) none [0,1]]
def l7r38:List AOper :=
  [.mk (some 4) (.mv (.const (.bool false))) none []]
def l7r39:List AOper :=
  [.mk (some 4) (.mv (.const (.bool true))) none []]
def l7:AFn :=
  (AFn.mk 90 2 (.seq (.reg l7r0) (.seq (.seq (.reg l7r1) (.cond (.tmp 16) (.seq (.reg l7r2) .ret) .skip)) (.seq (.reg l7r3) (.seq (.reg l7r4) (.seq (.seq (.reg l7r5) (.cond (.tmp 21) (.seq (.reg l7r6) .ret) .skip)) (.seq (.reg l7r7) (.seq (.reg l7r8) (.seq (.reg l7r9) (.seq (.reg l7r10) (.seq (.seq (.reg l7r11) (.cond (.tmp 37) (.seq (.reg l7r12) .ret) .skip)) (.seq (.seq (.draw l7r13) (.cond (.tmp 42) (.seq (.reg l7r14) .ret) .skip)) (.seq (.seq (.reg l7r15) (.cond (.tmp 47) (.seq (.reg l7r16) .ret) .skip)) (.seq (.reg l7r17) (.seq (.reg l7r18) (.seq (.reg l7r19) (.seq (.seq (.reg l7r20) (.cond (.tmp 61) (.seq (.reg l7r21) .ret) .skip)) (.seq (.reg l7r22) (.seq (.reg l7r23) (.seq (.reg l7r24) (.seq (.reg l7r25) (.seq (.seq (.reg l7r26) (.cond (.tmp 69) (.seq (.reg l7r27) .ret) .skip)) (.seq (.seq (.reg l7r28) (.cond (.tmp 72) (.seq (.reg l7r29) .ret) .skip)) (.seq (.reg l7r30) (.seq (.seq (.reg l7r31) (.cond (.tmp 81) (.seq (.reg l7r32) .ret) .skip)) (.seq (.reg l7r33) (.seq (.reg l7r34) (.seq (.seq (.reg l7r35) (.cond (.tmp 86) (.seq (.reg l7r36) .ret) .skip)) (.seq (.seq (.reg l7r37) (.cond (.tmp 89) (.seq (.reg l7r38) .ret) .skip)) (.seq (.reg l7r39) .ret))))))))))))))))))))))))))))) [.tmp 4])
theorem l7_eq:lowFn Try.prog 7=some l7:=by kernel_rfl
def l17r0:List AOper :=
  [.mk (some 2) (.mv (.const (.slice none 0 0))) none []]
def l17r1:List AOper :=
  [.mk (some 5) (.mv (.tmp 0)) none [],.mk (some 6) (.len (.tmp 5)) none [0],.mk (some 7) (.mkslice 1 [.int .i64 0] (.tmp 6) (.tmp 6)) none [1,1],.mk (some 3) (.mv (.tmp 7)) none [2,0,1,2]]
def l17r2:List AOper :=
  [.mk (some 4) (.mv (.const (.int .i64 0))) none []]
def l17r3:List AOper :=
  [.mk (some 8) (.mv (.tmp 4)) none [],.mk (some 9) (.mv (.tmp 0)) none [],.mk (some 10) (.len (.tmp 9)) none [1],.mk (some 11) (.bin .lss (.tmp 8) (.tmp 10)) none [0,2]]
def l17r4:List AOper :=
  [.mk (some 14) (.mv (.tmp 3)) none [],.mk (some 15) (.mv (.tmp 4)) none [],.mk (some 16) (.mv (.tmp 0)) none [],.mk (some 17) (.mv (.tmp 4)) none [],.mk (some 18) (.idxA 1 (.tmp 16) (.tmp 17)) none [2,3],.mk (some 19) (.load false 1 (.tmp 18)) none [4],.mk (some 20) (.idxA 1 (.tmp 14) (.tmp 15)) none [0,1,0,1,2,3,4,5],.mk none (.store 1 (.tmp 20) (.tmp 19)) none [6,5,0,1,2,3,4,5]]
def l17r5:List AOper :=
  [.mk (some 12) (.mv (.tmp 4)) none [],.mk (some 13) (.bin .add (.tmp 12) (.const (.int .i64 1))) none [0],.mk (some 4) (.mv (.tmp 13)) none [1,0,1]]
def l17r6:List AOper :=
  [.mk (some 21) (.mv (.tmp 3)) none [],.mk (some 2) (.mv (.tmp 21)) none [0,0]]
def l17:AFn :=
  (AFn.mk 22 1 (.seq (.reg l17r0) (.seq (.reg l17r1) (.seq (.seq (.reg l17r2) (.block 0 (.loop (.seq (.seq (.reg l17r3) (.cond (.tmp 11) .skip (.exit 0))) (.seq (.block 1 (.reg l17r4)) (.reg l17r5)))))) (.seq (.reg l17r6) .ret)))) [.tmp 2])
theorem l17_eq:lowFn Try.prog 17=some l17:=by kernel_rfl
def l18r0:List AOper :=
  [.mk (some 6) (.alloc [.slice none 0 0,.slice none 0 0]) none [],.mk (some 7) (.mv (.const (.bool false))) none []]
def l18r1:List AOper :=
  [.mk (some 12) (.mv (.tmp 0)) none [],.mk (some 13) (.mv (.tmp 1)) none [],.mk (some 14) (.mv (.tmp 2)) none [],.mk (some 15) (.call 54 [.tmp 12,.tmp 13,.tmp 14]) none [0,1,2],.mk (some 11) (.mv (.tmp 15)) none [3],.mk (some 16) (.extract (.tmp 11) 0) none [4],.mk (some 17) (.extract (.tmp 11) 1) none [4],.mk (some 8) (.alloc [.int .i64 0,.int .i64 0,.int .i64 0,.int .i64 0,.int .i64 0]) none [],.mk none (.store 5 (.tmp 8) (.tmp 16)) none [7,5,3,0,1,2,3,4,5,7],.mk (some 9) (.mv (.tmp 17)) none [6,8,0,1,2,3,4,5,6,7,8]]
def l18r2:List AOper :=
  [.mk (some 18) (.mv (.tmp 9)) none [],.mk (some 19) (.un .not (.tmp 18)) none [0],.mk (some 20) (.mv (.tmp 19)) none [1],.mk (some 21) (.mv (.tmp 2)) (some (20,false)) [2],.mk (some 22) (.bslice 1 [.slice none 0 0] [(0,.tmp 21)] 1) (some (20,false)) [3,2],.mk (some 23) (.call 55 [.tmp 22]) (some (20,false)) [4,2,2],.mk (some 24) (.len (.tmp 23)) (some (20,false)) [5,2],.mk (some 25) (.mv (.tmp 2)) (some (20,false)) [2],.mk (some 26) (.len (.tmp 25)) (some (20,false)) [7,2],.mk (some 27) (.bin .lss (.tmp 24) (.tmp 26)) (some (20,false)) [6,8,2],.mk (some 28) (.pick (.tmp 20) (.const (.bool true)) (.tmp 27)) none [2,9],.mk (some 29) (.mv (.tmp 28)) none [10,5],.mk (some 30) (.load true 5 (.tmp 8)) (some (29,false)) [11],.mk (some 31) (.mv (.tmp 1)) (some (29,false)) [11],.mk (some 32) (.call 56 [.tmp 30,.tmp 31]) (some (29,false)) [12,13,11,11],.mk (some 33) (.bin .gtr (.tmp 32) (.const (.int .i64 4000))) (some (29,false)) [14,11],.mk (some 34) (.pick (.tmp 29) (.const (.bool true)) (.tmp 33)) none [11,15]]
def l18r3:List AOper :=
  [.mk (some 35) (.build [.slice none 0 0,.slice none 0 0] []) none [],.mk none (.store 2 (.tmp 6) (.tmp 35)) none [0,0],.mk (some 7) (.mv (.const (.bool false))) none [1,0,1]]
def l18r4:List AOper :=
  [.mk (some 36) (.load true 5 (.tmp 8)) none [],.mk (some 37) (.mv (.tmp 2)) none [],.mk (some 38) (.call 57 [.tmp 36,.tmp 37]) none [0,1],.mk (some 39) (.build [.slice none 0 0,.slice none 0 0] [(0,1,.tmp 38)]) none [2],.mk (some 10) (.alloc [.slice none 0 0,.slice none 0 0]) none [],.mk none (.store 2 (.tmp 10) (.tmp 39)) none [4,3,2,0,1,2,3,4]]
def l18r5:List AOper :=
  [.mk (some 40) (.fld 0 (.tmp 10)) none [],.mk (some 41) (.load false 1 (.tmp 40)) none [0],.mk (some 42) (.call 58 [.tmp 41]) none [1],.mk (some 43) (.un .not (.tmp 42)) none [2]]
def l18r6:List AOper :=
  [.mk (some 44) (.build [.slice none 0 0,.slice none 0 0] []) none [],.mk none (.store 2 (.tmp 6) (.tmp 44)) none [0,0],.mk (some 7) (.mv (.const (.bool false))) none [1,0,1]]
def l18r7:List AOper :=
  [.mk (some 45) (.load true 5 (.tmp 8)) none [],.mk (some 46) (.mv (.tmp 0)) none [],.mk (some 47) (.mv (.tmp 1)) none [],.mk (some 48) (.mv (.tmp 2)) none [],.mk (some 49) (.call 59 [.tmp 45,.tmp 46,.tmp 47,.tmp 48]) none [0,1,2,3],.mk (some 50) (.fld 1 (.tmp 10)) none [0,1,2,3,4],.mk none (.store 1 (.tmp 50) (.tmp 49)) none [5,4,4,0,1,2,3,4]]
def l18r8:List AOper :=
  [.mk (some 51) (.load true 2 (.tmp 10)) none [],.mk (some 52) (.call 60 [.tmp 51]) none [0],.mk (some 53) (.un .not (.tmp 52)) none [1]]
def l18r9:List AOper :=
  [.mk (some 54) (.build [.slice none 0 0,.slice none 0 0] []) none [],.mk none (.store 2 (.tmp 6) (.tmp 54)) none [0,0],.mk (some 7) (.mv (.const (.bool false))) none [1,0,1]]
def l18r10:List AOper :=
  [.mk (some 55) (.load true 2 (.tmp 10)) none [],.mk none (.store 2 (.tmp 6) (.tmp 55)) none [0,0],.mk (some 7) (.mv (.const (.bool true))) none [1,0,1]]
def l18:AFn :=
  (AFn.mk 56 3 (.seq (.reg l18r0) (.seq (.reg l18r1) (.seq (.seq (.reg l18r2) (.cond (.tmp 34) (.seq (.reg l18r3) .ret) .skip)) (.seq (.reg l18r4) (.seq (.seq (.reg l18r5) (.cond (.tmp 43) (.seq (.reg l18r6) .ret) .skip)) (.seq (.reg l18r7) (.seq (.seq (.reg l18r8) (.cond (.tmp 53) (.seq (.reg l18r9) .ret) .skip)) (.seq (.reg l18r10) .ret)))))))) [.cell 6 true 2,.tmp 7])
theorem l18_eq:lowFn Try.prog 18=some l18:=by kernel_rfl
def l19r0:List AOper :=
  [.mk (some 2) (.box (.tmp 0)) none [],.mk (some 3) (.box (.tmp 1)) none [],.mk (some 4) (.mv (.const (.bool false))) none []]
def l19r1:List AOper :=
  [.mk (some 5) (.fld 0 (.tmp 2)) none [],.mk (some 6) (.load false 1 (.tmp 5)) none [0],.mk (some 7) (.fld 0 (.tmp 3)) none [],.mk (some 8) (.load false 1 (.tmp 7)) none [2],.mk (some 9) (.call 22 [.tmp 6,.tmp 8]) none [1,3],.mk (some 10) (.un .not (.tmp 9)) none [4]]
def l19r2:List AOper :=
  [.mk (some 4) (.mv (.const (.bool false))) none []]
def l19r3:List AOper :=
  [.mk (some 11) (.fld 1 (.tmp 2)) none [],.mk (some 12) (.load false 1 (.tmp 11)) none [0],.mk (some 13) (.fld 1 (.tmp 3)) none [],.mk (some 14) (.load false 1 (.tmp 13)) none [2],.mk (some 15) (.call 22 [.tmp 12,.tmp 14]) none [1,3],.mk (some 16) (.un .not (.tmp 15)) none [4]]
def l19r4:List AOper :=
  [.mk (some 4) (.mv (.const (.bool false))) none []]
def l19r5:List AOper :=
  [.mk (some 4) (.mv (.const (.bool true))) none []]
def l19:AFn :=
  (AFn.mk 17 2 (.seq (.reg l19r0) (.seq (.seq (.reg l19r1) (.cond (.tmp 10) (.seq (.reg l19r2) .ret) .skip)) (.seq (.seq (.reg l19r3) (.cond (.tmp 16) (.seq (.reg l19r4) .ret) .skip)) (.seq (.reg l19r5) .ret)))) [.tmp 4])
theorem l19_eq:lowFn Try.prog 19=some l19:=by kernel_rfl
def l22r0:List AOper :=
  [.mk (some 4) (.mv (.const (.bool false))) none []]
def l22r1:List AOper :=
  [.mk (some 6) (.mv (.tmp 0)) none [],.mk (some 7) (.len (.tmp 6)) none [0],.mk (some 8) (.mv (.tmp 1)) none [],.mk (some 9) (.len (.tmp 8)) none [2],.mk (some 10) (.bin .neq (.tmp 7) (.tmp 9)) none [1,3]]
def l22r2:List AOper :=
  [.mk (some 4) (.mv (.const (.bool false))) none []]
def l22r3:List AOper :=
  [.mk (some 5) (.mv (.const (.int .i64 0))) none []]
def l22r4:List AOper :=
  [.mk (some 11) (.mv (.tmp 5)) none [],.mk (some 12) (.mv (.tmp 0)) none [],.mk (some 13) (.len (.tmp 12)) none [1],.mk (some 14) (.bin .lss (.tmp 11) (.tmp 13)) none [0,2]]
def l22r5a:List AOper :=
  [.mk (some 17) (.mv (.tmp 0)) none [],.mk (some 18) (.mv (.tmp 5)) none [],.mk (some 19) (.idxA 1 (.tmp 17) (.tmp 18)) none [0,1],.mk (some 20) (.load false 1 (.tmp 19)) none [2],.mk (some 21) (.mv (.tmp 1)) none [],.mk (some 22) (.mv (.tmp 5)) none [],.mk (some 23) (.idxA 1 (.tmp 21) (.tmp 22)) none [4,5],.mk (some 24) (.load false 1 (.tmp 23)) none [6]]
def l22r5b:List AOper :=
  [.mk (some 25) (.bin .neq (.tmp 20) (.tmp 24)) none [3,7]]
def l22r5:List AOper:=l22r5a ++ l22r5b
def l22r6:List AOper :=
  [.mk (some 4) (.mv (.const (.bool false))) none []]
def l22r7:List AOper :=
  [.mk (some 15) (.mv (.tmp 5)) none [],.mk (some 16) (.bin .add (.tmp 15) (.const (.int .i64 1))) none [0],.mk (some 5) (.mv (.tmp 16)) none [1,0,1]]
def l22r8:List AOper :=
  [.mk (some 4) (.mv (.const (.bool true))) none []]
def l22:AFn :=
  (AFn.mk 26 2 (.seq (.reg l22r0) (.seq (.seq (.reg l22r1) (.cond (.tmp 10) (.seq (.reg l22r2) .ret) .skip)) (.seq (.seq (.reg l22r3) (.block 0 (.loop (.seq (.seq (.reg l22r4) (.cond (.tmp 14) .skip (.exit 0))) (.seq (.block 1 (.seq (.draw l22r5) (.cond (.tmp 25) (.seq (.reg l22r6) .ret) .skip))) (.reg l22r7)))))) (.seq (.reg l22r8) .ret)))) [.tmp 4])
theorem l22_eq:lowFn Try.prog 22=some l22:=by kernel_rfl
def l25r0:List AOper :=
  [.mk (some 4) (.mv (.const (.int .i64 0))) none []]
def l25r1:List AOper :=
  [.mk (some 5) (.mv (.const (.int .i64 0))) none []]
def l25r2:List AOper :=
  [.mk (some 6) (.mv (.tmp 5)) none [],.mk (some 7) (.mv (.tmp 0)) none [],.mk (some 8) (.len (.tmp 7)) none [1],.mk (some 9) (.bin .lss (.tmp 6) (.tmp 8)) none [0,2]]
def l25r3:List AOper :=
  [.mk (some 12) (.mv (.tmp 0)) none [],.mk (some 13) (.mv (.tmp 5)) none [],.mk (some 14) (.mv (.tmp 1)) none [],.mk (some 15) (.idxA 1 (.tmp 12) (.tmp 13)) none [0,1,0,1,2],.mk none (.store 1 (.tmp 15) (.tmp 14)) none [3,2,0,1,2]]
def l25r4:List AOper :=
  [.mk (some 16) (.mv (.tmp 1)) none [],.mk (some 17) (.bin .add (.tmp 16) (.const (.int .i64 1))) none [0],.mk (some 1) (.mv (.tmp 17)) none [1,0,1]]
def l25r5:List AOper :=
  [.mk (some 10) (.mv (.tmp 5)) none [],.mk (some 11) (.bin .add (.tmp 10) (.const (.int .i64 1))) none [0],.mk (some 5) (.mv (.tmp 11)) none [1,0,1]]
def l25r6:List AOper :=
  [.mk (some 18) (.mv (.tmp 1)) none [],.mk (some 4) (.mv (.tmp 18)) none [0,0]]
def l25:AFn :=
  (AFn.mk 19 2 (.seq (.reg l25r0) (.seq (.seq (.reg l25r1) (.block 0 (.loop (.seq (.seq (.reg l25r2) (.cond (.tmp 9) .skip (.exit 0))) (.seq (.block 1 (.seq (.reg l25r3) (.reg l25r4))) (.reg l25r5)))))) (.seq (.reg l25r6) .ret))) [.tmp 4])
theorem l25_eq:lowFn Try.prog 25=some l25:=by kernel_rfl
def l26r0:List AOper :=
  [.mk (some 2) (.box (.tmp 0)) none [],.mk (some 4) (.mv (.const (.int .i64 0))) none []]
def l26r1:List AOper :=
  [.mk (some 5) (.fld 0 (.tmp 2)) none [],.mk (some 6) (.load false 1 (.tmp 5)) none [0],.mk (some 7) (.mv (.tmp 1)) none [],.mk (some 8) (.call 25 [.tmp 6,.tmp 7]) none [1,2],.mk (some 1) (.mv (.tmp 8)) none [3,3,0,1,2,3]]
def l26r2:List AOper :=
  [.mk (some 9) (.fld 1 (.tmp 2)) none [],.mk (some 10) (.load false 1 (.tmp 9)) none [0],.mk (some 11) (.mv (.tmp 1)) none [],.mk (some 12) (.call 25 [.tmp 10,.tmp 11]) none [1,2],.mk (some 1) (.mv (.tmp 12)) none [3,3,0,1,2,3]]
def l26r3:List AOper :=
  [.mk (some 13) (.mv (.tmp 1)) none [],.mk (some 4) (.mv (.tmp 13)) none [0,0]]
def l26:AFn :=
  (AFn.mk 14 2 (.seq (.reg l26r0) (.seq (.reg l26r1) (.seq (.reg l26r2) (.seq (.reg l26r3) .ret)))) [.tmp 4])
theorem l26_eq:lowFn Try.prog 26=some l26:=by kernel_rfl
def l27r0:List AOper :=
  [.mk (some 2) (.box (.tmp 0)) none [],.mk (some 4) (.mv (.const (.int .i64 0))) none []]
def l27r1:List AOper :=
  [.mk (some 5) (.fld 0 (.tmp 2)) none [],.mk (some 6) (.load false 1 (.tmp 5)) none [0],.mk (some 7) (.mv (.tmp 1)) none [],.mk (some 8) (.call 42 [.tmp 6,.tmp 7]) none [1,2],.mk (some 1) (.mv (.tmp 8)) none [3,3,0,1,2,3]]
def l27r2:List AOper :=
  [.mk (some 9) (.mv (.tmp 1)) none [],.mk (some 10) (.bin .lss (.tmp 9) (.const (.int .i64 0))) none [0]]
def l27r3:List AOper :=
  [.mk (some 4) (.mv (.const (.int .i64 (-1)))) none []]
def l27r4:List AOper :=
  [.mk (some 11) (.fld 1 (.tmp 2)) none [],.mk (some 12) (.load false 1 (.tmp 11)) none [0],.mk (some 13) (.mv (.tmp 1)) none [],.mk (some 14) (.call 42 [.tmp 12,.tmp 13]) none [1,2],.mk (some 1) (.mv (.tmp 14)) none [3,3,0,1,2,3]]
def l27r5:List AOper :=
  [.mk (some 15) (.mv (.tmp 1)) none [],.mk (some 16) (.bin .lss (.tmp 15) (.const (.int .i64 0))) none [0]]
def l27r6:List AOper :=
  [.mk (some 4) (.mv (.const (.int .i64 (-1)))) none []]
def l27r7:List AOper :=
  [.mk (some 17) (.mv (.tmp 1)) none [],.mk (some 4) (.mv (.tmp 17)) none [0,0]]
def l27:AFn :=
  (AFn.mk 18 2 (.seq (.reg l27r0) (.seq (.reg l27r1) (.seq (.seq (.reg l27r2) (.cond (.tmp 10) (.seq (.reg l27r3) .ret) .skip)) (.seq (.reg l27r4) (.seq (.seq (.reg l27r5) (.cond (.tmp 16) (.seq (.reg l27r6) .ret) .skip)) (.seq (.reg l27r7) .ret)))))) [.tmp 4])
theorem l27_eq:lowFn Try.prog 27=some l27:=by kernel_rfl
def l30r0:List AOper :=
  [.mk (some 2) (.box (.tmp 0)) none [],.mk (some 4) (.mv (.const (.int .i64 0))) none []]
def l30r1:List AOper :=
  [.mk (some 5) (.fld 0 (.tmp 2)) none [],.mk (some 6) (.load false 1 (.tmp 5)) none [0],.mk (some 7) (.mv (.tmp 1)) none [],.mk (some 8) (.call 51 [.tmp 6,.tmp 7]) none [1,2],.mk (some 1) (.mv (.tmp 8)) none [3,3,0,1,2,3]]
def l30r2:List AOper :=
  [.mk (some 9) (.mv (.tmp 1)) none [],.mk (some 10) (.bin .lss (.tmp 9) (.const (.int .i64 0))) none [0]]
def l30r3:List AOper :=
  [.mk (some 4) (.mv (.const (.int .i64 (-1)))) none []]
def l30r4:List AOper :=
  [.mk (some 11) (.fld 1 (.tmp 2)) none [],.mk (some 12) (.load false 1 (.tmp 11)) none [0],.mk (some 13) (.mv (.tmp 1)) none [],.mk (some 14) (.call 51 [.tmp 12,.tmp 13]) none [1,2],.mk (some 1) (.mv (.tmp 14)) none [3,3,0,1,2,3]]
def l30r5:List AOper :=
  [.mk (some 15) (.mv (.tmp 1)) none [],.mk (some 16) (.bin .lss (.tmp 15) (.const (.int .i64 0))) none [0]]
def l30r6:List AOper :=
  [.mk (some 4) (.mv (.const (.int .i64 (-1)))) none []]
def l30r7:List AOper :=
  [.mk (some 17) (.mv (.tmp 1)) none [],.mk (some 4) (.mv (.tmp 17)) none [0,0]]
def l30:AFn :=
  (AFn.mk 18 2 (.seq (.reg l30r0) (.seq (.reg l30r1) (.seq (.seq (.reg l30r2) (.cond (.tmp 10) (.seq (.reg l30r3) .ret) .skip)) (.seq (.reg l30r4) (.seq (.seq (.reg l30r5) (.cond (.tmp 16) (.seq (.reg l30r6) .ret) .skip)) (.seq (.reg l30r7) .ret)))))) [.tmp 4])
theorem l30_eq:lowFn Try.prog 30=some l30:=by kernel_rfl
def l32r0:List AOper :=
  [.mk (some 1) (.box (.tmp 0)) none [],.mk (some 2) (.alloc [.slice none 0 0,.slice none 0 0]) none []]
def l32r1:List AOper :=
  [.mk (some 3) (.alloc [.slice none 0 0,.slice none 0 0]) none []]
def l32r2:List AOper :=
  [.mk (some 4) (.fld 0 (.tmp 1)) none [],.mk (some 5) (.load false 1 (.tmp 4)) none [0],.mk (some 6) (.call 17 [.tmp 5]) none [1],.mk (some 7) (.fld 0 (.tmp 3)) none [0,1,2],.mk none (.store 1 (.tmp 7) (.tmp 6)) none [3,2,2,0,1,2]]
def l32r3:List AOper :=
  [.mk (some 8) (.fld 1 (.tmp 1)) none [],.mk (some 9) (.load false 1 (.tmp 8)) none [0],.mk (some 10) (.call 17 [.tmp 9]) none [1],.mk (some 11) (.fld 1 (.tmp 3)) none [0,1,2],.mk none (.store 1 (.tmp 11) (.tmp 10)) none [3,2,2,0,1,2]]
def l32r4:List AOper :=
  [.mk (some 12) (.load true 2 (.tmp 3)) none [],.mk none (.store 2 (.tmp 2) (.tmp 12)) none [0,0]]
def l32:AFn :=
  (AFn.mk 13 1 (.seq (.reg l32r0) (.seq (.reg l32r1) (.seq (.reg l32r2) (.seq (.reg l32r3) (.seq (.reg l32r4) .ret))))) [.cell 2 true 2])
theorem l32_eq:lowFn Try.prog 32=some l32:=by kernel_rfl
def l36r0:List AOper :=
  [.mk (some 2) (.box (.tmp 0)) none [],.mk (some 4) (.alloc [.slice none 0 0,.slice none 0 0]) none []]
def l36r1:List AOper :=
  [.mk (some 6) (.load true 2 (.tmp 2)) none [],.mk (some 7) (.call 69 [.tmp 6]) none [0],.mk (some 8) (.un .not (.tmp 7)) none [1],.mk (some 9) (.mv (.tmp 8)) none [2,1],.mk (some 10) (.mv (.tmp 1)) (some (9,false)) [3],.mk (some 11) (.fld 0 (.tmp 2)) (some (9,false)) [3],.mk (some 12) (.load false 1 (.tmp 11)) (some (9,false)) [5,3],.mk (some 13) (.len (.tmp 12)) (some (9,false)) [6,3],.mk (some 14) (.call 70 [.tmp 10,.tmp 13]) (some (9,false)) [4,7,3,3],.mk (some 15) (.un .not (.tmp 14)) (some (9,false)) [8,3],.mk (some 16) (.pick (.tmp 9) (.const (.bool true)) (.tmp 15)) none [3,9]]
def l36r2:List AOper :=
  [.mk (some 17) (.build [.slice none 0 0,.slice none 0 0] []) none [],.mk none (.store 2 (.tmp 4) (.tmp 17)) none [0,0]]
def l36r3a:List AOper :=
  [.mk (some 18) (.fld 0 (.tmp 2)) none [],.mk (some 19) (.load false 1 (.tmp 18)) none [0],.mk (some 20) (.fld 0 (.tmp 2)) none [],.mk (some 21) (.load false 1 (.tmp 20)) none [2],.mk (some 22) (.call 72 [.tmp 21]) none [3],.mk (some 23) (.build [.int .i64 0,.slice none 0 0,.slice none 0 0] [(1,1,.tmp 19),(2,1,.tmp 22)]) none [1,4],.mk (some 24) (.mv (.tmp 1)) none [],.mk (some 25) (.call 71 [.tmp 23,.tmp 24]) none [5,6,4],.mk (some 5) (.alloc [.int .i64 0,.slice none 0 0,.slice none 0 0]) none []]
def l36r3b:List AOper :=
  [.mk none (.store 3 (.tmp 5) (.tmp 25)) none [8,7,7,0,1,2,3,4,5,6,7,8]]
def l36r3:List AOper:=l36r3a ++ l36r3b
def l36r4a:List AOper :=
  [.mk (some 26) (.fld 1 (.tmp 5)) none [],.mk (some 27) (.load false 1 (.tmp 26)) none [0],.mk (some 28) (.call 73 [.tmp 27]) none [1],.mk (some 29) (.fld 1 (.tmp 2)) none [],.mk (some 30) (.load false 1 (.tmp 29)) none [3],.mk (some 31) (.load true 3 (.tmp 5)) none []]
def l36r4b:List AOper :=
  [.mk (some 32) (.call 74 [.tmp 30,.tmp 31]) none [4,5,2],.mk (some 33) (.build [.slice none 0 0,.slice none 0 0] [(0,1,.tmp 28),(1,1,.tmp 32)]) none [2,6],.mk none (.store 2 (.tmp 4) (.tmp 33)) none [7,6,0,1,2,3,4,5,6,7]]
def l36r4:List AOper:=l36r4a ++ l36r4b
def l36:AFn :=
  (AFn.mk 34 2 (.seq (.reg l36r0) (.seq (.seq (.reg l36r1) (.cond (.tmp 16) (.seq (.reg l36r2) .ret) .skip)) (.seq (.draw l36r3) (.seq (.draw l36r4) .ret)))) [.cell 4 true 2])
theorem l36_eq:lowFn Try.prog 36=some l36:=by kernel_rfl
def l37r0:List AOper :=
  [.mk (some 2) (.box (.tmp 0)) none [],.mk (some 4) (.alloc [.slice none 0 0,.slice none 0 0]) none []]
def l37r1:List AOper :=
  [.mk (some 8) (.load true 2 (.tmp 2)) none [],.mk (some 9) (.call 60 [.tmp 8]) none [0],.mk (some 10) (.un .not (.tmp 9)) none [1],.mk (some 11) (.mv (.tmp 10)) none [2,1],.mk (some 12) (.mv (.tmp 1)) (some (11,false)) [3],.mk (some 13) (.fld 0 (.tmp 2)) (some (11,false)) [3],.mk (some 14) (.load false 1 (.tmp 13)) (some (11,false)) [5,3],.mk (some 15) (.len (.tmp 14)) (some (11,false)) [6,3],.mk (some 16) (.call 75 [.tmp 12,.tmp 15]) (some (11,false)) [4,7,3,3],.mk (some 17) (.un .not (.tmp 16)) (some (11,false)) [8,3],.mk (some 18) (.pick (.tmp 11) (.const (.bool true)) (.tmp 17)) none [3,9]]
def l37r2:List AOper :=
  [.mk (some 19) (.build [.slice none 0 0,.slice none 0 0] []) none [],.mk none (.store 2 (.tmp 4) (.tmp 19)) none [0,0]]
def l37r3:List AOper :=
  [.mk (some 20) (.fld 0 (.tmp 2)) none [],.mk (some 21) (.load false 1 (.tmp 20)) none [0],.mk (some 22) (.len (.tmp 21)) none [1],.mk (some 23) (.call 76 [.const (.int .i64 0),.const (.int .i64 1),.tmp 22]) none [2],.mk (some 24) (.call 77 [.tmp 23]) none [3,3],.mk (some 5) (.mv (.tmp 24)) none [4,4,0,1,2,3,4]]
def l37r4:List AOper :=
  [.mk (some 26) (.load true 2 (.tmp 2)) none [],.mk (some 27) (.bslice 2 [.slice none 0 0,.slice none 0 0] [(0,.tmp 26)] 1) none [0],.mk (some 28) (.mv (.tmp 5)) none [],.mk (some 29) (.bslice 1 [.slice none 0 0] [(0,.tmp 28)] 1) none [2],.mk (some 30) (.mv (.tmp 1)) none [],.mk (some 31) (.call 18 [.tmp 27,.tmp 29,.tmp 30]) none [1,3,4],.mk (some 25) (.mv (.tmp 31)) none [5],.mk (some 32) (.extract (.tmp 25) 0) none [6],.mk (some 33) (.extract (.tmp 25) 1) none [6],.mk (some 6) (.alloc [.slice none 0 0,.slice none 0 0]) none [],.mk none (.store 2 (.tmp 6) (.tmp 32)) none [9,7,5,0,1,2,3,4,5,6,7,9],.mk (some 7) (.mv (.tmp 33)) none [8,10,0,1,2,3,4,5,6,7,8,9,10]]
def l37r5:List AOper :=
  [.mk (some 34) (.load true 2 (.tmp 6)) none [],.mk none (.store 2 (.tmp 4) (.tmp 34)) none [0,0]]
def l37:AFn :=
  (AFn.mk 35 2 (.seq (.reg l37r0) (.seq (.seq (.reg l37r1) (.cond (.tmp 18) (.seq (.reg l37r2) .ret) .skip)) (.seq (.reg l37r3) (.seq (.reg l37r4) (.seq (.reg l37r5) .ret))))) [.cell 4 true 2])
theorem l37_eq:lowFn Try.prog 37=some l37:=by kernel_rfl
def l42r0:List AOper :=
  [.mk (some 4) (.mv (.const (.int .i64 0))) none []]
def l42r1:List AOper :=
  [.mk (some 5) (.mv (.const (.int .i64 0))) none []]
def l42r2:List AOper :=
  [.mk (some 6) (.mv (.tmp 5)) none [],.mk (some 7) (.mv (.tmp 0)) none [],.mk (some 8) (.len (.tmp 7)) none [1],.mk (some 9) (.bin .lss (.tmp 6) (.tmp 8)) none [0,2]]
def l42r3:List AOper :=
  [.mk (some 12) (.mv (.tmp 0)) none [],.mk (some 13) (.mv (.tmp 5)) none [],.mk (some 14) (.idxA 1 (.tmp 12) (.tmp 13)) none [0,1],.mk (some 15) (.load false 1 (.tmp 14)) none [2],.mk (some 16) (.mv (.tmp 1)) none [],.mk (some 17) (.bin .neq (.tmp 15) (.tmp 16)) none [3,4]]
def l42r4:List AOper :=
  [.mk (some 4) (.mv (.const (.int .i64 (-1)))) none []]
def l42r5:List AOper :=
  [.mk (some 18) (.mv (.tmp 1)) none [],.mk (some 19) (.bin .add (.tmp 18) (.const (.int .i64 1))) none [0],.mk (some 1) (.mv (.tmp 19)) none [1,0,1]]
def l42r6:List AOper :=
  [.mk (some 10) (.mv (.tmp 5)) none [],.mk (some 11) (.bin .add (.tmp 10) (.const (.int .i64 1))) none [0],.mk (some 5) (.mv (.tmp 11)) none [1,0,1]]
def l42r7:List AOper :=
  [.mk (some 20) (.mv (.tmp 1)) none [],.mk (some 4) (.mv (.tmp 20)) none [0,0]]
def l42:AFn :=
  (AFn.mk 21 2 (.seq (.reg l42r0) (.seq (.seq (.reg l42r1) (.block 0 (.loop (.seq (.seq (.reg l42r2) (.cond (.tmp 9) .skip (.exit 0))) (.seq (.block 1 (.seq (.seq (.reg l42r3) (.cond (.tmp 17) (.seq (.reg l42r4) .ret) .skip)) (.reg l42r5))) (.reg l42r6)))))) (.seq (.reg l42r7) .ret))) [.tmp 4])
theorem l42_eq:lowFn Try.prog 42=some l42:=by kernel_rfl
def l51r0:List AOper :=
  [.mk (some 4) (.mv (.const (.int .i64 0))) none []]
def l51r1:List AOper :=
  [.mk (some 5) (.mv (.tmp 1)) none [],.mk (some 6) (.mv (.tmp 0)) none [],.mk (some 7) (.len (.tmp 6)) none [1],.mk (some 8) (.bin .sub (.tmp 5) (.tmp 7)) none [0,2],.mk (some 1) (.mv (.tmp 8)) none [3,0,1,2,3]]
def l51r2:List AOper :=
  [.mk (some 9) (.mv (.tmp 1)) none [],.mk (some 10) (.bin .lss (.tmp 9) (.const (.int .i64 0))) none [0]]
def l51r3:List AOper :=
  [.mk (some 4) (.mv (.const (.int .i64 (-1)))) none []]
def l51r4:List AOper :=
  [.mk (some 11) (.mv (.tmp 1)) none [],.mk (some 4) (.mv (.tmp 11)) none [0,0]]
def l51:AFn :=
  (AFn.mk 12 2 (.seq (.reg l51r0) (.seq (.reg l51r1) (.seq (.seq (.reg l51r2) (.cond (.tmp 10) (.seq (.reg l51r3) .ret) .skip)) (.seq (.reg l51r4) .ret)))) [.tmp 4])
theorem l51_eq:lowFn Try.prog 51=some l51:=by kernel_rfl
def l54r0:List AOper :=
  [.mk (some 6) (.alloc [.int .i64 0,.int .i64 0,.int .i64 0,.int .i64 0,.int .i64 0]) none [],.mk (some 7) (.mv (.const (.bool false))) none []]
def l54r1:List AOper :=
  [.mk (some 8) (.mv (.tmp 0)) none [],.mk (some 9) (.len (.tmp 8)) none [0],.mk (some 10) (.bin .lss (.tmp 9) (.const (.int .i64 1))) none [1],.mk (some 11) (.mv (.tmp 10)) none [2],.mk (some 12) (.mv (.tmp 0)) (some (11,false)) [3],.mk (some 13) (.len (.tmp 12)) (some (11,false)) [4,3],.mk (some 14) (.bin .gtr (.tmp 13) (.const (.int .i64 3))) (some (11,false)) [5,3],.mk (some 15) (.pick (.tmp 11) (.const (.bool true)) (.tmp 14)) none [3,6],.mk (some 16) (.mv (.tmp 15)) none [7,3],.mk (some 17) (.mv (.tmp 1)) (some (16,false)) [8],.mk (some 18) (.len (.tmp 17)) (some (16,false)) [9,8],.mk (some 19) (.mv (.tmp 0)) (some (16,false)) [8],.mk (some 20) (.len (.tmp 19)) (some (16,false)) [11,8],.mk (some 21) (.bin .neq (.tmp 18) (.tmp 20)) (some (16,false)) [10,12,8],.mk (some 22) (.pick (.tmp 16) (.const (.bool true)) (.tmp 21)) none [8,13],.mk (some 23) (.mv (.tmp 22)) none [14,8],.mk (some 24) (.mv (.tmp 2)) (some (23,false)) [15],.mk (some 25) (.call 96 [.tmp 24]) (some (23,false)) [16,15,15],.mk (some 26) (.un .not (.tmp 25)) (some (23,false)) [17,15],.mk (some 27) (.pick (.tmp 23) (.const (.bool true)) (.tmp 26)) none [15,18]]
def l54r2:List AOper :=
  [.mk (some 28) (.call 97 []) none [],.mk none (.store 5 (.tmp 6) (.tmp 28)) none [0,0,0],.mk (some 7) (.mv (.const (.bool false))) none [1,0,1]]
def l54r3:List AOper :=
  [.mk (some 29) (.mv (.tmp 0)) none [],.mk (some 30) (.mv (.tmp 1)) none [],.mk (some 31) (.call 98 [.tmp 29,.tmp 30]) none [0,1],.mk (some 32) (.extract (.tmp 31) 0) none [2],.mk (some 33) (.extract (.tmp 31) 1) none [2],.mk none (.store 5 (.tmp 6) (.tmp 32)) none [3,2,0,1,2,3,4],.mk (some 7) (.mv (.tmp 33)) none [4,5,0,1,2,3,4,5]]
def l54:AFn :=
  (AFn.mk 34 3 (.seq (.reg l54r0) (.seq (.seq (.reg l54r1) (.cond (.tmp 27) (.seq (.reg l54r2) .ret) .skip)) (.seq (.reg l54r3) .ret))) [.cell 6 true 5,.tmp 7])
theorem l54_eq:lowFn Try.prog 54=some l54:=by kernel_rfl
def l55r0:List AOper :=
  [.mk (some 2) (.mv (.const (.slice none 0 0))) none []]
def l55r1:List AOper :=
  [.mk (some 3) (.alloc [.bool false,.bool false,.bool false,.bool false,.bool false]) none []]
def l55r2:List AOper :=
  [.mk (some 11) (.mv (.tmp 0)) none [],.mk (some 12) (.len (.tmp 11)) none [0],.mk (some 13) (.mv (.const (.int .i64 0))) none []]
def l55r3:List AOper :=
  [.mk (some 14) (.bin .lss (.tmp 13) (.tmp 12)) none []]
def l55r4:List AOper :=
  [.mk (some 15) (.idxA 1 (.tmp 11) (.tmp 13)) none [],.mk (some 16) (.load false 1 (.tmp 15)) none [0],.mk (some 5) (.mv (.tmp 16)) none [1,0,1]]
def l55r5:List AOper :=
  [.mk (some 17) (.mv (.tmp 5)) none [],.mk (some 18) (.len (.tmp 17)) none [0],.mk (some 19) (.mv (.const (.int .i64 0))) none []]
def l55r6:List AOper :=
  [.mk (some 20) (.bin .lss (.tmp 19) (.tmp 18)) none []]
def l55r7:List AOper :=
  [.mk (some 21) (.idxA 1 (.tmp 17) (.tmp 19)) none [],.mk (some 22) (.load false 1 (.tmp 21)) none [0],.mk (some 7) (.mv (.tmp 22)) none [1,0,1]]
def l55r8:List AOper :=
  [.mk (some 23) (.mv (.tmp 7)) none [],.mk (some 24) (.idxP 1 5 (.tmp 3) (.tmp 23)) none [0,0],.mk none (.store 1 (.tmp 24) (.const (.bool true))) none [1,0]]
def l55r9:List AOper :=
  [.mk (some 25) (.bin .add (.tmp 19) (.const (.int .i64 1))) none [],.mk (some 19) (.mv (.tmp 25)) none [0]]
def l55r10:List AOper :=
  [.mk (some 26) (.bin .add (.tmp 13) (.const (.int .i64 1))) none [],.mk (some 13) (.mv (.tmp 26)) none [0]]
def l55r11:List AOper :=
  [.mk (some 8) (.mv (.const (.slice none 0 0))) none []]
def l55r12:List AOper :=
  [.mk (some 27) (.load true 5 (.tmp 3)) none [],.mk (some 28) (.mv (.const (.int .i64 0))) none []]
def l55r13:List AOper :=
  [.mk (some 29) (.bin .lss (.tmp 28) (.const (.int .i64 5))) none []]
def l55r14:List AOper :=
  [.mk (some 30) (.mv (.tmp 28)) none [],.mk (some 31) (.raw (Op.index 114 (.tmp 27) (.tmp 28))) none [],.mk (some 9) (.mv (.tmp 30)) none [0,0,1],.mk (some 10) (.mv (.tmp 31)) none [1,2,0,1,2]]
def l55r15:List AOper :=
  [.mk (some 32) (.mv (.tmp 10)) none []]
def l55r16:List AOper :=
  [.mk (some 33) (.mv (.tmp 8)) none [],.mk (some 34) (.mv (.tmp 9)) none [],.mk (some 35) (.bslice 1 [.int .i64 0] [(0,.tmp 34)] 1) none [1],.mk (some 36) (.append 1 (.tmp 33) (.tmp 35)) none [0,2],.mk (some 8) (.mv (.tmp 36)) none [3,3,0,1,2,3]]
def l55r17:List AOper :=
  [.mk (some 37) (.bin .add (.tmp 28) (.const (.int .i64 1))) none [],.mk (some 28) (.mv (.tmp 37)) none [0]]
def l55r18:List AOper :=
  [.mk (some 38) (.mv (.tmp 8)) none [],.mk (some 2) (.mv (.tmp 38)) none [0,0]]
def l55:AFn :=
  (AFn.mk 39 1 (.seq (.reg l55r0) (.seq (.reg l55r1) (.seq (.seq (.reg l55r2) (.block 0 (.loop (.seq (.reg l55r3) (.seq (.cond (.tmp 14) .skip (.exit 0)) (.seq (.block 1 (.seq (.reg l55r4) (.seq (.reg l55r5) (.block 2 (.loop (.seq (.reg l55r6) (.seq (.cond (.tmp 20) .skip (.exit 2)) (.seq (.block 3 (.seq (.reg l55r7) (.reg l55r8))) (.reg l55r9))))))))) (.reg l55r10))))))) (.seq (.reg l55r11) (.seq (.seq (.reg l55r12) (.block 4 (.loop (.seq (.reg l55r13) (.seq (.cond (.tmp 29) .skip (.exit 4)) (.seq (.block 5 (.seq (.reg l55r14) (.seq (.reg l55r15) (.cond (.tmp 32) (.reg l55r16) .skip)))) (.reg l55r17))))))) (.seq (.reg l55r18) .ret)))))) [.tmp 2])
theorem l55_eq:lowFn Try.prog 55=some l55:=by kernel_rfl
def l56r0:List AOper :=
  [.mk (some 2) (.box (.tmp 0)) none [],.mk (some 4) (.mv (.const (.int .i64 0))) none []]
def l56r1a:List AOper :=
  [.mk (some 5) (.load true 5 (.tmp 2)) none [],.mk (some 6) (.mv (.tmp 1)) none [],.mk (some 7) (.call 55 [.tmp 6]) none [1]]
def l56r1b:List AOper :=
  [.mk (some 8) (.call 57 [.tmp 5,.tmp 7]) none [0,2,2],.mk (some 9) (.call 99 [.tmp 8]) none [3,3],.mk (some 4) (.mv (.tmp 9)) none [4,4,0,1,2,3,4]]
def l56r1:List AOper:=l56r1a ++ l56r1b
def l56:AFn :=
  (AFn.mk 10 2 (.seq (.reg l56r0) (.seq (.draw l56r1) .ret)) [.tmp 4])
theorem l56_eq:lowFn Try.prog 56=some l56:=by kernel_rfl
def l57r0:List AOper :=
  [.mk (some 2) (.box (.tmp 0)) none [],.mk (some 4) (.mv (.const (.slice none 0 0))) none []]
def l57r1:List AOper :=
  [.mk (some 8) (.mv (.tmp 1)) none [],.mk (some 9) (.len (.tmp 8)) none [0],.mk (some 10) (.mkslice 1 [.int .i64 0] (.tmp 9) (.tmp 9)) none [1,1],.mk (some 5) (.mv (.tmp 10)) none [2,0,1,2]]
def l57r2:List AOper :=
  [.mk (some 11) (.mv (.tmp 1)) none [],.mk (some 12) (.len (.tmp 11)) none [0],.mk (some 13) (.mv (.const (.int .i64 0))) none []]
def l57r3:List AOper :=
  [.mk (some 14) (.bin .lss (.tmp 13) (.tmp 12)) none []]
def l57r4:List AOper :=
  [.mk (some 15) (.mv (.tmp 13)) none [],.mk (some 16) (.idxA 1 (.tmp 11) (.tmp 13)) none [],.mk (some 17) (.load false 1 (.tmp 16)) none [1],.mk (some 6) (.mv (.tmp 15)) none [0,0,1,2],.mk (some 7) (.mv (.tmp 17)) none [2,3,0,1,2,3]]
def l57r5:List AOper :=
  [.mk (some 18) (.mv (.tmp 5)) none [],.mk (some 19) (.mv (.tmp 6)) none [],.mk (some 20) (.mv (.tmp 7)) none [],.mk (some 21) (.idxP 1 5 (.tmp 2) (.tmp 20)) none [2],.mk (some 22) (.load false 1 (.tmp 21)) none [3],.mk (some 23) (.idxA 1 (.tmp 18) (.tmp 19)) none [0,1,0,1,2,3,4],.mk none (.store 1 (.tmp 23) (.tmp 22)) none [5,4,0,1,2,3,4]]
def l57r6:List AOper :=
  [.mk (some 24) (.bin .add (.tmp 13) (.const (.int .i64 1))) none [],.mk (some 13) (.mv (.tmp 24)) none [0]]
def l57r7:List AOper :=
  [.mk (some 25) (.mv (.tmp 5)) none [],.mk (some 4) (.mv (.tmp 25)) none [0,0]]
def l57:AFn :=
  (AFn.mk 26 2 (.seq (.reg l57r0) (.seq (.reg l57r1) (.seq (.seq (.reg l57r2) (.block 0 (.loop (.seq (.reg l57r3) (.seq (.cond (.tmp 14) .skip (.exit 0)) (.seq (.block 1 (.seq (.reg l57r4) (.reg l57r5))) (.reg l57r6))))))) (.seq (.reg l57r7) .ret)))) [.tmp 4])
theorem l57_eq:lowFn Try.prog 57=some l57:=by kernel_rfl
def l58r0:List AOper :=
  [.mk (some 2) (.mv (.const (.bool false))) none []]
def l58r1:List AOper :=
  [.mk (some 5) (.mv (.tmp 0)) none [],.mk (some 6) (.len (.tmp 5)) none [0],.mk (some 7) (.bin .gtr (.tmp 6) (.const (.int .i64 4))) none [1]]
def l58r2:List AOper :=
  [.mk (some 2) (.mv (.const (.bool false))) none []]
def l58r3:List AOper :=
  [.mk (some 8) (.mv (.tmp 0)) none [],.mk (some 9) (.len (.tmp 8)) none [0],.mk (some 10) (.mv (.const (.int .i64 0))) none []]
def l58r4:List AOper :=
  [.mk (some 11) (.bin .lss (.tmp 10) (.tmp 9)) none []]
def l58r5:List AOper :=
  [.mk (some 12) (.idxA 1 (.tmp 8) (.tmp 10)) none [],.mk (some 13) (.load false 1 (.tmp 12)) none [0],.mk (some 4) (.mv (.tmp 13)) none [1,0,1]]
def l58r6:List AOper :=
  [.mk (some 14) (.mv (.tmp 4)) none [],.mk (some 15) (.call 80 [.tmp 14,.const (.int .i64 60)]) none [0],.mk (some 16) (.un .not (.tmp 15)) none [1]]
def l58r7:List AOper :=
  [.mk (some 2) (.mv (.const (.bool false))) none []]
def l58r8:List AOper :=
  [.mk (some 17) (.bin .add (.tmp 10) (.const (.int .i64 1))) none [],.mk (some 10) (.mv (.tmp 17)) none [0]]
def l58r9:List AOper :=
  [.mk (some 18) (.mv (.tmp 0)) none [],.mk (some 19) (.call 99 [.tmp 18]) none [0],.mk (some 20) (.bin .leq (.tmp 19) (.const (.int .i64 60))) none [1],.mk (some 2) (.mv (.tmp 20)) none [2,1,0,1,2]]
def l58:AFn :=
  (AFn.mk 21 1 (.seq (.reg l58r0) (.seq (.seq (.reg l58r1) (.cond (.tmp 7) (.seq (.reg l58r2) .ret) .skip)) (.seq (.seq (.reg l58r3) (.block 0 (.loop (.seq (.reg l58r4) (.seq (.cond (.tmp 11) .skip (.exit 0)) (.seq (.block 1 (.seq (.reg l58r5) (.seq (.reg l58r6) (.cond (.tmp 16) (.seq (.reg l58r7) .ret) .skip)))) (.reg l58r8))))))) (.seq (.reg l58r9) .ret)))) [.tmp 2])
theorem l58_eq:lowFn Try.prog 58=some l58:=by kernel_rfl
def l59r0:List AOper :=
  [.mk (some 4) (.box (.tmp 0)) none [],.mk (some 8) (.mv (.const (.slice none 0 0))) none []]
def l59r1:List AOper :=
  [.mk (some 9) (.mv (.const (.slice none 0 0))) none []]
def l59r2:List AOper :=
  [.mk (some 16) (.mv (.tmp 1)) none [],.mk (some 17) (.len (.tmp 16)) none [0],.mk (some 18) (.mv (.const (.int .i64 0))) none []]
def l59r3:List AOper :=
  [.mk (some 19) (.bin .lss (.tmp 18) (.tmp 17)) none []]
def l59r4:List AOper :=
  [.mk (some 20) (.mv (.tmp 18)) none [],.mk (some 21) (.idxA 2 (.tmp 16) (.tmp 18)) none [],.mk (some 22) (.load true 2 (.tmp 21)) none [1],.mk (some 11) (.alloc [.slice none 0 0,.slice none 0 0]) none [],.mk (some 10) (.mv (.tmp 20)) none [0,0,1,2,3],.mk none (.store 2 (.tmp 11) (.tmp 22)) none [3,2,4,0,1,2,3,4]]
def l59r5a:List AOper :=
  [.mk (some 23) (.mv (.tmp 9)) none [],.mk (some 24) (.load true 2 (.tmp 11)) none [],.mk (some 25) (.mv (.tmp 2)) none [],.mk (some 26) (.mv (.tmp 10)) none [],.mk (some 27) (.idxA 1 (.tmp 25) (.tmp 26)) none [2,3],.mk (some 28) (.load false 1 (.tmp 27)) none [4],.mk (some 29) (.call 100 [.tmp 24,.tmp 28]) none [1,5],.mk (some 30) (.mkfn (Fn.func 101) [.tmp 29] []) none [6],.mk (some 31) (.bslice 1 [.nilFunc] [(0,.tmp 30)] 1) none [7]]
def l59r5b:List AOper :=
  [.mk (some 32) (.append 1 (.tmp 23) (.tmp 31)) none [0,8,6],.mk (some 9) (.mv (.tmp 32)) none [9,9,0,1,2,3,4,5,6,7,8,9]]
def l59r5:List AOper:=l59r5a ++ l59r5b
def l59r6:List AOper :=
  [.mk (some 33) (.bin .add (.tmp 18) (.const (.int .i64 1))) none [],.mk (some 18) (.mv (.tmp 33)) none [0]]
def l59r7:List AOper :=
  [.mk (some 34) (.mv (.tmp 2)) none [],.mk (some 35) (.call 55 [.tmp 34]) none [0],.mk (some 36) (.mv (.tmp 3)) none [],.mk (some 37) (.call 81 [.tmp 35,.tmp 36]) none [1,2,1],.mk (some 12) (.mv (.tmp 37)) none [3,3,0,1,2,3]]
def l59r8:List AOper :=
  [.mk (some 13) (.mv (.const (.slice none 0 0))) none []]
def l59r9:List AOper :=
  [.mk (some 38) (.load true 5 (.tmp 4)) none [],.mk (some 39) (.mv (.tmp 3)) none [],.mk (some 40) (.build [.int .i64 0,.int .i64 0,.int .i64 0,.int .i64 0,.int .i64 0] []) none [],.mk (some 41) (.call 102 [.tmp 38,.tmp 39,.tmp 40]) none [0,1,2],.mk (some 42) (.len (.tmp 41)) none [3],.mk (some 43) (.mv (.const (.int .i64 0))) none []]
def l59r10:List AOper :=
  [.mk (some 44) (.bin .lss (.tmp 43) (.tmp 42)) none []]
def l59r11:List AOper :=
  [.mk (some 45) (.idxA 5 (.tmp 41) (.tmp 43)) none [],.mk (some 46) (.load true 5 (.tmp 45)) none [0],.mk (some 15) (.alloc [.int .i64 0,.int .i64 0,.int .i64 0,.int .i64 0,.int .i64 0]) none [],.mk none (.store 5 (.tmp 15) (.tmp 46)) none [2,1,0,1,2]]
def l59r12:List AOper :=
  [.mk (some 47) (.mv (.tmp 13)) none [],.mk (some 48) (.load true 5 (.tmp 4)) none [],.mk (some 49) (.mv (.tmp 12)) none [],.mk (some 50) (.load true 5 (.tmp 15)) none [],.mk (some 51) (.call 102 [.tmp 48,.tmp 49,.tmp 50]) none [1,2,3],.mk (some 52) (.mv (.tmp 9)) none [],.mk (some 53) (.call 103 [.tmp 51,.tmp 52]) none [4,5,4],.mk (some 54) (.bslice 1 [.int .i64 0] [(0,.tmp 53)] 1) none [6],.mk (some 55) (.append 1 (.tmp 47) (.tmp 54)) none [0,7,6],.mk (some 13) (.mv (.tmp 55)) none [8,8,0,1,2,3,4,5,6,7,8]]
def l59r13:List AOper :=
  [.mk (some 56) (.bin .add (.tmp 43) (.const (.int .i64 1))) none [],.mk (some 43) (.mv (.tmp 56)) none [0]]
def l59r14:List AOper :=
  [.mk (some 57) (.mv (.tmp 13)) none [],.mk (some 8) (.mv (.tmp 57)) none [0,0]]
def l59:AFn :=
  (AFn.mk 58 4 (.seq (.reg l59r0) (.seq (.reg l59r1) (.seq (.seq (.reg l59r2) (.block 0 (.loop (.seq (.reg l59r3) (.seq (.cond (.tmp 19) .skip (.exit 0)) (.seq (.block 1 (.seq (.reg l59r4) (.draw l59r5))) (.reg l59r6))))))) (.seq (.reg l59r7) (.seq (.reg l59r8) (.seq (.seq (.reg l59r9) (.block 2 (.loop (.seq (.reg l59r10) (.seq (.cond (.tmp 44) .skip (.exit 2)) (.seq (.block 3 (.seq (.reg l59r11) (.reg l59r12))) (.reg l59r13))))))) (.seq (.reg l59r14) .ret))))))) [.tmp 8])
theorem l59_eq:lowFn Try.prog 59=some l59:=by kernel_rfl
def l60r0:List AOper :=
  [.mk (some 1) (.box (.tmp 0)) none [],.mk (some 2) (.mv (.const (.bool false))) none []]
def l60r1a:List AOper :=
  [.mk (some 5) (.fld 0 (.tmp 1)) none [],.mk (some 6) (.load false 1 (.tmp 5)) none [0],.mk (some 7) (.call 58 [.tmp 6]) none [1],.mk (some 8) (.un .not (.tmp 7)) none [2],.mk (some 9) (.mv (.tmp 8)) none [3,2],.mk (some 10) (.fld 1 (.tmp 1)) (some (9,false)) [4],.mk (some 11) (.load false 1 (.tmp 10)) (some (9,false)) [5,4],.mk (some 12) (.len (.tmp 11)) (some (9,false)) [6,4],.mk (some 13) (.fld 0 (.tmp 1)) (some (9,false)) [4],.mk (some 14) (.load false 1 (.tmp 13)) (some (9,false)) [8,4],.mk (some 15) (.call 99 [.tmp 14]) (some (9,false)) [9,4,4]]
def l60r1b:List AOper :=
  [.mk (some 16) (.bin .neq (.tmp 12) (.tmp 15)) (some (9,false)) [7,10,4],.mk (some 17) (.pick (.tmp 9) (.const (.bool true)) (.tmp 16)) none [4,11]]
def l60r1:List AOper:=l60r1a ++ l60r1b
def l60r2:List AOper :=
  [.mk (some 2) (.mv (.const (.bool false))) none []]
def l60r3:List AOper :=
  [.mk (some 18) (.fld 1 (.tmp 1)) none [],.mk (some 19) (.load false 1 (.tmp 18)) none [0],.mk (some 20) (.len (.tmp 19)) none [1],.mk (some 21) (.mv (.const (.int .i64 0))) none []]
def l60r4:List AOper :=
  [.mk (some 22) (.bin .lss (.tmp 21) (.tmp 20)) none []]
def l60r5:List AOper :=
  [.mk (some 23) (.idxA 1 (.tmp 19) (.tmp 21)) none [],.mk (some 24) (.load false 1 (.tmp 23)) none [0],.mk (some 4) (.mv (.tmp 24)) none [1,0,1]]
def l60r6:List AOper :=
  [.mk (some 25) (.mv (.tmp 4)) none [],.mk (some 26) (.call 104 [.tmp 25,.const (.int .i64 1000000)]) none [0],.mk (some 27) (.un .not (.tmp 26)) none [1]]
def l60r7:List AOper :=
  [.mk (some 2) (.mv (.const (.bool false))) none []]
def l60r8:List AOper :=
  [.mk (some 28) (.bin .add (.tmp 21) (.const (.int .i64 1))) none [],.mk (some 21) (.mv (.tmp 28)) none [0]]
def l60r9:List AOper :=
  [.mk (some 2) (.mv (.const (.bool true))) none []]
def l60:AFn :=
  (AFn.mk 29 1 (.seq (.reg l60r0) (.seq (.seq (.draw l60r1) (.cond (.tmp 17) (.seq (.reg l60r2) .ret) .skip)) (.seq (.seq (.reg l60r3) (.block 0 (.loop (.seq (.reg l60r4) (.seq (.cond (.tmp 22) .skip (.exit 0)) (.seq (.block 1 (.seq (.reg l60r5) (.seq (.reg l60r6) (.cond (.tmp 27) (.seq (.reg l60r7) .ret) .skip)))) (.reg l60r8))))))) (.seq (.reg l60r9) .ret)))) [.tmp 2])
theorem l60_eq:lowFn Try.prog 60=some l60:=by kernel_rfl
def l61r0:List AOper :=
  [.mk (some 6) (.mv (.const (.bool false))) none []]
def l61r1:List AOper :=
  [.mk (some 7) (.mv (.tmp 1)) none [],.mk (some 8) (.mv (.tmp 0)) none [],.mk (some 9) (.bin .leq (.tmp 7) (.tmp 8)) none [0,1],.mk (some 10) (.mv (.tmp 9)) none [2],.mk (some 11) (.mv (.tmp 0)) (some (10,true)) [3],.mk (some 12) (.mv (.tmp 2)) (some (10,true)) [3],.mk (some 13) (.bin .leq (.tmp 11) (.tmp 12)) (some (10,true)) [4,5,3],.mk (some 14) (.pick (.tmp 10) (.tmp 13) (.const (.bool false))) none [3,6],.mk (some 6) (.mv (.tmp 14)) none [7,3,0,1,2,3,4,5,6,7]]
def l61:AFn :=
  (AFn.mk 15 3 (.seq (.reg l61r0) (.seq (.reg l61r1) .ret)) [.tmp 6])
theorem l61_eq:lowFn Try.prog 61=some l61:=by kernel_rfl
def l62r0:List AOper :=
  [.mk (some 6) (.mv (.const (.bool false))) none []]
def l62r1:List AOper :=
  [.mk (some 7) (.mv (.const (.int .i64 0))) none []]
def l62r2:List AOper :=
  [.mk (some 8) (.mv (.tmp 7)) none [],.mk (some 9) (.mv (.tmp 0)) none [],.mk (some 10) (.len (.tmp 9)) none [1],.mk (some 11) (.bin .lss (.tmp 8) (.tmp 10)) none [0,2]]
def l62r3:List AOper :=
  [.mk (some 14) (.mv (.tmp 0)) none [],.mk (some 15) (.mv (.tmp 7)) none [],.mk (some 16) (.idxA 1 (.tmp 14) (.tmp 15)) none [0,1],.mk (some 17) (.load false 1 (.tmp 16)) none [2],.mk (some 18) (.mv (.tmp 1)) none [],.mk (some 19) (.mv (.tmp 2)) none [],.mk (some 20) (.call 61 [.tmp 17,.tmp 18,.tmp 19]) none [3,4,5],.mk (some 21) (.un .not (.tmp 20)) none [6]]
def l62r4:List AOper :=
  [.mk (some 6) (.mv (.const (.bool false))) none []]
def l62r5:List AOper :=
  [.mk (some 12) (.mv (.tmp 7)) none [],.mk (some 13) (.bin .add (.tmp 12) (.const (.int .i64 1))) none [0],.mk (some 7) (.mv (.tmp 13)) none [1,0,1]]
def l62r6:List AOper :=
  [.mk (some 6) (.mv (.const (.bool true))) none []]
def l62:AFn :=
  (AFn.mk 22 3 (.seq (.reg l62r0) (.seq (.seq (.reg l62r1) (.block 0 (.loop (.seq (.seq (.reg l62r2) (.cond (.tmp 11) .skip (.exit 0))) (.seq (.block 1 (.seq (.reg l62r3) (.cond (.tmp 21) (.seq (.reg l62r4) .ret) .skip))) (.reg l62r5)))))) (.seq (.reg l62r6) .ret))) [.tmp 6])
theorem l62_eq:lowFn Try.prog 62=some l62:=by kernel_rfl
def l69r0:List AOper :=
  [.mk (some 1) (.box (.tmp 0)) none [],.mk (some 2) (.mv (.const (.bool false))) none []]
def l69r1a:List AOper :=
  [.mk (some 3) (.fld 0 (.tmp 1)) none [],.mk (some 4) (.load false 1 (.tmp 3)) none [0],.mk (some 5) (.call 106 [.tmp 4]) none [1],.mk (some 6) (.mv (.tmp 5)) none [2,2],.mk (some 7) (.fld 1 (.tmp 1)) (some (6,true)) [3],.mk (some 8) (.load false 1 (.tmp 7)) (some (6,true)) [4,3],.mk (some 9) (.len (.tmp 8)) (some (6,true)) [5,3],.mk (some 10) (.fld 0 (.tmp 1)) (some (6,true)) [3],.mk (some 11) (.load false 1 (.tmp 10)) (some (6,true)) [7,3],.mk (some 12) (.call 107 [.tmp 11]) (some (6,true)) [8,3,3]]
def l69r1b:List AOper :=
  [.mk (some 13) (.bin .eql (.tmp 9) (.tmp 12)) (some (6,true)) [6,9,3],.mk (some 14) (.pick (.tmp 6) (.tmp 13) (.const (.bool false))) none [3,10],.mk (some 15) (.mv (.tmp 14)) none [11,9],.mk (some 16) (.fld 1 (.tmp 1)) (some (15,true)) [12],.mk (some 17) (.load false 1 (.tmp 16)) (some (15,true)) [13,12],.mk (some 18) (.call 62 [.tmp 17,.const (.int .i64 (-1000000)),.const (.int .i64 1000000)]) (some (15,true)) [14,12,12],.mk (some 19) (.pick (.tmp 15) (.tmp 18) (.const (.bool false))) none [12,15],.mk (some 2) (.mv (.tmp 19)) none [16,15,0,1,2,3,4,5,6,7,8,9,10,11,12,13,14,15,16]]
def l69r1:List AOper:=l69r1a ++ l69r1b
def l69:AFn :=
  (AFn.mk 20 1 (.seq (.reg l69r0) (.seq (.draw l69r1) .ret)) [.tmp 2])
theorem l69_eq:lowFn Try.prog 69=some l69:=by kernel_rfl
def l70r0:List AOper :=
  [.mk (some 4) (.mv (.const (.bool false))) none []]
def l70r1:List AOper :=
  [.mk (some 5) (.mv (.tmp 0)) none [],.mk (some 6) (.len (.tmp 5)) none [0],.mk (some 7) (.mv (.tmp 1)) none [],.mk (some 8) (.bin .eql (.tmp 6) (.tmp 7)) none [1,2],.mk (some 9) (.mv (.tmp 8)) none [3],.mk (some 10) (.mv (.tmp 0)) (some (9,true)) [4],.mk (some 11) (.mv (.tmp 1)) (some (9,true)) [4],.mk (some 12) (.bin .sub (.tmp 11) (.const (.int .i64 1))) (some (9,true)) [6,4],.mk (some 13) (.call 62 [.tmp 10,.const (.int .i64 0),.tmp 12]) (some (9,true)) [5,7,4,4],.mk (some 14) (.pick (.tmp 9) (.tmp 13) (.const (.bool false))) none [4,8],.mk (some 15) (.mv (.tmp 14)) none [9,8],.mk (some 16) (.mv (.tmp 0)) (some (15,true)) [10],.mk (some 17) (.call 108 [.tmp 16]) (some (15,true)) [11,10,10],.mk (some 18) (.pick (.tmp 15) (.tmp 17) (.const (.bool false))) none [10,12],.mk (some 4) (.mv (.tmp 18)) none [13,12,0,1,2,3,4,5,6,7,8,9,10,11,12,13]]
def l70:AFn :=
  (AFn.mk 19 2 (.seq (.reg l70r0) (.seq (.reg l70r1) .ret)) [.tmp 4])
theorem l70_eq:lowFn Try.prog 70=some l70:=by kernel_rfl
def l71r0:List AOper :=
  [.mk (some 2) (.box (.tmp 0)) none [],.mk (some 4) (.alloc [.int .i64 0,.slice none 0 0,.slice none 0 0]) none []]
def l71r1:List AOper :=
  [.mk (some 7) (.fld 0 (.tmp 2)) none [],.mk (some 8) (.load false 1 (.tmp 7)) none [0],.mk (some 9) (.build [.int .i64 0,.slice none 0 0,.slice none 0 0] [(0,1,.tmp 8)]) none [1],.mk (some 5) (.alloc [.int .i64 0,.slice none 0 0,.slice none 0 0]) none [],.mk none (.store 3 (.tmp 5) (.tmp 9)) none [3,2,0,1,2,3]]
def l71r2:List AOper :=
  [.mk (some 6) (.mv (.const (.int .i64 0))) none []]
def l71r3:List AOper :=
  [.mk (some 10) (.mv (.tmp 6)) none [],.mk (some 11) (.mv (.tmp 1)) none [],.mk (some 12) (.len (.tmp 11)) none [1],.mk (some 13) (.bin .lss (.tmp 10) (.tmp 12)) none [0,2]]
def l71r4a:List AOper :=
  [.mk (some 16) (.fld 1 (.tmp 5)) none [],.mk (some 17) (.load false 1 (.tmp 16)) none [0],.mk (some 18) (.fld 1 (.tmp 2)) none [],.mk (some 19) (.load false 1 (.tmp 18)) none [2],.mk (some 20) (.mv (.tmp 1)) none [],.mk (some 21) (.mv (.tmp 6)) none [],.mk (some 22) (.idxA 1 (.tmp 20) (.tmp 21)) none [4,5],.mk (some 23) (.load false 1 (.tmp 22)) none [6],.mk (some 24) (.idxA 1 (.tmp 19) (.tmp 23)) none [3,7],.mk (some 25) (.load false 1 (.tmp 24)) none [8],.mk (some 26) (.bslice 1 [.int .i64 0] [(0,.tmp 25)] 1) none [9]]
def l71r4b:List AOper :=
  [.mk (some 27) (.append 1 (.tmp 17) (.tmp 26)) none [1,10],.mk (some 28) (.fld 1 (.tmp 5)) none [0,1,2,3,4,5,6,7,8,9,10,11],.mk none (.store 1 (.tmp 28) (.tmp 27)) none [12,11,11,0,1,2,3,4,5,6,7,8,9,10,11]]
def l71r4:List AOper:=l71r4a ++ l71r4b
def l71r5a:List AOper :=
  [.mk (some 29) (.fld 2 (.tmp 5)) none [],.mk (some 30) (.load false 1 (.tmp 29)) none [0],.mk (some 31) (.fld 2 (.tmp 2)) none [],.mk (some 32) (.load false 1 (.tmp 31)) none [2],.mk (some 33) (.mv (.tmp 1)) none [],.mk (some 34) (.mv (.tmp 6)) none [],.mk (some 35) (.idxA 1 (.tmp 33) (.tmp 34)) none [4,5],.mk (some 36) (.load false 1 (.tmp 35)) none [6],.mk (some 37) (.idxA 1 (.tmp 32) (.tmp 36)) none [3,7],.mk (some 38) (.load false 1 (.tmp 37)) none [8],.mk (some 39) (.bslice 1 [.int .i64 0] [(0,.tmp 38)] 1) none [9]]
def l71r5b:List AOper :=
  [.mk (some 40) (.append 1 (.tmp 30) (.tmp 39)) none [1,10],.mk (some 41) (.fld 2 (.tmp 5)) none [0,1,2,3,4,5,6,7,8,9,10,11],.mk none (.store 1 (.tmp 41) (.tmp 40)) none [12,11,11,0,1,2,3,4,5,6,7,8,9,10,11]]
def l71r5:List AOper:=l71r5a ++ l71r5b
def l71r6:List AOper :=
  [.mk (some 14) (.mv (.tmp 6)) none [],.mk (some 15) (.bin .add (.tmp 14) (.const (.int .i64 1))) none [0],.mk (some 6) (.mv (.tmp 15)) none [1,0,1]]
def l71r7:List AOper :=
  [.mk (some 42) (.load true 3 (.tmp 5)) none [],.mk none (.store 3 (.tmp 4) (.tmp 42)) none [0,0]]
def l71:AFn :=
  (AFn.mk 43 2 (.seq (.reg l71r0) (.seq (.reg l71r1) (.seq (.seq (.reg l71r2) (.block 0 (.loop (.seq (.seq (.reg l71r3) (.cond (.tmp 13) .skip (.exit 0))) (.seq (.block 1 (.seq (.draw l71r4) (.draw l71r5))) (.reg l71r6)))))) (.seq (.reg l71r7) .ret)))) [.cell 4 true 3])
theorem l71_eq:lowFn Try.prog 71=some l71:=by kernel_rfl
def l72r0:List AOper :=
  [.mk (some 2) (.mv (.const (.slice none 0 0))) none []]
def l72r1:List AOper :=
  [.mk (some 6) (.mv (.tmp 0)) none [],.mk (some 7) (.len (.tmp 6)) none [0],.mk (some 8) (.mkslice 1 [.int .i64 0] (.tmp 7) (.tmp 7)) none [1,1],.mk (some 3) (.mv (.tmp 8)) none [2,0,1,2]]
def l72r2:List AOper :=
  [.mk (some 4) (.mv (.const (.int .i64 1))) none []]
def l72r3:List AOper :=
  [.mk (some 9) (.mv (.tmp 0)) none [],.mk (some 10) (.len (.tmp 9)) none [0],.mk (some 11) (.bin .sub (.tmp 10) (.const (.int .i64 1))) none [1],.mk (some 5) (.mv (.tmp 11)) none [2,0,1,2]]
def l72r4:List AOper :=
  [.mk (some 12) (.mv (.tmp 5)) none [],.mk (some 13) (.bin .geq (.tmp 12) (.const (.int .i64 0))) none [0]]
def l72r5:List AOper :=
  [.mk (some 16) (.mv (.tmp 3)) none [],.mk (some 17) (.mv (.tmp 5)) none [],.mk (some 18) (.mv (.tmp 4)) none [],.mk (some 19) (.idxA 1 (.tmp 16) (.tmp 17)) none [0,1,0,1,2],.mk none (.store 1 (.tmp 19) (.tmp 18)) none [3,2,0,1,2]]
def l72r6:List AOper :=
  [.mk (some 20) (.mv (.tmp 4)) none [],.mk (some 21) (.mv (.tmp 0)) none [],.mk (some 22) (.mv (.tmp 5)) none [],.mk (some 23) (.idxA 1 (.tmp 21) (.tmp 22)) none [1,2],.mk (some 24) (.load false 1 (.tmp 23)) none [3],.mk (some 25) (.bin .mul (.tmp 20) (.tmp 24)) none [0,4],.mk (some 4) (.mv (.tmp 25)) none [5,0,1,2,3,4,5]]
def l72r7:List AOper :=
  [.mk (some 14) (.mv (.tmp 5)) none [],.mk (some 15) (.bin .sub (.tmp 14) (.const (.int .i64 1))) none [0],.mk (some 5) (.mv (.tmp 15)) none [1,0,1]]
def l72r8:List AOper :=
  [.mk (some 26) (.mv (.tmp 3)) none [],.mk (some 2) (.mv (.tmp 26)) none [0,0]]
def l72:AFn :=
  (AFn.mk 27 1 (.seq (.reg l72r0) (.seq (.reg l72r1) (.seq (.reg l72r2) (.seq (.seq (.reg l72r3) (.block 0 (.loop (.seq (.seq (.reg l72r4) (.cond (.tmp 13) .skip (.exit 0))) (.seq (.block 1 (.seq (.reg l72r5) (.reg l72r6))) (.reg l72r7)))))) (.seq (.reg l72r8) .ret))))) [.tmp 2])
theorem l72_eq:lowFn Try.prog 72=some l72:=by kernel_rfl
def l73r0:List AOper :=
  [.mk (some 2) (.mv (.const (.slice none 0 0))) none []]
def l73r1:List AOper :=
  [.mk (some 3) (.bslice 1 [.int .i64 0] [] 0) none [],.mk (some 4) (.mv (.tmp 0)) none [],.mk (some 5) (.append 1 (.tmp 3) (.tmp 4)) none [0,1],.mk (some 2) (.mv (.tmp 5)) none [2,2,0,1,2]]
def l73:AFn :=
  (AFn.mk 6 1 (.seq (.reg l73r0) (.seq (.reg l73r1) .ret)) [.tmp 2])
theorem l73_eq:lowFn Try.prog 73=some l73:=by kernel_rfl
def l74r0:List AOper :=
  [.mk (some 3) (.box (.tmp 1)) none [],.mk (some 4) (.mv (.const (.slice none 0 0))) none []]
def l74r1:List AOper :=
  [.mk (some 8) (.bslice 1 [.int .i64 0] [] 0) none [],.mk (some 5) (.mv (.tmp 8)) none [0,0]]
def l74r2:List AOper :=
  [.mk (some 9) (.load true 3 (.tmp 3)) none [],.mk (some 10) (.call 87 [.tmp 9]) none [0],.mk (some 6) (.mv (.tmp 10)) none [1,1,0,1]]
def l74r3:List AOper :=
  [.mk (some 7) (.mv (.const (.int .i64 0))) none []]
def l74r4:List AOper :=
  [.mk (some 11) (.mv (.tmp 7)) none [],.mk (some 12) (.mv (.tmp 6)) none [],.mk (some 13) (.len (.tmp 12)) none [1],.mk (some 14) (.bin .lss (.tmp 11) (.tmp 13)) none [0,2]]
def l74r5:List AOper :=
  [.mk (some 17) (.mv (.tmp 5)) none [],.mk (some 18) (.mv (.tmp 0)) none [],.mk (some 19) (.mv (.tmp 6)) none [],.mk (some 20) (.mv (.tmp 7)) none [],.mk (some 21) (.idxA 1 (.tmp 19) (.tmp 20)) none [2,3],.mk (some 22) (.load false 1 (.tmp 21)) none [4],.mk (some 23) (.idxA 1 (.tmp 18) (.tmp 22)) none [1,5],.mk (some 24) (.load false 1 (.tmp 23)) none [6],.mk (some 25) (.bslice 1 [.int .i64 0] [(0,.tmp 24)] 1) none [7],.mk (some 26) (.append 1 (.tmp 17) (.tmp 25)) none [0,8],.mk (some 5) (.mv (.tmp 26)) none [9,9,0,1,2,3,4,5,6,7,8,9]]
def l74r6:List AOper :=
  [.mk (some 15) (.mv (.tmp 7)) none [],.mk (some 16) (.bin .add (.tmp 15) (.const (.int .i64 1))) none [0],.mk (some 7) (.mv (.tmp 16)) none [1,0,1]]
def l74r7:List AOper :=
  [.mk (some 27) (.mv (.tmp 5)) none [],.mk (some 4) (.mv (.tmp 27)) none [0,0]]
def l74:AFn :=
  (AFn.mk 28 2 (.seq (.reg l74r0) (.seq (.reg l74r1) (.seq (.reg l74r2) (.seq (.seq (.reg l74r3) (.block 0 (.loop (.seq (.seq (.reg l74r4) (.cond (.tmp 14) .skip (.exit 0))) (.seq (.block 1 (.reg l74r5)) (.reg l74r6)))))) (.seq (.reg l74r7) .ret))))) [.tmp 4])
theorem l74_eq:lowFn Try.prog 74=some l74:=by kernel_rfl
def l75r0:List AOper :=
  [.mk (some 4) (.mv (.const (.bool false))) none []]
def l75r1:List AOper :=
  [.mk (some 6) (.mv (.tmp 0)) none [],.mk (some 7) (.len (.tmp 6)) none [0],.mk (some 8) (.mv (.tmp 1)) none [],.mk (some 9) (.bin .neq (.tmp 7) (.tmp 8)) none [1,2]]
def l75r2:List AOper :=
  [.mk (some 4) (.mv (.const (.bool false))) none []]
def l75r3:List AOper :=
  [.mk (some 10) (.mv (.tmp 1)) none [],.mk (some 11) (.mv (.const (.int .i64 0))) none []]
def l75r4:List AOper :=
  [.mk (some 12) (.bin .lss (.tmp 11) (.tmp 10)) none []]
def l75r5:List AOper :=
  [.mk (some 13) (.mv (.tmp 11)) none [],.mk (some 5) (.mv (.tmp 13)) none [0,0]]
def l75r6:List AOper :=
  [.mk (some 14) (.mv (.tmp 0)) none [],.mk (some 15) (.mv (.tmp 5)) none [],.mk (some 16) (.call 109 [.tmp 14,.tmp 15]) none [0,1],.mk (some 17) (.un .not (.tmp 16)) none [2]]
def l75r7:List AOper :=
  [.mk (some 4) (.mv (.const (.bool false))) none []]
def l75r8:List AOper :=
  [.mk (some 18) (.bin .add (.tmp 11) (.const (.int .i64 1))) none [],.mk (some 11) (.mv (.tmp 18)) none [0]]
def l75r9:List AOper :=
  [.mk (some 4) (.mv (.const (.bool true))) none []]
def l75:AFn :=
  (AFn.mk 19 2 (.seq (.reg l75r0) (.seq (.seq (.reg l75r1) (.cond (.tmp 9) (.seq (.reg l75r2) .ret) .skip)) (.seq (.seq (.reg l75r3) (.block 0 (.loop (.seq (.reg l75r4) (.seq (.cond (.tmp 12) .skip (.exit 0)) (.seq (.block 1 (.seq (.reg l75r5) (.seq (.reg l75r6) (.cond (.tmp 17) (.seq (.reg l75r7) .ret) .skip)))) (.reg l75r8))))))) (.seq (.reg l75r9) .ret)))) [.tmp 4])
theorem l75_eq:lowFn Try.prog 75=some l75:=by kernel_rfl
def l76r0:List AOper :=
  [.mk (some 6) (.alloc [.int .i64 0,.int .i64 0,.int .i64 0]) none []]
def l76r1:List AOper :=
  [.mk (some 8) (.mv (.tmp 2)) none [],.mk (some 9) (.bin .lss (.tmp 8) (.const (.int .i64 1))) none [0]]
def l76r2:List AOper :=
  [.mk (some 10) (.build [.int .i64 0,.int .i64 0,.int .i64 0] [(0,1,.const (.int .i64 0)),(1,1,.const (.int .i64 0)),(2,1,.const (.int .i64 1))]) none [],.mk none (.store 3 (.tmp 6) (.tmp 10)) none [0,0]]
def l76r3:List AOper :=
  [.mk (some 11) (.mv (.tmp 2)) none [],.mk (some 12) (.bin .eql (.tmp 11) (.const (.int .i64 1))) none [0]]
def l76r4:List AOper :=
  [.mk (some 13) (.mv (.tmp 0)) none [],.mk (some 14) (.mv (.tmp 0)) none [],.mk (some 15) (.bin .add (.tmp 14) (.const (.int .i64 1))) none [1],.mk (some 16) (.build [.int .i64 0,.int .i64 0,.int .i64 0] [(0,1,.tmp 13),(1,1,.tmp 15),(2,1,.const (.int .i64 1))]) none [0,2],.mk none (.store 3 (.tmp 6) (.tmp 16)) none [3,0,1,2,3]]
def l76r5:List AOper :=
  [.mk (some 17) (.mv (.tmp 0)) none [],.mk (some 18) (.mv (.tmp 2)) none [],.mk (some 19) (.bin .sub (.tmp 18) (.const (.int .i64 1))) none [1],.mk (some 20) (.mv (.tmp 1)) none [],.mk (some 21) (.bin .mul (.tmp 19) (.tmp 20)) none [2,3],.mk (some 22) (.bin .add (.tmp 17) (.tmp 21)) none [0,4],.mk (some 7) (.mv (.tmp 22)) none [5,0,1,2,3,4,5]]
def l76r6:List AOper :=
  [.mk (some 23) (.mv (.tmp 1)) none [],.mk (some 24) (.bin .lss (.tmp 23) (.const (.int .i64 0))) none [0]]
def l76r7:List AOper :=
  [.mk (some 25) (.mv (.tmp 0)) none [],.mk (some 26) (.mv (.tmp 7)) none [],.mk (some 27) (.bin .sub (.tmp 26) (.const (.int .i64 1))) none [1],.mk (some 28) (.mv (.tmp 1)) none [],.mk (some 29) (.build [.int .i64 0,.int .i64 0,.int .i64 0] [(0,1,.tmp 25),(1,1,.tmp 27),(2,1,.tmp 28)]) none [0,2,3],.mk none (.store 3 (.tmp 6) (.tmp 29)) none [4,0,1,2,3,4]]
def l76r8:List AOper :=
  [.mk (some 30) (.mv (.tmp 0)) none [],.mk (some 31) (.mv (.tmp 7)) none [],.mk (some 32) (.bin .add (.tmp 31) (.const (.int .i64 1))) none [1],.mk (some 33) (.mv (.tmp 1)) none [],.mk (some 34) (.build [.int .i64 0,.int .i64 0,.int .i64 0] [(0,1,.tmp 30),(1,1,.tmp 32),(2,1,.tmp 33)]) none [0,2,3],.mk none (.store 3 (.tmp 6) (.tmp 34)) none [4,0,1,2,3,4]]
def l76:AFn :=
  (AFn.mk 35 3 (.seq (.reg l76r0) (.seq (.seq (.reg l76r1) (.cond (.tmp 9) (.seq (.reg l76r2) .ret) .skip)) (.seq (.seq (.reg l76r3) (.cond (.tmp 12) (.seq (.reg l76r4) .ret) .skip)) (.seq (.reg l76r5) (.seq (.seq (.reg l76r6) (.cond (.tmp 24) (.seq (.reg l76r7) .ret) .skip)) (.seq (.reg l76r8) .ret)))))) [.cell 6 true 3])
theorem l76_eq:lowFn Try.prog 76=some l76:=by kernel_rfl
def l77r0:List AOper :=
  [.mk (some 1) (.box (.tmp 0)) none [],.mk (some 2) (.mv (.const (.slice none 0 0))) none []]
def l77r1:List AOper :=
  [.mk (some 5) (.load true 3 (.tmp 1)) none [],.mk (some 6) (.call 110 [.tmp 5]) none [0],.mk (some 7) (.mkslice 1 [.int .i64 0] (.tmp 6) (.tmp 6)) none [1,1],.mk (some 3) (.mv (.tmp 7)) none [2,1,0,1,2]]
def l77r2:List AOper :=
  [.mk (some 8) (.mv (.tmp 3)) none [],.mk (some 9) (.len (.tmp 8)) none [0],.mk (some 10) (.mv (.const (.int .i64 0))) none []]
def l77r3:List AOper :=
  [.mk (some 11) (.bin .lss (.tmp 10) (.tmp 9)) none []]
def l77r4:List AOper :=
  [.mk (some 12) (.mv (.tmp 10)) none [],.mk (some 4) (.mv (.tmp 12)) none [0,0]]
def l77r5:List AOper :=
  [.mk (some 13) (.mv (.tmp 3)) none [],.mk (some 14) (.mv (.tmp 4)) none [],.mk (some 15) (.load true 3 (.tmp 1)) none [],.mk (some 16) (.mv (.tmp 4)) none [],.mk (some 17) (.call 111 [.tmp 15,.tmp 16]) none [2,3],.mk (some 18) (.idxA 1 (.tmp 13) (.tmp 14)) none [0,1,0,1,2,3,4],.mk none (.store 1 (.tmp 18) (.tmp 17)) none [5,4,4,0,1,2,3,4]]
def l77r6:List AOper :=
  [.mk (some 19) (.bin .add (.tmp 10) (.const (.int .i64 1))) none [],.mk (some 10) (.mv (.tmp 19)) none [0]]
def l77r7:List AOper :=
  [.mk (some 20) (.mv (.tmp 3)) none [],.mk (some 2) (.mv (.tmp 20)) none [0,0]]
def l77:AFn :=
  (AFn.mk 21 1 (.seq (.reg l77r0) (.seq (.reg l77r1) (.seq (.seq (.reg l77r2) (.block 0 (.loop (.seq (.reg l77r3) (.seq (.cond (.tmp 11) .skip (.exit 0)) (.seq (.block 1 (.seq (.reg l77r4) (.reg l77r5))) (.reg l77r6))))))) (.seq (.reg l77r7) .ret)))) [.tmp 2])
theorem l77_eq:lowFn Try.prog 77=some l77:=by kernel_rfl
def l80r0:List AOper :=
  [.mk (some 4) (.mv (.const (.bool false))) none []]
def l80r1:List AOper :=
  [.mk (some 5) (.mv (.tmp 0)) none [],.mk (some 6) (.bin .leq (.const (.int .i64 0)) (.tmp 5)) none [0],.mk (some 7) (.mv (.tmp 6)) none [1],.mk (some 8) (.mv (.tmp 0)) (some (7,true)) [2],.mk (some 9) (.mv (.tmp 1)) (some (7,true)) [2],.mk (some 10) (.bin .leq (.tmp 8) (.tmp 9)) (some (7,true)) [3,4,2],.mk (some 11) (.pick (.tmp 7) (.tmp 10) (.const (.bool false))) none [2,5],.mk (some 4) (.mv (.tmp 11)) none [6,2,0,1,2,3,4,5,6]]
def l80:AFn :=
  (AFn.mk 12 2 (.seq (.reg l80r0) (.seq (.reg l80r1) .ret)) [.tmp 4])
theorem l80_eq:lowFn Try.prog 80=some l80:=by kernel_rfl
def l81r0:List AOper :=
  [.mk (some 4) (.mv (.const (.slice none 0 0))) none []]
def l81r1:List AOper :=
  [.mk (some 5) (.mv (.const (.slice none 0 0))) none []]
def l81r2:List AOper :=
  [.mk (some 8) (.mv (.tmp 0)) none [],.mk (some 9) (.len (.tmp 8)) none [0],.mk (some 10) (.mv (.const (.int .i64 0))) none []]
def l81r3:List AOper :=
  [.mk (some 11) (.bin .lss (.tmp 10) (.tmp 9)) none []]
def l81r4:List AOper :=
  [.mk (some 12) (.idxA 1 (.tmp 8) (.tmp 10)) none [],.mk (some 13) (.load false 1 (.tmp 12)) none [0],.mk (some 7) (.mv (.tmp 13)) none [1,0,1]]
def l81r5:List AOper :=
  [.mk (some 14) (.mv (.tmp 1)) none [],.mk (some 15) (.mv (.tmp 7)) none [],.mk (some 16) (.call 109 [.tmp 14,.tmp 15]) none [0,1],.mk (some 17) (.un .not (.tmp 16)) none [2]]
def l81r6:List AOper :=
  [.mk (some 18) (.mv (.tmp 5)) none [],.mk (some 19) (.mv (.tmp 7)) none [],.mk (some 20) (.bslice 1 [.int .i64 0] [(0,.tmp 19)] 1) none [1],.mk (some 21) (.append 1 (.tmp 18) (.tmp 20)) none [0,2],.mk (some 5) (.mv (.tmp 21)) none [3,3,0,1,2,3]]
def l81r7:List AOper :=
  [.mk (some 22) (.bin .add (.tmp 10) (.const (.int .i64 1))) none [],.mk (some 10) (.mv (.tmp 22)) none [0]]
def l81r8:List AOper :=
  [.mk (some 23) (.mv (.tmp 5)) none [],.mk (some 4) (.mv (.tmp 23)) none [0,0]]
def l81:AFn :=
  (AFn.mk 24 2 (.seq (.reg l81r0) (.seq (.reg l81r1) (.seq (.seq (.reg l81r2) (.block 0 (.loop (.seq (.reg l81r3) (.seq (.cond (.tmp 11) .skip (.exit 0)) (.seq (.block 1 (.seq (.reg l81r4) (.seq (.reg l81r5) (.cond (.tmp 17) (.reg l81r6) .skip)))) (.reg l81r7))))))) (.seq (.reg l81r8) .ret)))) [.tmp 4])
theorem l81_eq:lowFn Try.prog 81=some l81:=by kernel_rfl
def l86r0:List AOper :=
  [.mk (some 4) (.mv (.const (.int .i64 0))) none []]
def l86r1:List AOper :=
  [.mk (some 5) (.mv (.const (.int .i64 0))) none []]
def l86r2:List AOper :=
  [.mk (some 6) (.mv (.tmp 5)) none [],.mk (some 7) (.mv (.tmp 0)) none [],.mk (some 8) (.len (.tmp 7)) none [1],.mk (some 9) (.bin .lss (.tmp 6) (.tmp 8)) none [0,2]]
def l86r3:List AOper :=
  [.mk (some 12) (.mv (.tmp 0)) none [],.mk (some 13) (.mv (.tmp 5)) none [],.mk (some 14) (.idxA 1 (.tmp 12) (.tmp 13)) none [0,1],.mk (some 15) (.load false 1 (.tmp 14)) none [2],.mk (some 16) (.mv (.tmp 1)) none [],.mk (some 17) (.bin .eql (.tmp 15) (.tmp 16)) none [3,4]]
def l86r4:List AOper :=
  [.mk (some 18) (.mv (.tmp 5)) none [],.mk (some 4) (.mv (.tmp 18)) none [0,0]]
def l86r5:List AOper :=
  [.mk (some 10) (.mv (.tmp 5)) none [],.mk (some 11) (.bin .add (.tmp 10) (.const (.int .i64 1))) none [0],.mk (some 5) (.mv (.tmp 11)) none [1,0,1]]
def l86r6:List AOper :=
  [.mk (some 4) (.mv (.const (.int .i64 (-1)))) none []]
def l86:AFn :=
  (AFn.mk 19 2 (.seq (.reg l86r0) (.seq (.seq (.reg l86r1) (.block 0 (.loop (.seq (.seq (.reg l86r2) (.cond (.tmp 9) .skip (.exit 0))) (.seq (.block 1 (.seq (.reg l86r3) (.cond (.tmp 17) (.seq (.reg l86r4) .ret) .skip))) (.reg l86r5)))))) (.seq (.reg l86r6) .ret))) [.tmp 4])
theorem l86_eq:lowFn Try.prog 86=some l86:=by kernel_rfl
def l87r0:List AOper :=
  [.mk (some 1) (.box (.tmp 0)) none [],.mk (some 2) (.mv (.const (.slice none 0 0))) none []]
def l87r1:List AOper :=
  [.mk (some 5) (.bslice 1 [.int .i64 0] [] 0) none [],.mk (some 3) (.mv (.tmp 5)) none [0,0]]
def l87r2:List AOper :=
  [.mk (some 4) (.mv (.const (.int .i64 0))) none []]
def l87r3:List AOper :=
  [.mk (some 6) (.mv (.tmp 4)) none [],.mk (some 7) (.fld 1 (.tmp 1)) none [],.mk (some 8) (.load false 1 (.tmp 7)) none [1],.mk (some 9) (.call 107 [.tmp 8]) none [2],.mk (some 10) (.bin .lss (.tmp 6) (.tmp 9)) none [0,3]]
def l87r4a:List AOper :=
  [.mk (some 13) (.mv (.tmp 3)) none [],.mk (some 14) (.load true 3 (.tmp 1)) none [],.mk (some 15) (.fld 1 (.tmp 1)) none [],.mk (some 16) (.load false 1 (.tmp 15)) none [2],.mk (some 17) (.mv (.tmp 4)) none [],.mk (some 18) (.call 114 [.tmp 16,.tmp 17]) none [3,4],.mk (some 19) (.call 113 [.tmp 14,.tmp 18]) none [1,5,5],.mk (some 20) (.bslice 1 [.int .i64 0] [(0,.tmp 19)] 1) none [6]]
def l87r4b:List AOper :=
  [.mk (some 21) (.append 1 (.tmp 13) (.tmp 20)) none [0,7,6],.mk (some 3) (.mv (.tmp 21)) none [8,8,0,1,2,3,4,5,6,7,8]]
def l87r4:List AOper:=l87r4a ++ l87r4b
def l87r5:List AOper :=
  [.mk (some 11) (.mv (.tmp 4)) none [],.mk (some 12) (.bin .add (.tmp 11) (.const (.int .i64 1))) none [0],.mk (some 4) (.mv (.tmp 12)) none [1,0,1]]
def l87r6:List AOper :=
  [.mk (some 22) (.mv (.tmp 3)) none [],.mk (some 2) (.mv (.tmp 22)) none [0,0]]
def l87:AFn :=
  (AFn.mk 23 1 (.seq (.reg l87r0) (.seq (.reg l87r1) (.seq (.seq (.reg l87r2) (.block 0 (.loop (.seq (.seq (.reg l87r3) (.cond (.tmp 10) .skip (.exit 0))) (.seq (.block 1 (.draw l87r4)) (.reg l87r5)))))) (.seq (.reg l87r6) .ret)))) [.tmp 2])
theorem l87_eq:lowFn Try.prog 87=some l87:=by kernel_rfl
def l96r0:List AOper :=
  [.mk (some 2) (.mv (.const (.bool false))) none []]
def l96r1:List AOper :=
  [.mk (some 5) (.mv (.tmp 0)) none [],.mk (some 6) (.len (.tmp 5)) none [0],.mk (some 7) (.mv (.const (.int .i64 0))) none []]
def l96r2:List AOper :=
  [.mk (some 8) (.bin .lss (.tmp 7) (.tmp 6)) none []]
def l96r3:List AOper :=
  [.mk (some 9) (.idxA 1 (.tmp 5) (.tmp 7)) none [],.mk (some 10) (.load false 1 (.tmp 9)) none [0],.mk (some 4) (.mv (.tmp 10)) none [1,0,1]]
def l96r4:List AOper :=
  [.mk (some 11) (.mv (.tmp 4)) none [],.mk (some 12) (.call 80 [.tmp 11,.const (.int .i64 4)]) none [0],.mk (some 13) (.un .not (.tmp 12)) none [1]]
def l96r5:List AOper :=
  [.mk (some 2) (.mv (.const (.bool false))) none []]
def l96r6:List AOper :=
  [.mk (some 14) (.bin .add (.tmp 7) (.const (.int .i64 1))) none [],.mk (some 7) (.mv (.tmp 14)) none [0]]
def l96r7:List AOper :=
  [.mk (some 2) (.mv (.const (.bool true))) none []]
def l96:AFn :=
  (AFn.mk 15 1 (.seq (.reg l96r0) (.seq (.seq (.reg l96r1) (.block 0 (.loop (.seq (.reg l96r2) (.seq (.cond (.tmp 8) .skip (.exit 0)) (.seq (.block 1 (.seq (.reg l96r3) (.seq (.reg l96r4) (.cond (.tmp 13) (.seq (.reg l96r5) .ret) .skip)))) (.reg l96r6))))))) (.seq (.reg l96r7) .ret))) [.tmp 2])
theorem l96_eq:lowFn Try.prog 96=some l96:=by kernel_rfl
def l97r0:List AOper :=
  [.mk (some 0) (.alloc [.int .i64 0,.int .i64 0,.int .i64 0,.int .i64 0,.int .i64 0]) none []]
def l97r1:List AOper :=
  [.mk (some 1) (.alloc [.int .i64 0,.int .i64 0,.int .i64 0,.int .i64 0,.int .i64 0]) none []]
def l97r2:List AOper :=
  [.mk (some 3) (.mv (.const (.int .i64 0))) none []]
def l97r3:List AOper :=
  [.mk (some 4) (.bin .lss (.tmp 3) (.const (.int .i64 5))) none []]
def l97r4:List AOper :=
  [.mk (some 5) (.mv (.tmp 3)) none [],.mk (some 2) (.mv (.tmp 5)) none [0,0]]
def l97r5:List AOper :=
  [.mk (some 6) (.mv (.tmp 2)) none [],.mk (some 7) (.idxP 1 5 (.tmp 1) (.tmp 6)) none [0,0],.mk none (.store 1 (.tmp 7) (.const (.int .i64 (-1)))) none [1,0]]
def l97r6:List AOper :=
  [.mk (some 8) (.bin .add (.tmp 3) (.const (.int .i64 1))) none [],.mk (some 3) (.mv (.tmp 8)) none [0]]
def l97r7:List AOper :=
  [.mk (some 9) (.load true 5 (.tmp 1)) none [],.mk none (.store 5 (.tmp 0) (.tmp 9)) none [0,0]]
def l97:AFn :=
  (AFn.mk 10 0 (.seq (.reg l97r0) (.seq (.reg l97r1) (.seq (.seq (.reg l97r2) (.block 0 (.loop (.seq (.reg l97r3) (.seq (.cond (.tmp 4) .skip (.exit 0)) (.seq (.block 1 (.seq (.reg l97r4) (.reg l97r5))) (.reg l97r6))))))) (.seq (.reg l97r7) .ret)))) [.cell 0 true 5])
theorem l97_eq:lowFn Try.prog 97=some l97:=by kernel_rfl
def l98r0:List AOper :=
  [.mk (some 4) (.alloc [.int .i64 0,.int .i64 0,.int .i64 0,.int .i64 0,.int .i64 0]) none [],.mk (some 5) (.mv (.const (.bool false))) none []]
def l98r1:List AOper :=
  [.mk (some 11) (.call 97 []) none [],.mk (some 6) (.alloc [.int .i64 0,.int .i64 0,.int .i64 0,.int .i64 0,.int .i64 0]) none [],.mk none (.store 5 (.tmp 6) (.tmp 11)) none [1,0,0,0,1]]
def l98r2:List AOper :=
  [.mk (some 12) (.mv (.tmp 0)) none [],.mk (some 13) (.len (.tmp 12)) none [0],.mk (some 14) (.mv (.const (.int .i64 0))) none []]
def l98r3:List AOper :=
  [.mk (some 15) (.bin .lss (.tmp 14) (.tmp 13)) none []]
def l98r4:List AOper :=
  [.mk (some 16) (.mv (.tmp 14)) none [],.mk (some 17) (.idxA 2 (.tmp 12) (.tmp 14)) none [],.mk (some 18) (.load true 2 (.tmp 17)) none [1],.mk (some 8) (.alloc [.slice none 0 0,.slice none 0 0]) none [],.mk (some 7) (.mv (.tmp 16)) none [0,0,1,2,3],.mk none (.store 2 (.tmp 8) (.tmp 18)) none [3,2,4,0,1,2,3,4]]
def l98r5a:List AOper :=
  [.mk (some 19) (.load true 2 (.tmp 8)) none [],.mk (some 20) (.call 60 [.tmp 19]) none [0],.mk (some 21) (.un .not (.tmp 20)) none [1],.mk (some 22) (.mv (.tmp 21)) none [2,1],.mk (some 23) (.mv (.tmp 1)) (some (22,false)) [3],.mk (some 24) (.mv (.tmp 7)) (some (22,false)) [3],.mk (some 25) (.idxA 1 (.tmp 23) (.tmp 24)) (some (22,false)) [4,5,3],.mk (some 26) (.load false 1 (.tmp 25)) (some (22,false)) [6,3],.mk (some 27) (.len (.tmp 26)) (some (22,false)) [7,3],.mk (some 28) (.fld 0 (.tmp 8)) (some (22,false)) [3],.mk (some 29) (.load false 1 (.tmp 28)) (some (22,false)) [9,3],.mk (some 30) (.len (.tmp 29)) (some (22,false)) [10,3],.mk (some 31) (.bin .neq (.tmp 27) (.tmp 30)) (some (22,false)) [8,11,3],.mk (some 32) (.pick (.tmp 22) (.const (.bool true)) (.tmp 31)) none [3,12],.mk (some 33) (.mv (.tmp 32)) none [13,3],.mk (some 34) (.mv (.tmp 1)) (some (33,false)) [14],.mk (some 35) (.mv (.tmp 7)) (some (33,false)) [14]]
def l98r5b:List AOper :=
  [.mk (some 36) (.idxA 1 (.tmp 34) (.tmp 35)) (some (33,false)) [15,16,14],.mk (some 37) (.load false 1 (.tmp 36)) (some (33,false)) [17,14],.mk (some 38) (.call 96 [.tmp 37]) (some (33,false)) [18,14,14],.mk (some 39) (.un .not (.tmp 38)) (some (33,false)) [19,14],.mk (some 40) (.pick (.tmp 33) (.const (.bool true)) (.tmp 39)) none [14,20]]
def l98r5:List AOper:=l98r5a ++ l98r5b
def l98r6:List AOper :=
  [.mk (some 41) (.load true 5 (.tmp 6)) none [],.mk none (.store 5 (.tmp 4) (.tmp 41)) none [0,0],.mk (some 5) (.mv (.const (.bool false))) none [1,0,1]]
def l98r7:List AOper :=
  [.mk (some 42) (.mv (.tmp 1)) none [],.mk (some 43) (.mv (.tmp 7)) none [],.mk (some 44) (.idxA 1 (.tmp 42) (.tmp 43)) none [0,1],.mk (some 45) (.load false 1 (.tmp 44)) none [2],.mk (some 46) (.len (.tmp 45)) none [3],.mk (some 47) (.mv (.const (.int .i64 0))) none []]
def l98r8:List AOper :=
  [.mk (some 48) (.bin .lss (.tmp 47) (.tmp 46)) none []]
def l98r9:List AOper :=
  [.mk (some 49) (.mv (.tmp 47)) none [],.mk (some 50) (.idxA 1 (.tmp 45) (.tmp 47)) none [],.mk (some 51) (.load false 1 (.tmp 50)) none [1],.mk (some 9) (.mv (.tmp 49)) none [0,0,1,2],.mk (some 10) (.mv (.tmp 51)) none [2,3,0,1,2,3]]
def l98r10a:List AOper :=
  [.mk (some 52) (.mv (.tmp 10)) none [],.mk (some 53) (.idxP 1 5 (.tmp 6) (.tmp 52)) none [0],.mk (some 54) (.load false 1 (.tmp 53)) none [1],.mk (some 55) (.bin .geq (.tmp 54) (.const (.int .i64 0))) none [2],.mk (some 56) (.mv (.tmp 55)) none [3],.mk (some 57) (.mv (.tmp 10)) (some (56,true)) [4],.mk (some 58) (.idxP 1 5 (.tmp 6) (.tmp 57)) (some (56,true)) [5,4],.mk (some 59) (.load false 1 (.tmp 58)) (some (56,true)) [6,4],.mk (some 60) (.fld 0 (.tmp 8)) (some (56,true)) [4],.mk (some 61) (.load false 1 (.tmp 60)) (some (56,true)) [8,4],.mk (some 62) (.mv (.tmp 9)) (some (56,true)) [4],.mk (some 63) (.idxA 1 (.tmp 61) (.tmp 62)) (some (56,true)) [9,10,4],.mk (some 64) (.load false 1 (.tmp 63)) (some (56,true)) [11,4]]
def l98r10b:List AOper :=
  [.mk (some 65) (.bin .neq (.tmp 59) (.tmp 64)) (some (56,true)) [7,12,4],.mk (some 66) (.pick (.tmp 56) (.tmp 65) (.const (.bool false))) none [4,13]]
def l98r10:List AOper:=l98r10a ++ l98r10b
def l98r11:List AOper :=
  [.mk (some 67) (.load true 5 (.tmp 6)) none [],.mk none (.store 5 (.tmp 4) (.tmp 67)) none [0,0],.mk (some 5) (.mv (.const (.bool false))) none [1,0,1]]
def l98r12:List AOper :=
  [.mk (some 68) (.mv (.tmp 10)) none [],.mk (some 69) (.fld 0 (.tmp 8)) none [],.mk (some 70) (.load false 1 (.tmp 69)) none [1],.mk (some 71) (.mv (.tmp 9)) none [],.mk (some 72) (.idxA 1 (.tmp 70) (.tmp 71)) none [2,3],.mk (some 73) (.load false 1 (.tmp 72)) none [4],.mk (some 74) (.idxP 1 5 (.tmp 6) (.tmp 68)) none [0,0,1,2,3,4,5],.mk none (.store 1 (.tmp 74) (.tmp 73)) none [6,5,0,1,2,3,4,5]]
def l98r13:List AOper :=
  [.mk (some 75) (.bin .add (.tmp 47) (.const (.int .i64 1))) none [],.mk (some 47) (.mv (.tmp 75)) none [0]]
def l98r14:List AOper :=
  [.mk (some 76) (.bin .add (.tmp 14) (.const (.int .i64 1))) none [],.mk (some 14) (.mv (.tmp 76)) none [0]]
def l98r15:List AOper :=
  [.mk (some 77) (.load true 5 (.tmp 6)) none [],.mk none (.store 5 (.tmp 4) (.tmp 77)) none [0,0],.mk (some 5) (.mv (.const (.bool true))) none [1,0,1]]
def l98:AFn :=
  (AFn.mk 78 2 (.seq (.reg l98r0) (.seq (.reg l98r1) (.seq (.seq (.reg l98r2) (.block 0 (.loop (.seq (.reg l98r3) (.seq (.cond (.tmp 15) .skip (.exit 0)) (.seq (.block 1 (.seq (.reg l98r4) (.seq (.seq (.draw l98r5) (.cond (.tmp 40) (.seq (.reg l98r6) .ret) .skip)) (.seq (.reg l98r7) (.block 2 (.loop (.seq (.reg l98r8) (.seq (.cond (.tmp 48) .skip (.exit 2)) (.seq (.block 3 (.seq (.reg l98r9) (.seq (.seq (.draw l98r10) (.cond (.tmp 66) (.seq (.reg l98r11) .ret) .skip)) (.reg l98r12)))) (.reg l98r13)))))))))) (.reg l98r14))))))) (.seq (.reg l98r15) .ret)))) [.cell 4 true 5,.tmp 5])
theorem l98_eq:lowFn Try.prog 98=some l98:=by kernel_rfl
def l99r0:List AOper :=
  [.mk (some 2) (.mv (.const (.int .i64 0))) none []]
def l99r1:List AOper :=
  [.mk (some 3) (.mv (.const (.int .i64 1))) none []]
def l99r2:List AOper :=
  [.mk (some 6) (.mv (.tmp 0)) none [],.mk (some 7) (.len (.tmp 6)) none [0],.mk (some 8) (.mv (.const (.int .i64 0))) none []]
def l99r3:List AOper :=
  [.mk (some 9) (.bin .lss (.tmp 8) (.tmp 7)) none []]
def l99r4:List AOper :=
  [.mk (some 10) (.idxA 1 (.tmp 6) (.tmp 8)) none [],.mk (some 11) (.load false 1 (.tmp 10)) none [0],.mk (some 5) (.mv (.tmp 11)) none [1,0,1]]
def l99r5:List AOper :=
  [.mk (some 12) (.mv (.tmp 3)) none [],.mk (some 13) (.mv (.tmp 5)) none [],.mk (some 14) (.bin .mul (.tmp 12) (.tmp 13)) none [0,1],.mk (some 3) (.mv (.tmp 14)) none [2,0,1,2]]
def l99r6:List AOper :=
  [.mk (some 15) (.bin .add (.tmp 8) (.const (.int .i64 1))) none [],.mk (some 8) (.mv (.tmp 15)) none [0]]
def l99r7:List AOper :=
  [.mk (some 16) (.mv (.tmp 3)) none [],.mk (some 2) (.mv (.tmp 16)) none [0,0]]
def l99:AFn :=
  (AFn.mk 17 1 (.seq (.reg l99r0) (.seq (.reg l99r1) (.seq (.seq (.reg l99r2) (.block 0 (.loop (.seq (.reg l99r3) (.seq (.cond (.tmp 9) .skip (.exit 0)) (.seq (.block 1 (.seq (.reg l99r4) (.reg l99r5))) (.reg l99r6))))))) (.seq (.reg l99r7) .ret)))) [.tmp 2])
theorem l99_eq:lowFn Try.prog 99=some l99:=by kernel_rfl
def l100r0:List AOper :=
  [.mk (some 2) (.box (.tmp 0)) none [],.mk (some 4) (.alloc [.slice none 0 0,.slice none 0 0,.int .i64 0,.int .i64 0,.int .i64 0,.int .i64 0,.int .i64 0]) none []]
def l100r1a:List AOper :=
  [.mk (some 8) (.fld 1 (.tmp 2)) none [],.mk (some 9) (.load false 1 (.tmp 8)) none [0],.mk (some 10) (.mv (.tmp 1)) none [],.mk (some 11) (.bslice 1 [.slice none 0 0] [(0,.tmp 10)] 1) none [2],.mk (some 12) (.call 55 [.tmp 11]) none [3],.mk (some 13) (.build [.slice none 0 0,.slice none 0 0,.int .i64 0,.int .i64 0,.int .i64 0,.int .i64 0,.int .i64 0] [(0,1,.tmp 9),(1,1,.tmp 12)]) none [1,4],.mk (some 5) (.alloc [.slice none 0 0,.slice none 0 0,.int .i64 0,.int .i64 0,.int .i64 0,.int .i64 0,.int .i64 0]) none []]
def l100r1b:List AOper :=
  [.mk none (.store 7 (.tmp 5) (.tmp 13)) none [6,5,4,0,1,2,3,4,5,6]]
def l100r1:List AOper:=l100r1a ++ l100r1b
def l100r2:List AOper :=
  [.mk (some 14) (.fld 0 (.tmp 2)) none [],.mk (some 15) (.load false 1 (.tmp 14)) none [0],.mk (some 16) (.call 121 [.tmp 15]) none [1],.mk (some 17) (.len (.tmp 16)) none [2],.mk (some 18) (.mv (.const (.int .i64 0))) none []]
def l100r3:List AOper :=
  [.mk (some 19) (.bin .lss (.tmp 18) (.tmp 17)) none []]
def l100r4:List AOper :=
  [.mk (some 20) (.mv (.tmp 18)) none [],.mk (some 21) (.idxA 1 (.tmp 16) (.tmp 18)) none [],.mk (some 22) (.load false 1 (.tmp 21)) none [1],.mk (some 6) (.mv (.tmp 20)) none [0,0,1,2],.mk (some 7) (.mv (.tmp 22)) none [2,3,0,1,2,3]]
def l100r5:List AOper :=
  [.mk (some 23) (.mv (.tmp 1)) none [],.mk (some 24) (.mv (.tmp 6)) none [],.mk (some 25) (.idxA 1 (.tmp 23) (.tmp 24)) none [0,1],.mk (some 26) (.load false 1 (.tmp 25)) none [2],.mk (some 27) (.fld 2 (.tmp 5)) none [],.mk (some 28) (.idxP 1 5 (.tmp 27) (.tmp 26)) none [4,3],.mk (some 29) (.load false 1 (.tmp 28)) none [5],.mk (some 30) (.mv (.tmp 7)) none [],.mk (some 31) (.bin .add (.tmp 29) (.tmp 30)) none [6,7],.mk (some 32) (.fld 2 (.tmp 5)) none [],.mk (some 33) (.idxP 1 5 (.tmp 32) (.tmp 26)) none [9,3,0,1,2,3,4,5,6,7,8],.mk none (.store 1 (.tmp 33) (.tmp 31)) none [10,8,0,1,2,3,4,5,6,7,8]]
def l100r6:List AOper :=
  [.mk (some 34) (.bin .add (.tmp 18) (.const (.int .i64 1))) none [],.mk (some 18) (.mv (.tmp 34)) none [0]]
def l100r7:List AOper :=
  [.mk (some 35) (.load true 7 (.tmp 5)) none [],.mk none (.store 7 (.tmp 4) (.tmp 35)) none [0,0]]
def l100:AFn :=
  (AFn.mk 36 2 (.seq (.reg l100r0) (.seq (.draw l100r1) (.seq (.seq (.reg l100r2) (.block 0 (.loop (.seq (.reg l100r3) (.seq (.cond (.tmp 19) .skip (.exit 0)) (.seq (.block 1 (.seq (.reg l100r4) (.reg l100r5))) (.reg l100r6))))))) (.seq (.reg l100r7) .ret)))) [.cell 4 true 7])
theorem l100_eq:lowFn Try.prog 100=some l100:=by kernel_rfl
def l101r0:List AOper :=
  [.mk (some 2) (.box (.tmp 0)) none [],.mk (some 3) (.box (.tmp 1)) none [],.mk (some 4) (.mv (.const (.int .i64 0))) none []]
def l101r1a:List AOper :=
  [.mk (some 5) (.fld 0 (.tmp 2)) none [],.mk (some 6) (.load false 1 (.tmp 5)) none [0],.mk (some 7) (.fld 1 (.tmp 2)) none [],.mk (some 8) (.load false 1 (.tmp 7)) none [2],.mk (some 9) (.load true 5 (.tmp 3)) none [],.mk (some 10) (.mkfn (Fn.func 123) [.tmp 9] []) none [4],.mk (some 11) (.fld 2 (.tmp 2)) none [],.mk (some 12) (.load true 5 (.tmp 11)) none [6],.mk (some 13) (.mkfn (Fn.func 123) [.tmp 12] []) none [7],.mk (some 14) (.bslice 1 [.nilFunc] [(0,.tmp 10),(1,.tmp 13)] 2) none [5,8],.mk (some 15) (.call 122 [.tmp 8,.tmp 14]) none [3,9]]
def l101r1b:List AOper :=
  [.mk (some 16) (.idxA 1 (.tmp 6) (.tmp 15)) none [1,10],.mk (some 17) (.load false 1 (.tmp 16)) none [11],.mk (some 4) (.mv (.tmp 17)) none [12,10,0,1,2,3,4,5,6,7,8,9,10,11,12]]
def l101r1:List AOper:=l101r1a ++ l101r1b
def l101:AFn :=
  (AFn.mk 18 2 (.seq (.reg l101r0) (.seq (.draw l101r1) .ret)) [.tmp 4])
theorem l101_eq:lowFn Try.prog 101=some l101:=by kernel_rfl
def l102r0:List AOper :=
  [.mk (some 3) (.box (.tmp 0)) none [],.mk (some 5) (.box (.tmp 2)) none [],.mk (some 6) (.mv (.const (.slice none 0 0))) none []]
def l102r1:List AOper :=
  [.mk (some 12) (.load true 5 (.tmp 3)) none [],.mk (some 13) (.mv (.tmp 1)) none [],.mk (some 14) (.call 57 [.tmp 12,.tmp 13]) none [0,1],.mk (some 15) (.call 99 [.tmp 14]) none [2,2],.mk (some 16) (.mkslice 5 [.int .i64 0,.int .i64 0,.int .i64 0,.int .i64 0,.int .i64 0] (.tmp 15) (.tmp 15)) none [3,3],.mk (some 7) (.alloc [.slice none 0 0]) none [],.mk none (.store 1 (.tmp 7) (.tmp 16)) none [5,4,3,0,1,2,3,4,5]]
def l102r2:List AOper :=
  [.mk (some 17) (.load false 1 (.tmp 7)) none [],.mk (some 18) (.len (.tmp 17)) none [0],.mk (some 19) (.mv (.const (.int .i64 0))) none []]
def l102r3:List AOper :=
  [.mk (some 20) (.bin .lss (.tmp 19) (.tmp 18)) none []]
def l102r4:List AOper :=
  [.mk (some 21) (.mv (.tmp 19)) none [],.mk (some 8) (.alloc [.int .i64 0]) none [],.mk none (.store 1 (.tmp 8) (.tmp 21)) none [1,0,0,1]]
def l102r5:List AOper :=
  [.mk (some 22) (.load false 1 (.tmp 7)) none [],.mk (some 23) (.load false 1 (.tmp 8)) none [],.mk (some 24) (.load true 5 (.tmp 5)) none [],.mk (some 25) (.idxA 5 (.tmp 22) (.tmp 23)) none [0,1,0,1,2],.mk none (.store 5 (.tmp 25) (.tmp 24)) none [3,2,0,1,2]]
def l102r6:List AOper :=
  [.mk (some 26) (.load false 1 (.tmp 8)) none [],.mk (some 9) (.alloc [.int .i64 0]) none [],.mk none (.store 1 (.tmp 9) (.tmp 26)) none [1,0,0,1]]
def l102r7:List AOper :=
  [.mk (some 27) (.mv (.tmp 1)) none [],.mk (some 28) (.call 124 [.tmp 27]) none [0]]
def l102r8:List AOper :=
  [.mk (some 11) (.mv (.tmp 30)) none []]
def l102r9a:List AOper :=
  [.mk (some 31) (.load false 1 (.tmp 7)) none [],.mk (some 32) (.load false 1 (.tmp 8)) none [],.mk (some 33) (.mv (.tmp 11)) none [],.mk (some 34) (.load false 1 (.tmp 9)) none [],.mk (some 35) (.mv (.tmp 11)) none [],.mk (some 36) (.idxP 1 5 (.tmp 3) (.tmp 35)) none [4],.mk (some 37) (.load false 1 (.tmp 36)) none [5],.mk (some 38) (.bin .rem (.tmp 34) (.tmp 37)) none [3,6],.mk (some 39) (.idxA 5 (.tmp 31) (.tmp 32)) none [0,1]]
def l102r9b:List AOper :=
  [.mk (some 40) (.idxP 1 5 (.tmp 39) (.tmp 33)) none [8,2,0,1,2,3,4,5,6,7],.mk none (.store 1 (.tmp 40) (.tmp 38)) none [9,7,0,1,2,3,4,5,6,7]]
def l102r9:List AOper:=l102r9a ++ l102r9b
def l102r10a:List AOper :=
  [.mk (some 41) (.load false 1 (.tmp 9)) none [],.mk (some 42) (.mv (.tmp 11)) none [],.mk (some 43) (.idxP 1 5 (.tmp 3) (.tmp 42)) none [1],.mk (some 44) (.load false 1 (.tmp 43)) none [2]]
def l102r10b:List AOper :=
  [.mk (some 45) (.bin .quo (.tmp 41) (.tmp 44)) none [0,3],.mk none (.store 1 (.tmp 9) (.tmp 45)) none [4,0,1,2,3,4]]
def l102r10:List AOper:=l102r10a ++ l102r10b
def l102r11:List AOper :=
  [.mk (some 46) (.bin .add (.tmp 19) (.const (.int .i64 1))) none [],.mk (some 19) (.mv (.tmp 46)) none [0]]
def l102r12:List AOper :=
  [.mk (some 47) (.load false 1 (.tmp 7)) none [],.mk (some 6) (.mv (.tmp 47)) none [0,0]]
def l102:AFn :=
  (AFn.mk 48 3 (.seq (.reg l102r0) (.seq (.reg l102r1) (.seq (.seq (.reg l102r2) (.block 0 (.loop (.seq (.reg l102r3) (.seq (.cond (.tmp 20) .skip (.exit 0)) (.seq (.block 1 (.seq (.reg l102r4) (.seq (.reg l102r5) (.seq (.reg l102r6) (.seq (.reg l102r7) (.block 2 (.rf (.tmp 28) [29,30] (.reg l102r8) (.block 3 (.seq (.draw l102r9) (.draw l102r10)))))))))) (.reg l102r11))))))) (.seq (.reg l102r12) .ret)))) [.tmp 6])
theorem l102_eq:lowFn Try.prog 102=some l102:=by kernel_rfl
def l103r0:List AOper :=
  [.mk (some 4) (.mv (.const (.int .i64 0))) none []]
def l103r1:List AOper :=
  [.mk (some 5) (.mv (.const (.int .i64 0))) none []]
def l103r2:List AOper :=
  [.mk (some 11) (.mv (.tmp 0)) none [],.mk (some 12) (.len (.tmp 11)) none [0],.mk (some 13) (.mv (.const (.int .i64 0))) none []]
def l103r3:List AOper :=
  [.mk (some 14) (.bin .lss (.tmp 13) (.tmp 12)) none []]
def l103r4:List AOper :=
  [.mk (some 15) (.idxA 5 (.tmp 11) (.tmp 13)) none [],.mk (some 16) (.load true 5 (.tmp 15)) none [0],.mk (some 7) (.alloc [.int .i64 0,.int .i64 0,.int .i64 0,.int .i64 0,.int .i64 0]) none [],.mk none (.store 5 (.tmp 7) (.tmp 16)) none [2,1,0,1,2]]
def l103r5:List AOper :=
  [.mk (some 8) (.mv (.const (.int .i64 1))) none []]
def l103r6:List AOper :=
  [.mk (some 17) (.mv (.tmp 1)) none [],.mk (some 18) (.len (.tmp 17)) none [0],.mk (some 19) (.mv (.const (.int .i64 0))) none []]
def l103r7:List AOper :=
  [.mk (some 20) (.bin .lss (.tmp 19) (.tmp 18)) none []]
def l103r8:List AOper :=
  [.mk (some 21) (.idxA 1 (.tmp 17) (.tmp 19)) none [],.mk (some 22) (.load false 1 (.tmp 21)) none [0],.mk (some 10) (.mv (.tmp 22)) none [1,0,1]]
def l103r9:List AOper :=
  [.mk (some 23) (.mv (.tmp 8)) none [],.mk (some 24) (.mv (.tmp 10)) none [],.mk (some 25) (.load true 5 (.tmp 7)) none [],.mk (some 26) (.raw (Op.call (Call.mk (Callee.value (.tmp 24)) (Array.mk [.tmp 25]) (Array.mk [71])))) none [1,2],.mk (some 27) (.bin .mul (.tmp 23) (.tmp 26)) none [0,3],.mk (some 8) (.mv (.tmp 27)) none [4,3,0,1,2,3,4]]
def l103r10:List AOper :=
  [.mk (some 28) (.bin .add (.tmp 19) (.const (.int .i64 1))) none [],.mk (some 19) (.mv (.tmp 28)) none [0]]
def l103r11:List AOper :=
  [.mk (some 29) (.mv (.tmp 5)) none [],.mk (some 30) (.mv (.tmp 8)) none [],.mk (some 31) (.bin .add (.tmp 29) (.tmp 30)) none [0,1],.mk (some 5) (.mv (.tmp 31)) none [2,0,1,2]]
def l103r12:List AOper :=
  [.mk (some 32) (.bin .add (.tmp 13) (.const (.int .i64 1))) none [],.mk (some 13) (.mv (.tmp 32)) none [0]]
def l103r13:List AOper :=
  [.mk (some 33) (.mv (.tmp 5)) none [],.mk (some 4) (.mv (.tmp 33)) none [0,0]]
def l103:AFn :=
  (AFn.mk 34 2 (.seq (.reg l103r0) (.seq (.reg l103r1) (.seq (.seq (.reg l103r2) (.block 0 (.loop (.seq (.reg l103r3) (.seq (.cond (.tmp 14) .skip (.exit 0)) (.seq (.block 1 (.seq (.reg l103r4) (.seq (.reg l103r5) (.seq (.seq (.reg l103r6) (.block 2 (.loop (.seq (.reg l103r7) (.seq (.cond (.tmp 20) .skip (.exit 2)) (.seq (.block 3 (.seq (.reg l103r8) (.reg l103r9))) (.reg l103r10))))))) (.reg l103r11))))) (.reg l103r12))))))) (.seq (.reg l103r13) .ret)))) [.tmp 4])
theorem l103_eq:lowFn Try.prog 103=some l103:=by kernel_rfl
def l104r0:List AOper :=
  [.mk (some 4) (.mv (.const (.bool false))) none []]
def l104r1:List AOper :=
  [.mk (some 5) (.mv (.tmp 1)) none [],.mk (some 6) (.un .neg (.tmp 5)) none [0],.mk (some 7) (.mv (.tmp 0)) none [],.mk (some 8) (.bin .leq (.tmp 6) (.tmp 7)) none [1,2],.mk (some 9) (.mv (.tmp 8)) none [3],.mk (some 10) (.mv (.tmp 0)) (some (9,true)) [4],.mk (some 11) (.mv (.tmp 1)) (some (9,true)) [4],.mk (some 12) (.bin .leq (.tmp 10) (.tmp 11)) (some (9,true)) [5,6,4],.mk (some 13) (.pick (.tmp 9) (.tmp 12) (.const (.bool false))) none [4,7],.mk (some 4) (.mv (.tmp 13)) none [8,4,0,1,2,3,4,5,6,7,8]]
def l104:AFn :=
  (AFn.mk 14 2 (.seq (.reg l104r0) (.seq (.reg l104r1) .ret)) [.tmp 4])
theorem l104_eq:lowFn Try.prog 104=some l104:=by kernel_rfl
def l106r0:List AOper :=
  [.mk (some 2) (.mv (.const (.bool false))) none []]
def l106r1:List AOper :=
  [.mk (some 3) (.mv (.tmp 0)) none [],.mk (some 4) (.len (.tmp 3)) none [0],.mk (some 5) (.bin .leq (.tmp 4) (.const (.int .i64 4))) none [1],.mk (some 6) (.mv (.tmp 5)) none [2],.mk (some 7) (.mv (.tmp 0)) (some (6,true)) [3],.mk (some 8) (.call 62 [.tmp 7,.const (.int .i64 0),.const (.int .i64 60)]) (some (6,true)) [4,3,3],.mk (some 9) (.pick (.tmp 6) (.tmp 8) (.const (.bool false))) none [3,5],.mk (some 10) (.mv (.tmp 9)) none [6,5],.mk (some 11) (.mv (.tmp 0)) (some (10,true)) [7],.mk (some 12) (.call 107 [.tmp 11]) (some (10,true)) [8,7,7],.mk (some 13) (.bin .leq (.tmp 12) (.const (.int .i64 60))) (some (10,true)) [9,7],.mk (some 14) (.pick (.tmp 10) (.tmp 13) (.const (.bool false))) none [7,10],.mk (some 2) (.mv (.tmp 14)) none [11,9,0,1,2,3,4,5,6,7,8,9,10,11]]
def l106:AFn :=
  (AFn.mk 15 1 (.seq (.reg l106r0) (.seq (.reg l106r1) .ret)) [.tmp 2])
theorem l106_eq:lowFn Try.prog 106=some l106:=by kernel_rfl
def l107r0:List AOper :=
  [.mk (some 2) (.mv (.const (.int .i64 0))) none []]
def l107r1:List AOper :=
  [.mk (some 3) (.mv (.const (.int .i64 1))) none []]
def l107r2:List AOper :=
  [.mk (some 4) (.mv (.const (.int .i64 0))) none []]
def l107r3:List AOper :=
  [.mk (some 5) (.mv (.tmp 4)) none [],.mk (some 6) (.mv (.tmp 0)) none [],.mk (some 7) (.len (.tmp 6)) none [1],.mk (some 8) (.bin .lss (.tmp 5) (.tmp 7)) none [0,2]]
def l107r4:List AOper :=
  [.mk (some 11) (.mv (.tmp 3)) none [],.mk (some 12) (.mv (.tmp 0)) none [],.mk (some 13) (.mv (.tmp 4)) none [],.mk (some 14) (.idxA 1 (.tmp 12) (.tmp 13)) none [1,2],.mk (some 15) (.load false 1 (.tmp 14)) none [3],.mk (some 16) (.bin .mul (.tmp 11) (.tmp 15)) none [0,4],.mk (some 3) (.mv (.tmp 16)) none [5,0,1,2,3,4,5]]
def l107r5:List AOper :=
  [.mk (some 9) (.mv (.tmp 4)) none [],.mk (some 10) (.bin .add (.tmp 9) (.const (.int .i64 1))) none [0],.mk (some 4) (.mv (.tmp 10)) none [1,0,1]]
def l107r6:List AOper :=
  [.mk (some 17) (.mv (.tmp 3)) none [],.mk (some 2) (.mv (.tmp 17)) none [0,0]]
def l107:AFn :=
  (AFn.mk 18 1 (.seq (.reg l107r0) (.seq (.reg l107r1) (.seq (.seq (.reg l107r2) (.block 0 (.loop (.seq (.seq (.reg l107r3) (.cond (.tmp 8) .skip (.exit 0))) (.seq (.block 1 (.reg l107r4)) (.reg l107r5)))))) (.seq (.reg l107r6) .ret)))) [.tmp 2])
theorem l107_eq:lowFn Try.prog 107=some l107:=by kernel_rfl
def l108r0:List AOper :=
  [.mk (some 2) (.mv (.const (.bool false))) none []]
def l108r1:List AOper :=
  [.mk (some 3) (.mv (.const (.int .i64 0))) none []]
def l108r2:List AOper :=
  [.mk (some 4) (.mv (.tmp 3)) none [],.mk (some 5) (.mv (.tmp 0)) none [],.mk (some 6) (.len (.tmp 5)) none [1],.mk (some 7) (.bin .lss (.tmp 4) (.tmp 6)) none [0,2]]
def l108r3a:List AOper :=
  [.mk (some 10) (.mv (.tmp 0)) none [],.mk (some 11) (.mv (.tmp 3)) none [],.mk (some 12) (.slice 1 (.tmp 10) none (some (.tmp 11))) none [0,1],.mk (some 13) (.mv (.tmp 0)) none [],.mk (some 14) (.mv (.tmp 3)) none [],.mk (some 15) (.idxA 1 (.tmp 13) (.tmp 14)) none [3,4],.mk (some 16) (.load false 1 (.tmp 15)) none [5]]
def l108r3b:List AOper :=
  [.mk (some 17) (.call 86 [.tmp 12,.tmp 16]) none [2,6],.mk (some 18) (.bin .geq (.tmp 17) (.const (.int .i64 0))) none [7]]
def l108r3:List AOper:=l108r3a ++ l108r3b
def l108r4:List AOper :=
  [.mk (some 2) (.mv (.const (.bool false))) none []]
def l108r5:List AOper :=
  [.mk (some 8) (.mv (.tmp 3)) none [],.mk (some 9) (.bin .add (.tmp 8) (.const (.int .i64 1))) none [0],.mk (some 3) (.mv (.tmp 9)) none [1,0,1]]
def l108r6:List AOper :=
  [.mk (some 2) (.mv (.const (.bool true))) none []]
def l108:AFn :=
  (AFn.mk 19 1 (.seq (.reg l108r0) (.seq (.seq (.reg l108r1) (.block 0 (.loop (.seq (.seq (.reg l108r2) (.cond (.tmp 7) .skip (.exit 0))) (.seq (.block 1 (.seq (.draw l108r3) (.cond (.tmp 18) (.seq (.reg l108r4) .ret) .skip))) (.reg l108r5)))))) (.seq (.reg l108r6) .ret))) [.tmp 2])
theorem l108_eq:lowFn Try.prog 108=some l108:=by kernel_rfl
def l109r0:List AOper :=
  [.mk (some 4) (.mv (.const (.bool false))) none []]
def l109r1:List AOper :=
  [.mk (some 5) (.mv (.tmp 0)) none [],.mk (some 6) (.mv (.tmp 1)) none [],.mk (some 7) (.call 126 [.tmp 5,.tmp 6]) none [0,1],.mk (some 8) (.bin .geq (.tmp 7) (.const (.int .i64 0))) none [2],.mk (some 4) (.mv (.tmp 8)) none [3,2,0,1,2,3]]
def l109:AFn :=
  (AFn.mk 9 2 (.seq (.reg l109r0) (.seq (.reg l109r1) .ret)) [.tmp 4])
theorem l109_eq:lowFn Try.prog 109=some l109:=by kernel_rfl
def l110r0:List AOper :=
  [.mk (some 1) (.box (.tmp 0)) none [],.mk (some 2) (.mv (.const (.int .i64 0))) none []]
def l110r1a:List AOper :=
  [.mk (some 5) (.fld 1 (.tmp 1)) none [],.mk (some 6) (.load false 1 (.tmp 5)) none [0],.mk (some 7) (.fld 0 (.tmp 1)) none [],.mk (some 8) (.load false 1 (.tmp 7)) none [2],.mk (some 9) (.bin .sub (.tmp 6) (.tmp 8)) none [1,3],.mk (some 10) (.fld 2 (.tmp 1)) none [],.mk (some 11) (.load false 1 (.tmp 10)) none [5],.mk (some 3) (.mv (.tmp 9)) none [4,0,1,2,3,4]]
def l110r1b:List AOper :=
  [.mk (some 4) (.mv (.tmp 11)) none [6,7,0,1,2,3,4,5,6,7]]
def l110r1:List AOper:=l110r1a ++ l110r1b
def l110r2:List AOper :=
  [.mk (some 12) (.mv (.tmp 4)) none [],.mk (some 13) (.bin .lss (.tmp 12) (.const (.int .i64 0))) none [0]]
def l110r3:List AOper :=
  [.mk (some 14) (.mv (.tmp 3)) none [],.mk (some 15) (.un .neg (.tmp 14)) none [0],.mk (some 16) (.mv (.tmp 4)) none [],.mk (some 17) (.un .neg (.tmp 16)) none [2],.mk (some 3) (.mv (.tmp 15)) none [1,0,1],.mk (some 4) (.mv (.tmp 17)) none [3,4,0,1,2,3,4]]
def l110r4:List AOper :=
  [.mk (some 18) (.mv (.tmp 3)) none [],.mk (some 19) (.bin .leq (.tmp 18) (.const (.int .i64 0))) none [0]]
def l110r5:List AOper :=
  [.mk (some 2) (.mv (.const (.int .i64 0))) none []]
def l110r6:List AOper :=
  [.mk (some 20) (.mv (.tmp 3)) none [],.mk (some 21) (.mv (.tmp 4)) none [],.mk (some 22) (.bin .add (.tmp 20) (.tmp 21)) none [0,1],.mk (some 23) (.bin .sub (.tmp 22) (.const (.int .i64 1))) none [2],.mk (some 24) (.mv (.tmp 4)) none [],.mk (some 25) (.bin .quo (.tmp 23) (.tmp 24)) none [3,4],.mk (some 2) (.mv (.tmp 25)) none [5,0,1,2,3,4,5]]
def l110:AFn :=
  (AFn.mk 26 1 (.seq (.reg l110r0) (.seq (.draw l110r1) (.seq (.seq (.reg l110r2) (.cond (.tmp 13) (.reg l110r3) .skip)) (.seq (.seq (.reg l110r4) (.cond (.tmp 19) (.seq (.reg l110r5) .ret) .skip)) (.seq (.reg l110r6) .ret))))) [.tmp 2])
theorem l110_eq:lowFn Try.prog 110=some l110:=by kernel_rfl
def l111r0:List AOper :=
  [.mk (some 2) (.box (.tmp 0)) none [],.mk (some 4) (.mv (.const (.int .i64 0))) none []]
def l111r1:List AOper :=
  [.mk (some 5) (.fld 0 (.tmp 2)) none [],.mk (some 6) (.load false 1 (.tmp 5)) none [0],.mk (some 7) (.mv (.tmp 1)) none [],.mk (some 8) (.fld 2 (.tmp 2)) none [],.mk (some 9) (.load false 1 (.tmp 8)) none [3],.mk (some 10) (.bin .mul (.tmp 7) (.tmp 9)) none [2,4],.mk (some 11) (.bin .add (.tmp 6) (.tmp 10)) none [1,5],.mk (some 4) (.mv (.tmp 11)) none [6,0,1,2,3,4,5,6]]
def l111:AFn :=
  (AFn.mk 12 2 (.seq (.reg l111r0) (.seq (.reg l111r1) .ret)) [.tmp 4])
theorem l111_eq:lowFn Try.prog 111=some l111:=by kernel_rfl
def l113r0:List AOper :=
  [.mk (some 2) (.box (.tmp 0)) none [],.mk (some 4) (.mv (.const (.int .i64 0))) none []]
def l113r1:List AOper :=
  [.mk (some 7) (.fld 0 (.tmp 2)) none [],.mk (some 8) (.load false 1 (.tmp 7)) none [0],.mk (some 5) (.mv (.tmp 8)) none [1,0,1]]
def l113r2:List AOper :=
  [.mk (some 6) (.mv (.const (.int .i64 0))) none []]
def l113r3:List AOper :=
  [.mk (some 9) (.mv (.tmp 6)) none [],.mk (some 10) (.mv (.tmp 1)) none [],.mk (some 11) (.len (.tmp 10)) none [1],.mk (some 12) (.bin .lss (.tmp 9) (.tmp 11)) none [0,2]]
def l113r4a:List AOper :=
  [.mk (some 15) (.mv (.tmp 5)) none [],.mk (some 16) (.mv (.tmp 1)) none [],.mk (some 17) (.mv (.tmp 6)) none [],.mk (some 18) (.idxA 1 (.tmp 16) (.tmp 17)) none [1,2],.mk (some 19) (.load false 1 (.tmp 18)) none [3],.mk (some 20) (.fld 2 (.tmp 2)) none [],.mk (some 21) (.load false 1 (.tmp 20)) none [5],.mk (some 22) (.mv (.tmp 6)) none [],.mk (some 23) (.idxA 1 (.tmp 21) (.tmp 22)) none [6,7],.mk (some 24) (.load false 1 (.tmp 23)) none [8],.mk (some 25) (.bin .mul (.tmp 19) (.tmp 24)) none [4,9]]
def l113r4b:List AOper :=
  [.mk (some 26) (.bin .add (.tmp 15) (.tmp 25)) none [0,10],.mk (some 5) (.mv (.tmp 26)) none [11,0,1,2,3,4,5,6,7,8,9,10,11]]
def l113r4:List AOper:=l113r4a ++ l113r4b
def l113r5:List AOper :=
  [.mk (some 13) (.mv (.tmp 6)) none [],.mk (some 14) (.bin .add (.tmp 13) (.const (.int .i64 1))) none [0],.mk (some 6) (.mv (.tmp 14)) none [1,0,1]]
def l113r6:List AOper :=
  [.mk (some 27) (.mv (.tmp 5)) none [],.mk (some 4) (.mv (.tmp 27)) none [0,0]]
def l113:AFn :=
  (AFn.mk 28 2 (.seq (.reg l113r0) (.seq (.reg l113r1) (.seq (.seq (.reg l113r2) (.block 0 (.loop (.seq (.seq (.reg l113r3) (.cond (.tmp 12) .skip (.exit 0))) (.seq (.block 1 (.draw l113r4)) (.reg l113r5)))))) (.seq (.reg l113r6) .ret)))) [.tmp 4])
theorem l113_eq:lowFn Try.prog 113=some l113:=by kernel_rfl
def l114r0:List AOper :=
  [.mk (some 4) (.mv (.const (.slice none 0 0))) none []]
def l114r1:List AOper :=
  [.mk (some 7) (.mv (.tmp 0)) none [],.mk (some 8) (.len (.tmp 7)) none [0],.mk (some 9) (.mkslice 1 [.int .i64 0] (.tmp 8) (.tmp 8)) none [1,1],.mk (some 5) (.mv (.tmp 9)) none [2,0,1,2]]
def l114r2:List AOper :=
  [.mk (some 10) (.mv (.tmp 0)) none [],.mk (some 11) (.len (.tmp 10)) none [0],.mk (some 12) (.bin .sub (.tmp 11) (.const (.int .i64 1))) none [1],.mk (some 6) (.mv (.tmp 12)) none [2,0,1,2]]
def l114r3:List AOper :=
  [.mk (some 13) (.mv (.tmp 6)) none [],.mk (some 14) (.bin .geq (.tmp 13) (.const (.int .i64 0))) none [0]]
def l114r4:List AOper :=
  [.mk (some 17) (.mv (.tmp 5)) none [],.mk (some 18) (.mv (.tmp 6)) none [],.mk (some 19) (.mv (.tmp 1)) none [],.mk (some 20) (.mv (.tmp 0)) none [],.mk (some 21) (.mv (.tmp 6)) none [],.mk (some 22) (.idxA 1 (.tmp 20) (.tmp 21)) none [3,4],.mk (some 23) (.load false 1 (.tmp 22)) none [5],.mk (some 24) (.bin .rem (.tmp 19) (.tmp 23)) none [2,6],.mk (some 25) (.idxA 1 (.tmp 17) (.tmp 18)) none [0,1,0,1,2,3,4,5,6,7],.mk none (.store 1 (.tmp 25) (.tmp 24)) none [8,7,0,1,2,3,4,5,6,7]]
def l114r5:List AOper :=
  [.mk (some 26) (.mv (.tmp 1)) none [],.mk (some 27) (.mv (.tmp 0)) none [],.mk (some 28) (.mv (.tmp 6)) none [],.mk (some 29) (.idxA 1 (.tmp 27) (.tmp 28)) none [1,2],.mk (some 30) (.load false 1 (.tmp 29)) none [3],.mk (some 31) (.bin .quo (.tmp 26) (.tmp 30)) none [0,4],.mk (some 1) (.mv (.tmp 31)) none [5,0,1,2,3,4,5]]
def l114r6:List AOper :=
  [.mk (some 15) (.mv (.tmp 6)) none [],.mk (some 16) (.bin .sub (.tmp 15) (.const (.int .i64 1))) none [0],.mk (some 6) (.mv (.tmp 16)) none [1,0,1]]
def l114r7:List AOper :=
  [.mk (some 32) (.mv (.tmp 5)) none [],.mk (some 4) (.mv (.tmp 32)) none [0,0]]
def l114:AFn :=
  (AFn.mk 33 2 (.seq (.reg l114r0) (.seq (.reg l114r1) (.seq (.seq (.reg l114r2) (.block 0 (.loop (.seq (.seq (.reg l114r3) (.cond (.tmp 14) .skip (.exit 0))) (.seq (.block 1 (.seq (.reg l114r4) (.reg l114r5))) (.reg l114r6)))))) (.seq (.reg l114r7) .ret)))) [.tmp 4])
theorem l114_eq:lowFn Try.prog 114=some l114:=by kernel_rfl
def l121r0:List AOper :=
  [.mk (some 2) (.mv (.const (.slice none 0 0))) none []]
def l121r1:List AOper :=
  [.mk (some 5) (.mv (.tmp 0)) none [],.mk (some 6) (.call 58 [.tmp 5]) none [0],.mk (some 7) (.un .not (.tmp 6)) none [1]]
def l121r2:List AOper :=
  [.mk (some 2) (.mv (.const (.slice none 0 0))) none []]
def l121r3:List AOper :=
  [.mk (some 8) (.mv (.tmp 0)) none [],.mk (some 9) (.len (.tmp 8)) none [0],.mk (some 10) (.mkslice 1 [.int .i64 0] (.tmp 9) (.tmp 9)) none [1,1],.mk (some 3) (.mv (.tmp 10)) none [2,0,1,2]]
def l121r4:List AOper :=
  [.mk (some 11) (.mv (.tmp 3)) none [],.mk (some 12) (.len (.tmp 11)) none [0],.mk (some 13) (.mv (.const (.int .i64 0))) none []]
def l121r5:List AOper :=
  [.mk (some 14) (.bin .lss (.tmp 13) (.tmp 12)) none []]
def l121r6:List AOper :=
  [.mk (some 15) (.mv (.tmp 13)) none [],.mk (some 4) (.mv (.tmp 15)) none [0,0]]
def l121r7:List AOper :=
  [.mk (some 16) (.mv (.tmp 3)) none [],.mk (some 17) (.mv (.tmp 4)) none [],.mk (some 18) (.mv (.tmp 0)) none [],.mk (some 19) (.mv (.tmp 4)) none [],.mk (some 20) (.bin .add (.tmp 19) (.const (.int .i64 1))) none [3],.mk (some 21) (.slice 1 (.tmp 18) (some (.tmp 20)) none) none [2,4],.mk (some 22) (.call 99 [.tmp 21]) none [5],.mk (some 23) (.idxA 1 (.tmp 16) (.tmp 17)) none [0,1,0,1,2,3,4,5,6],.mk none (.store 1 (.tmp 23) (.tmp 22)) none [7,6,6,0,1,2,3,4,5,6]]
def l121r8:List AOper :=
  [.mk (some 24) (.bin .add (.tmp 13) (.const (.int .i64 1))) none [],.mk (some 13) (.mv (.tmp 24)) none [0]]
def l121r9:List AOper :=
  [.mk (some 25) (.mv (.tmp 3)) none [],.mk (some 2) (.mv (.tmp 25)) none [0,0]]
def l121:AFn :=
  (AFn.mk 26 1 (.seq (.reg l121r0) (.seq (.seq (.reg l121r1) (.cond (.tmp 7) (.seq (.reg l121r2) .ret) .skip)) (.seq (.reg l121r3) (.seq (.seq (.reg l121r4) (.block 0 (.loop (.seq (.reg l121r5) (.seq (.cond (.tmp 14) .skip (.exit 0)) (.seq (.block 1 (.seq (.reg l121r6) (.reg l121r7))) (.reg l121r8))))))) (.seq (.reg l121r9) .ret))))) [.tmp 2])
theorem l121_eq:lowFn Try.prog 121=some l121:=by kernel_rfl
def l122r0:List AOper :=
  [.mk (some 4) (.mv (.const (.int .i64 0))) none []]
def l122r1:List AOper :=
  [.mk (some 5) (.mv (.const (.int .i64 0))) none []]
def l122r2:List AOper :=
  [.mk (some 11) (.mv (.tmp 0)) none [],.mk (some 12) (.len (.tmp 11)) none [0],.mk (some 13) (.mv (.const (.int .i64 0))) none []]
def l122r3:List AOper :=
  [.mk (some 14) (.bin .lss (.tmp 13) (.tmp 12)) none []]
def l122r4:List AOper :=
  [.mk (some 15) (.idxA 1 (.tmp 11) (.tmp 13)) none [],.mk (some 16) (.load false 1 (.tmp 15)) none [0],.mk (some 7) (.mv (.tmp 16)) none [1,0,1]]
def l122r5:List AOper :=
  [.mk (some 8) (.mv (.const (.int .i64 1))) none []]
def l122r6:List AOper :=
  [.mk (some 17) (.mv (.tmp 1)) none [],.mk (some 18) (.len (.tmp 17)) none [0],.mk (some 19) (.mv (.const (.int .i64 0))) none []]
def l122r7:List AOper :=
  [.mk (some 20) (.bin .lss (.tmp 19) (.tmp 18)) none []]
def l122r8:List AOper :=
  [.mk (some 21) (.idxA 1 (.tmp 17) (.tmp 19)) none [],.mk (some 22) (.load false 1 (.tmp 21)) none [0],.mk (some 10) (.mv (.tmp 22)) none [1,0,1]]
def l122r9:List AOper :=
  [.mk (some 23) (.mv (.tmp 8)) none [],.mk (some 24) (.mv (.tmp 10)) none [],.mk (some 25) (.mv (.tmp 7)) none [],.mk (some 26) (.raw (Op.call (Call.mk (Callee.value (.tmp 24)) (Array.mk [.tmp 25]) (Array.mk [3])))) none [1,2],.mk (some 27) (.bin .mul (.tmp 23) (.tmp 26)) none [0,3],.mk (some 8) (.mv (.tmp 27)) none [4,3,0,1,2,3,4]]
def l122r10:List AOper :=
  [.mk (some 28) (.bin .add (.tmp 19) (.const (.int .i64 1))) none [],.mk (some 19) (.mv (.tmp 28)) none [0]]
def l122r11:List AOper :=
  [.mk (some 29) (.mv (.tmp 5)) none [],.mk (some 30) (.mv (.tmp 8)) none [],.mk (some 31) (.bin .add (.tmp 29) (.tmp 30)) none [0,1],.mk (some 5) (.mv (.tmp 31)) none [2,0,1,2]]
def l122r12:List AOper :=
  [.mk (some 32) (.bin .add (.tmp 13) (.const (.int .i64 1))) none [],.mk (some 13) (.mv (.tmp 32)) none [0]]
def l122r13:List AOper :=
  [.mk (some 33) (.mv (.tmp 5)) none [],.mk (some 4) (.mv (.tmp 33)) none [0,0]]
def l122:AFn :=
  (AFn.mk 34 2 (.seq (.reg l122r0) (.seq (.reg l122r1) (.seq (.seq (.reg l122r2) (.block 0 (.loop (.seq (.reg l122r3) (.seq (.cond (.tmp 14) .skip (.exit 0)) (.seq (.block 1 (.seq (.reg l122r4) (.seq (.reg l122r5) (.seq (.seq (.reg l122r6) (.block 2 (.loop (.seq (.reg l122r7) (.seq (.cond (.tmp 20) .skip (.exit 2)) (.seq (.block 3 (.seq (.reg l122r8) (.reg l122r9))) (.reg l122r10))))))) (.reg l122r11))))) (.reg l122r12))))))) (.seq (.reg l122r13) .ret)))) [.tmp 4])
theorem l122_eq:lowFn Try.prog 122=some l122:=by kernel_rfl
def l123r0:List AOper :=
  [.mk (some 2) (.box (.tmp 0)) none [],.mk (some 4) (.mv (.const (.int .i64 0))) none []]
def l123r1:List AOper :=
  [.mk (some 5) (.mv (.tmp 1)) none [],.mk (some 6) (.idxP 1 5 (.tmp 2) (.tmp 5)) none [0],.mk (some 7) (.load false 1 (.tmp 6)) none [1],.mk (some 4) (.mv (.tmp 7)) none [2,0,1,2]]
def l123:AFn :=
  (AFn.mk 8 2 (.seq (.reg l123r0) (.seq (.reg l123r1) .ret)) [.tmp 4])
theorem l123_eq:lowFn Try.prog 123=some l123:=by kernel_rfl
def l124r0:List AOper :=
  [.mk (some 1) (.box (.tmp 0)) none [],.mk (some 2) (.mv (.const .nilFunc)) none []]
def l124r1:List AOper :=
  [.mk (some 3) (.mkfn (Fn.func 130) [] [.tmp 1]) none [],.mk (some 2) (.mv (.tmp 3)) none [0,0]]
def l124:AFn :=
  (AFn.mk 4 1 (.seq (.reg l124r0) (.seq (.reg l124r1) .ret)) [.tmp 2])
theorem l124_eq:lowFn Try.prog 124=some l124:=by kernel_rfl
def l126r0:List AOper :=
  [.mk (some 4) (.mv (.const (.int .i64 0))) none []]
def l126r1:List AOper :=
  [.mk (some 6) (.mv (.tmp 0)) none [],.mk (some 7) (.len (.tmp 6)) none [0],.mk (some 8) (.mv (.const (.int .i64 0))) none []]
def l126r2:List AOper :=
  [.mk (some 9) (.bin .lss (.tmp 8) (.tmp 7)) none []]
def l126r3:List AOper :=
  [.mk (some 10) (.mv (.tmp 8)) none [],.mk (some 5) (.mv (.tmp 10)) none [0,0]]
def l126r4:List AOper :=
  [.mk (some 11) (.mv (.tmp 1)) none [],.mk (some 12) (.mv (.tmp 0)) none [],.mk (some 13) (.mv (.tmp 5)) none [],.mk (some 14) (.idxA 1 (.tmp 12) (.tmp 13)) none [1,2],.mk (some 15) (.load false 1 (.tmp 14)) none [3],.mk (some 16) (.bin .eql (.tmp 11) (.tmp 15)) none [0,4]]
def l126r5:List AOper :=
  [.mk (some 17) (.mv (.tmp 5)) none [],.mk (some 4) (.mv (.tmp 17)) none [0,0]]
def l126r6:List AOper :=
  [.mk (some 18) (.bin .add (.tmp 8) (.const (.int .i64 1))) none [],.mk (some 8) (.mv (.tmp 18)) none [0]]
def l126r7:List AOper :=
  [.mk (some 4) (.mv (.const (.int .i64 (-1)))) none []]
def l126:AFn :=
  (AFn.mk 19 2 (.seq (.reg l126r0) (.seq (.seq (.reg l126r1) (.block 0 (.loop (.seq (.reg l126r2) (.seq (.cond (.tmp 9) .skip (.exit 0)) (.seq (.block 1 (.seq (.reg l126r3) (.seq (.reg l126r4) (.cond (.tmp 16) (.seq (.reg l126r5) .ret) .skip)))) (.reg l126r6))))))) (.seq (.reg l126r7) .ret))) [.tmp 4])
theorem l126_eq:lowFn Try.prog 126=some l126:=by kernel_rfl
def l130r0:List AOper :=
  [.mk (some 4) (.load false 1 (.tmp 1)) none [],.mk (some 5) (.len (.tmp 4)) none [0],.mk (some 6) (.bin .sub (.tmp 5) (.const (.int .i64 1))) none [1],.mk (some 3) (.mv (.tmp 6)) none [2,0,1,2]]
def l130r1:List AOper :=
  [.mk (some 7) (.mv (.tmp 3)) none [],.mk (some 8) (.bin .geq (.tmp 7) (.const (.int .i64 0))) none [0]]
def l130r2:List AOper :=
  [.mk (some 11) (.mv (.tmp 0)) none [],.mk (some 12) (.mv (.tmp 3)) none [],.mk (some 13) (.load false 1 (.tmp 1)) none [],.mk (some 14) (.mv (.tmp 3)) none [],.mk (some 15) (.idxA 1 (.tmp 13) (.tmp 14)) none [2,3],.mk (some 16) (.load false 1 (.tmp 15)) none [4],.mk (some 17) (.raw (Op.call (Call.mk (Callee.value (.tmp 11)) (Array.mk [.tmp 12,.tmp 16]) (Array.mk [3,3])))) none [0,1,5],.mk (some 18) (.un .not (.tmp 17)) none [6]]
def l130r3:List AOper :=
  [.mk (some 9) (.mv (.tmp 3)) none [],.mk (some 10) (.bin .sub (.tmp 9) (.const (.int .i64 1))) none [0],.mk (some 3) (.mv (.tmp 10)) none [1,0,1]]
def l130:AFn :=
  (AFn.mk 19 1 (.seq (.reg l130r0) (.block 0 (.loop (.seq (.seq (.reg l130r1) (.cond (.tmp 8) .skip (.exit 0))) (.seq (.block 1 (.seq (.reg l130r2) (.cond (.tmp 18) .ret .skip))) (.reg l130r3)))))) [])
theorem l130_eq:lowFn Try.prog 130=some l130:=by kernel_rfl
end Go.Proofs.Ytfkbhkpbfnklaaa
