import Derived.Test.YtpicoecbbiiaoaaCW3
import Derived.Test.YtpicoecbbiiaoaaProg
import Derived.KernelRfl
set_option maxRecDepth 100000
namespace Go.Proofs.Ytpicoecbbiiaoaa
open Vw Go
instance globs:Inhabited GlobT:=⟨⟨[]⟩⟩
attribute [push_cast] Bool.false_eq_true List.length_replicate
attribute [bitvec_to_nat] decide_eq_true_eq decide_eq_false_iff_not Bool.not_eq_true' Bool.not_eq_false' Bool.and_eq_true Bool.or_eq_true Bool.and_eq_false_iff Bool.or_eq_false_iff Int.not_le Int.not_lt bne_iff_ne ne_eq beq_iff_eq Bool.not_eq_true Bool.not_eq_false
theorem sd {P:Prop} (h:P:=by first|assumption|rfl|omega|(simp<;>omega)|(simp_all<;>omega)):P:=h
def l4r0:List AOper :=
  [.mk (some 4) (.mv (.const (.bool false))) none []]
def l4r1:List AOper :=
  [.mk (some 5) (.mv (.const (.int .i64 1048576))) none []]
def l4r2:List AOper :=
  [.mk (some 17) (.mv (.tmp 0)) none [],.mk (some 18) (.mv (.tmp 5)) none [],.mk (some 19) (.call 17 [.tmp 17,.tmp 18]) none [0,1],.mk (some 5) (.mv (.tmp 19)) none [2,2,0,1,2]]
def l4r3:List AOper :=
  [.mk (some 20) (.mv (.tmp 5)) none [],.mk (some 21) (.bin .lss (.tmp 20) (.const (.int .i64 0))) none [0]]
def l4r4:List AOper :=
  [.mk (some 4) (.mv (.const (.bool true))) none []]
def l4r5:List AOper :=
  [.mk (some 22) (.mv (.tmp 1)) none [],.mk (some 23) (.mv (.tmp 5)) none [],.mk (some 24) (.call 18 [.tmp 22,.tmp 23]) none [0,1],.mk (some 5) (.mv (.tmp 24)) none [2,2,0,1,2]]
def l4r6:List AOper :=
  [.mk (some 25) (.mv (.tmp 5)) none [],.mk (some 26) (.bin .lss (.tmp 25) (.const (.int .i64 0))) none [0]]
def l4r7:List AOper :=
  [.mk (some 4) (.mv (.const (.bool true))) none []]
def l4r8:List AOper :=
  [.mk (some 28) (.mv (.tmp 0)) none [],.mk (some 29) (.call 20 [.tmp 28]) none [0],.mk (some 30) (.mv (.tmp 1)) none [],.mk (some 31) (.call 21 [.tmp 30]) none [2,1],.mk (some 32) (.call 19 [.tmp 29,.tmp 31]) none [1,3,3],.mk (some 27) (.mv (.tmp 32)) none [4],.mk (some 33) (.extract (.tmp 27) 0) none [5],.mk (some 34) (.extract (.tmp 27) 1) none [5],.mk (some 6) (.mv (.tmp 33)) none [6,4,0,1,2,3,4,5,6],.mk (some 7) (.mv (.tmp 34)) none [7,8,0,1,2,3,4,5,6,7,8]]
def l4r9:List AOper :=
  [.mk (some 35) (.mv (.tmp 0)) none [],.mk (some 36) (.call 20 [.tmp 35]) none [0],.mk (some 8) (.mv (.tmp 36)) none [1,1,0,1]]
def l4r10:List AOper :=
  [.mk (some 37) (.mv (.tmp 1)) none [],.mk (some 38) (.call 21 [.tmp 37]) none [0],.mk (some 9) (.mv (.tmp 38)) none [1,1,0,1]]
def l4r11:List AOper :=
  [.mk (some 40) (.mv (.tmp 8)) none [],.mk (some 41) (.mv (.tmp 9)) none [],.mk (some 42) (.call 22 [.tmp 40,.tmp 41]) none [0,1],.mk (some 39) (.mv (.tmp 42)) none [2],.mk (some 43) (.extract (.tmp 39) 0) none [3],.mk (some 44) (.extract (.tmp 39) 1) none [3],.mk (some 10) (.mv (.tmp 43)) none [4,2,0,1,2,3,4],.mk (some 11) (.mv (.tmp 44)) none [5,6,0,1,2,3,4,5,6]]
def l4r12:List AOper :=
  [.mk (some 45) (.mv (.tmp 10)) none [],.mk (some 46) (.mv (.tmp 6)) none [],.mk (some 47) (.call 12 [.tmp 45,.tmp 46]) none [0,1],.mk (some 48) (.un .not (.tmp 47)) none [2],.mk (some 49) (.mv (.tmp 48)) none [3,2],.mk (some 50) (.mv (.tmp 11)) (some (49,false)) [4],.mk (some 51) (.mv (.tmp 7)) (some (49,false)) [4],.mk (some 52) (.binB .neq (.tmp 50) (.tmp 51)) (some (49,false)) [5,6,4],.mk (some 53) (.pick (.tmp 49) (.const (.bool true)) (.tmp 52)) none [4,7]]
def l4r13:List AOper :=
  [.mk (some 4) (.mv (.const (.bool false))) none []]
def l4r14:List AOper :=
  [.mk (some 54) (.mv (.tmp 8)) none [],.mk (some 55) (.mv (.tmp 0)) none [],.mk (some 56) (.call 20 [.tmp 55]) none [1],.mk (some 57) (.call 23 [.tmp 54,.tmp 56]) none [0,2,2],.mk (some 58) (.un .not (.tmp 57)) none [3]]
def l4r15:List AOper :=
  [.mk (some 4) (.mv (.const (.bool false))) none []]
def l4r16:List AOper :=
  [.mk (some 59) (.mv (.tmp 9)) none [],.mk (some 60) (.mv (.tmp 1)) none [],.mk (some 61) (.call 21 [.tmp 60]) none [1],.mk (some 62) (.call 24 [.tmp 59,.tmp 61]) none [0,2,2],.mk (some 63) (.un .not (.tmp 62)) none [3]]
def l4r17:List AOper :=
  [.mk (some 4) (.mv (.const (.bool false))) none []]
def l4r18:List AOper :=
  [.mk (some 12) (.mv (.const (.int .i64 1))) none []]
def l4r19:List AOper :=
  [.mk (some 64) (.mv (.tmp 8)) none [],.mk (some 65) (.mv (.tmp 12)) none [],.mk (some 66) (.call 25 [.tmp 64,.tmp 65]) none [0,1],.mk (some 12) (.mv (.tmp 66)) none [2,2,0,1,2]]
def l4r20:List AOper :=
  [.mk (some 67) (.mv (.tmp 9)) none [],.mk (some 68) (.mv (.tmp 12)) none [],.mk (some 69) (.call 26 [.tmp 67,.tmp 68]) none [0,1],.mk (some 12) (.mv (.tmp 69)) none [2,2,0,1,2]]
def l4r21:List AOper :=
  [.mk (some 70) (.mv (.tmp 12)) none [],.mk (some 71) (.bin .lss (.tmp 70) (.const (.int .i64 0))) none [0],.mk (some 72) (.mv (.tmp 71)) none [1],.mk (some 73) (.mv (.tmp 10)) (some (72,false)) [2],.mk (some 74) (.mv (.tmp 6)) (some (72,false)) [2],.mk (some 75) (.call 12 [.tmp 73,.tmp 74]) (some (72,false)) [3,4,2,2],.mk (some 76) (.un .not (.tmp 75)) (some (72,false)) [5,2],.mk (some 77) (.pick (.tmp 72) (.const (.bool true)) (.tmp 76)) none [2,6],.mk (some 78) (.mv (.tmp 77)) none [7,5],.mk (some 79) (.mv (.tmp 11)) (some (78,false)) [8],.mk (some 80) (.mv (.tmp 7)) (some (78,false)) [8],.mk (some 81) (.binB .neq (.tmp 79) (.tmp 80)) (some (78,false)) [9,10,8],.mk (some 82) (.pick (.tmp 78) (.const (.bool true)) (.tmp 81)) none [8,11]]
def l4r22:List AOper :=
  [.mk (some 4) (.mv (.const (.bool false))) none []]
def l4r23:List AOper :=
  [.mk (some 13) (.mv (.const (.int .i64 1))) none []]
def l4r24:List AOper :=
  [.mk (some 83) (.mv (.tmp 10)) none [],.mk (some 84) (.mv (.tmp 13)) none [],.mk (some 85) (.call 15 [.tmp 83,.tmp 84]) none [0,1],.mk (some 13) (.mv (.tmp 85)) none [2,2,0,1,2]]
def l4r25:List AOper :=
  [.mk (some 14) (.mv (.const (.int .i64 1))) none []]
def l4r26:List AOper :=
  [.mk (some 86) (.mv (.tmp 10)) none [],.mk (some 87) (.mv (.tmp 14)) none [],.mk (some 88) (.call 16 [.tmp 86,.tmp 87]) none [0,1],.mk (some 14) (.mv (.tmp 88)) none [2,2,0,1,2]]
def l4r27:List AOper :=
  [.mk (some 89) (.mv (.tmp 14)) none [],.mk (some 90) (.bin .lss (.tmp 89) (.const (.int .i64 0))) none [0]]
def l4r28:List AOper :=
  [.mk (some 4) (.mv (.const (.bool false))) none []]
def l4r29:List AOper :=
  [.mk (some 91) (.mv (.tmp 14)) none [],.mk (some 92) (.mv (.tmp 13)) none [],.mk (some 93) (.bin .neq (.tmp 91) (.tmp 92)) none [0,1]]
def l4r30:List AOper :=
  [.mk (some 4) (.mv (.const (.bool false))) none []]
def l4r31:List AOper :=
  [.mk (some 95) (.mv (.tmp 0)) none [],.mk (some 96) (.call 20 [.tmp 95]) none [0],.mk (some 97) (.mv (.tmp 1)) none [],.mk (some 98) (.call 21 [.tmp 97]) none [2,1],.mk (some 99) (.call 22 [.tmp 96,.tmp 98]) none [1,3,3],.mk (some 94) (.mv (.tmp 99)) none [4],.mk (some 100) (.extract (.tmp 94) 0) none [5],.mk (some 101) (.extract (.tmp 94) 1) none [5],.mk (some 15) (.mv (.tmp 100)) none [6,4,0,1,2,3,4,5,6],.mk (some 16) (.mv (.tmp 101)) none [7,8,0,1,2,3,4,5,6,7,8]]
def l4r32:List AOper :=
  [.mk (some 102) (.mv (.tmp 15)) none [],.mk (some 103) (.mv (.tmp 6)) none [],.mk (some 104) (.call 12 [.tmp 102,.tmp 103]) none [0,1],.mk (some 105) (.un .not (.tmp 104)) none [2],.mk (some 106) (.mv (.tmp 105)) none [3,2],.mk (some 107) (.mv (.tmp 16)) (some (106,false)) [4],.mk (some 108) (.mv (.tmp 7)) (some (106,false)) [4],.mk (some 109) (.binB .neq (.tmp 107) (.tmp 108)) (some (106,false)) [5,6,4],.mk (some 110) (.pick (.tmp 106) (.const (.bool true)) (.tmp 109)) none [4,7]]
def l4r33:List AOper :=
  [.mk (some 4) (.mv (.const (.bool false))) none []]
def l4r34:List AOper :=
  [.mk (some 14) (.mv (.const (.int .i64 1))) none []]
def l4r35:List AOper :=
  [.mk (some 111) (.mv (.tmp 10)) none [],.mk (some 112) (.mv (.tmp 14)) none [],.mk (some 113) (.call 16 [.tmp 111,.tmp 112]) none [0,1],.mk (some 14) (.mv (.tmp 113)) none [2,2,0,1,2]]
def l4r36:List AOper :=
  [.mk (some 114) (.mv (.tmp 14)) none [],.mk (some 115) (.bin .lss (.tmp 114) (.const (.int .i64 0))) none [0]]
def l4r37:List AOper :=
  [.mk (some 4) (.mv (.const (.bool false))) none []]
def l4r38:List AOper :=
  [.mk (some 116) (.mv (.tmp 14)) none [],.mk (some 117) (.mv (.tmp 13)) none [],.mk (some 118) (.bin .neq (.tmp 116) (.tmp 117)) none [0,1]]
def l4r39:List AOper :=
  [.mk (some 4) (.mv (.const (.bool false))) none []]
def l4r40:List AOper :=
  [.mk (some 4) (.mv (.const (.bool true))) none []]
def l4:AFn :=
  (AFn.mk 119 2 (.seq (.reg l4r0) (.seq (.reg l4r1) (.seq (.reg l4r2) (.seq (.seq (.reg l4r3) (.cond (.tmp 21) (.seq (.reg l4r4) .ret) .skip)) (.seq (.reg l4r5) (.seq (.seq (.reg l4r6) (.cond (.tmp 26) (.seq (.reg l4r7) .ret) .skip)) (.seq (.reg l4r8) (.seq (.reg l4r9) (.seq (.reg l4r10) (.seq (.reg l4r11) (.seq (.seq (.reg l4r12) (.cond (.tmp 53) (.seq (.reg l4r13) .ret) .skip)) (.seq (.seq (.reg l4r14) (.cond (.tmp 58) (.seq (.reg l4r15) .ret) .skip)) (.seq (.seq (.reg l4r16) (.cond (.tmp 63) (.seq (.reg l4r17) .ret) .skip)) (.seq (.reg l4r18) (.seq (.reg l4r19) (.seq (.reg l4r20) (.seq (.seq (.reg l4r21) (.cond (.tmp 82) (.seq (.reg l4r22) .ret) .skip)) (.seq (.reg l4r23) (.seq (.reg l4r24) (.seq (.reg l4r25) (.seq (.reg l4r26) (.seq (.seq (.reg l4r27) (.cond (.tmp 90) (.seq (.reg l4r28) .ret) .skip)) (.seq (.seq (.reg l4r29) (.cond (.tmp 93) (.seq (.reg l4r30) .ret) .skip)) (.seq (.reg l4r31) (.seq (.seq (.reg l4r32) (.cond (.tmp 110) (.seq (.reg l4r33) .ret) .skip)) (.seq (.reg l4r34) (.seq (.reg l4r35) (.seq (.seq (.reg l4r36) (.cond (.tmp 115) (.seq (.reg l4r37) .ret) .skip)) (.seq (.seq (.reg l4r38) (.cond (.tmp 118) (.seq (.reg l4r39) .ret) .skip)) (.seq (.reg l4r40) .ret)))))))))))))))))))))))))))))) [.tmp 4])
theorem l4_eq:lowFn Try.prog 4=some l4:=by kernel_rfl
def l12r0:List AOper :=
  [.mk (some 4) (.mv (.const (.bool false))) none []]
def l12r1:List AOper :=
  [.mk (some 6) (.mv (.tmp 0)) none [],.mk (some 7) (.len (.tmp 6)) none [0],.mk (some 8) (.mv (.tmp 1)) none [],.mk (some 9) (.len (.tmp 8)) none [2],.mk (some 10) (.bin .neq (.tmp 7) (.tmp 9)) none [1,3]]
def l12r2:List AOper :=
  [.mk (some 4) (.mv (.const (.bool false))) none []]
def l12r3:List AOper :=
  [.mk (some 5) (.mv (.const (.int .i64 0))) none []]
def l12r4:List AOper :=
  [.mk (some 11) (.mv (.tmp 5)) none [],.mk (some 12) (.mv (.tmp 0)) none [],.mk (some 13) (.len (.tmp 12)) none [1],.mk (some 14) (.bin .lss (.tmp 11) (.tmp 13)) none [0,2]]
def l12r5a:List AOper :=
  [.mk (some 17) (.mv (.tmp 0)) none [],.mk (some 18) (.mv (.tmp 5)) none [],.mk (some 19) (.idxA 1 (.tmp 17) (.tmp 18)) none [0,1],.mk (some 20) (.load false 1 (.tmp 19)) none [2],.mk (some 21) (.mv (.tmp 1)) none [],.mk (some 22) (.mv (.tmp 5)) none [],.mk (some 23) (.idxA 1 (.tmp 21) (.tmp 22)) none [4,5],.mk (some 24) (.load false 1 (.tmp 23)) none [6]]
def l12r5b:List AOper :=
  [.mk (some 25) (.bin .neq (.tmp 20) (.tmp 24)) none [3,7]]
def l12r5:List AOper:=l12r5a ++ l12r5b
def l12r6:List AOper :=
  [.mk (some 4) (.mv (.const (.bool false))) none []]
def l12r7:List AOper :=
  [.mk (some 15) (.mv (.tmp 5)) none [],.mk (some 16) (.bin .add (.tmp 15) (.const (.int .i64 1))) none [0],.mk (some 5) (.mv (.tmp 16)) none [1,0,1]]
def l12r8:List AOper :=
  [.mk (some 4) (.mv (.const (.bool true))) none []]
def l12:AFn :=
  (AFn.mk 26 2 (.seq (.reg l12r0) (.seq (.seq (.reg l12r1) (.cond (.tmp 10) (.seq (.reg l12r2) .ret) .skip)) (.seq (.seq (.reg l12r3) (.block 0 (.loop (.seq (.seq (.reg l12r4) (.cond (.tmp 14) .skip (.exit 0))) (.seq (.block 1 (.seq (.draw l12r5) (.cond (.tmp 25) (.seq (.reg l12r6) .ret) .skip))) (.reg l12r7)))))) (.seq (.reg l12r8) .ret)))) [.tmp 4])
theorem l12_eq:lowFn Try.prog 12=some l12:=by kernel_rfl
def l15r0:List AOper :=
  [.mk (some 4) (.mv (.const (.int .i64 0))) none []]
def l15r1:List AOper :=
  [.mk (some 5) (.mv (.const (.int .i64 0))) none []]
def l15r2:List AOper :=
  [.mk (some 6) (.mv (.tmp 5)) none [],.mk (some 7) (.mv (.tmp 0)) none [],.mk (some 8) (.len (.tmp 7)) none [1],.mk (some 9) (.bin .lss (.tmp 6) (.tmp 8)) none [0,2]]
def l15r3:List AOper :=
  [.mk (some 12) (.mv (.tmp 0)) none [],.mk (some 13) (.mv (.tmp 5)) none [],.mk (some 14) (.mv (.tmp 1)) none [],.mk (some 15) (.idxA 1 (.tmp 12) (.tmp 13)) none [0,1,0,1,2],.mk none (.store 1 (.tmp 15) (.tmp 14)) none [3,2,0,1,2]]
def l15r4:List AOper :=
  [.mk (some 16) (.mv (.tmp 1)) none [],.mk (some 17) (.bin .add (.tmp 16) (.const (.int .i64 1))) none [0],.mk (some 1) (.mv (.tmp 17)) none [1,0,1]]
def l15r5:List AOper :=
  [.mk (some 10) (.mv (.tmp 5)) none [],.mk (some 11) (.bin .add (.tmp 10) (.const (.int .i64 1))) none [0],.mk (some 5) (.mv (.tmp 11)) none [1,0,1]]
def l15r6:List AOper :=
  [.mk (some 18) (.mv (.tmp 1)) none [],.mk (some 4) (.mv (.tmp 18)) none [0,0]]
def l15:AFn :=
  (AFn.mk 19 2 (.seq (.reg l15r0) (.seq (.seq (.reg l15r1) (.block 0 (.loop (.seq (.seq (.reg l15r2) (.cond (.tmp 9) .skip (.exit 0))) (.seq (.block 1 (.seq (.reg l15r3) (.reg l15r4))) (.reg l15r5)))))) (.seq (.reg l15r6) .ret))) [.tmp 4])
theorem l15_eq:lowFn Try.prog 15=some l15:=by kernel_rfl
def l16r0:List AOper :=
  [.mk (some 4) (.mv (.const (.int .i64 0))) none []]
def l16r1:List AOper :=
  [.mk (some 5) (.mv (.const (.int .i64 0))) none []]
def l16r2:List AOper :=
  [.mk (some 6) (.mv (.tmp 5)) none [],.mk (some 7) (.mv (.tmp 0)) none [],.mk (some 8) (.len (.tmp 7)) none [1],.mk (some 9) (.bin .lss (.tmp 6) (.tmp 8)) none [0,2]]
def l16r3:List AOper :=
  [.mk (some 12) (.mv (.tmp 0)) none [],.mk (some 13) (.mv (.tmp 5)) none [],.mk (some 14) (.idxA 1 (.tmp 12) (.tmp 13)) none [0,1],.mk (some 15) (.load false 1 (.tmp 14)) none [2],.mk (some 16) (.mv (.tmp 1)) none [],.mk (some 17) (.bin .neq (.tmp 15) (.tmp 16)) none [3,4]]
def l16r4:List AOper :=
  [.mk (some 4) (.mv (.const (.int .i64 (-1)))) none []]
def l16r5:List AOper :=
  [.mk (some 18) (.mv (.tmp 1)) none [],.mk (some 19) (.bin .add (.tmp 18) (.const (.int .i64 1))) none [0],.mk (some 1) (.mv (.tmp 19)) none [1,0,1]]
def l16r6:List AOper :=
  [.mk (some 10) (.mv (.tmp 5)) none [],.mk (some 11) (.bin .add (.tmp 10) (.const (.int .i64 1))) none [0],.mk (some 5) (.mv (.tmp 11)) none [1,0,1]]
def l16r7:List AOper :=
  [.mk (some 20) (.mv (.tmp 1)) none [],.mk (some 4) (.mv (.tmp 20)) none [0,0]]
def l16:AFn :=
  (AFn.mk 21 2 (.seq (.reg l16r0) (.seq (.seq (.reg l16r1) (.block 0 (.loop (.seq (.seq (.reg l16r2) (.cond (.tmp 9) .skip (.exit 0))) (.seq (.block 1 (.seq (.seq (.reg l16r3) (.cond (.tmp 17) (.seq (.reg l16r4) .ret) .skip)) (.reg l16r5))) (.reg l16r6)))))) (.seq (.reg l16r7) .ret))) [.tmp 4])
theorem l16_eq:lowFn Try.prog 16=some l16:=by kernel_rfl
def l17r0:List AOper :=
  [.mk (some 4) (.mv (.const (.int .i64 0))) none []]
def l17r1:List AOper :=
  [.mk (some 6) (.mv (.tmp 1)) none [],.mk (some 7) (.mv (.tmp 0)) none [],.mk (some 8) (.len (.tmp 7)) none [1],.mk (some 9) (.bin .sub (.tmp 6) (.tmp 8)) none [0,2],.mk (some 1) (.mv (.tmp 9)) none [3,0,1,2,3]]
def l17r2:List AOper :=
  [.mk (some 10) (.mv (.tmp 1)) none [],.mk (some 11) (.bin .lss (.tmp 10) (.const (.int .i64 0))) none [0]]
def l17r3:List AOper :=
  [.mk (some 4) (.mv (.const (.int .i64 (-1)))) none []]
def l17r4:List AOper :=
  [.mk (some 5) (.mv (.const (.int .i64 0))) none []]
def l17r5:List AOper :=
  [.mk (some 12) (.mv (.tmp 5)) none [],.mk (some 13) (.mv (.tmp 0)) none [],.mk (some 14) (.len (.tmp 13)) none [1],.mk (some 15) (.bin .lss (.tmp 12) (.tmp 14)) none [0,2]]
def l17r6:List AOper :=
  [.mk (some 18) (.mv (.tmp 0)) none [],.mk (some 19) (.mv (.tmp 5)) none [],.mk (some 20) (.idxA 2 (.tmp 18) (.tmp 19)) none [0,1],.mk (some 21) (.load true 2 (.tmp 20)) none [2],.mk (some 22) (.mv (.tmp 1)) none [],.mk (some 23) (.call 46 [.tmp 21,.tmp 22]) none [3,4],.mk (some 1) (.mv (.tmp 23)) none [5,5,0,1,2,3,4,5]]
def l17r7:List AOper :=
  [.mk (some 24) (.mv (.tmp 1)) none [],.mk (some 25) (.bin .lss (.tmp 24) (.const (.int .i64 0))) none [0]]
def l17r8:List AOper :=
  [.mk (some 4) (.mv (.const (.int .i64 (-1)))) none []]
def l17r9:List AOper :=
  [.mk (some 16) (.mv (.tmp 5)) none [],.mk (some 17) (.bin .add (.tmp 16) (.const (.int .i64 1))) none [0],.mk (some 5) (.mv (.tmp 17)) none [1,0,1]]
def l17r10:List AOper :=
  [.mk (some 26) (.mv (.tmp 1)) none [],.mk (some 4) (.mv (.tmp 26)) none [0,0]]
def l17:AFn :=
  (AFn.mk 27 2 (.seq (.reg l17r0) (.seq (.reg l17r1) (.seq (.seq (.reg l17r2) (.cond (.tmp 11) (.seq (.reg l17r3) .ret) .skip)) (.seq (.seq (.reg l17r4) (.block 0 (.loop (.seq (.seq (.reg l17r5) (.cond (.tmp 15) .skip (.exit 0))) (.seq (.block 1 (.seq (.reg l17r6) (.seq (.reg l17r7) (.cond (.tmp 25) (.seq (.reg l17r8) .ret) .skip)))) (.reg l17r9)))))) (.seq (.reg l17r10) .ret))))) [.tmp 4])
theorem l17_eq:lowFn Try.prog 17=some l17:=by kernel_rfl
def l18r0:List AOper :=
  [.mk (some 4) (.mv (.const (.int .i64 0))) none []]
def l18r1:List AOper :=
  [.mk (some 6) (.mv (.tmp 1)) none [],.mk (some 7) (.mv (.tmp 0)) none [],.mk (some 8) (.len (.tmp 7)) none [1],.mk (some 9) (.bin .sub (.tmp 6) (.tmp 8)) none [0,2],.mk (some 1) (.mv (.tmp 9)) none [3,0,1,2,3]]
def l18r2:List AOper :=
  [.mk (some 10) (.mv (.tmp 1)) none [],.mk (some 11) (.bin .lss (.tmp 10) (.const (.int .i64 0))) none [0]]
def l18r3:List AOper :=
  [.mk (some 4) (.mv (.const (.int .i64 (-1)))) none []]
def l18r4:List AOper :=
  [.mk (some 5) (.mv (.const (.int .i64 0))) none []]
def l18r5:List AOper :=
  [.mk (some 12) (.mv (.tmp 5)) none [],.mk (some 13) (.mv (.tmp 0)) none [],.mk (some 14) (.len (.tmp 13)) none [1],.mk (some 15) (.bin .lss (.tmp 12) (.tmp 14)) none [0,2]]
def l18r6:List AOper :=
  [.mk (some 18) (.mv (.tmp 0)) none [],.mk (some 19) (.mv (.tmp 5)) none [],.mk (some 20) (.idxA 1 (.tmp 18) (.tmp 19)) none [0,1],.mk (some 21) (.load false 1 (.tmp 20)) none [2],.mk (some 22) (.mv (.tmp 1)) none [],.mk (some 23) (.call 47 [.tmp 21,.tmp 22]) none [3,4],.mk (some 1) (.mv (.tmp 23)) none [5,5,0,1,2,3,4,5]]
def l18r7:List AOper :=
  [.mk (some 24) (.mv (.tmp 1)) none [],.mk (some 25) (.bin .lss (.tmp 24) (.const (.int .i64 0))) none [0]]
def l18r8:List AOper :=
  [.mk (some 4) (.mv (.const (.int .i64 (-1)))) none []]
def l18r9:List AOper :=
  [.mk (some 16) (.mv (.tmp 5)) none [],.mk (some 17) (.bin .add (.tmp 16) (.const (.int .i64 1))) none [0],.mk (some 5) (.mv (.tmp 17)) none [1,0,1]]
def l18r10:List AOper :=
  [.mk (some 26) (.mv (.tmp 1)) none [],.mk (some 4) (.mv (.tmp 26)) none [0,0]]
def l18:AFn :=
  (AFn.mk 27 2 (.seq (.reg l18r0) (.seq (.reg l18r1) (.seq (.seq (.reg l18r2) (.cond (.tmp 11) (.seq (.reg l18r3) .ret) .skip)) (.seq (.seq (.reg l18r4) (.block 0 (.loop (.seq (.seq (.reg l18r5) (.cond (.tmp 15) .skip (.exit 0))) (.seq (.block 1 (.seq (.reg l18r6) (.seq (.reg l18r7) (.cond (.tmp 25) (.seq (.reg l18r8) .ret) .skip)))) (.reg l18r9)))))) (.seq (.reg l18r10) .ret))))) [.tmp 4])
theorem l18_eq:lowFn Try.prog 18=some l18:=by kernel_rfl
def l19r0:List AOper :=
  [.mk (some 4) (.mv (.const (.slice none 0 0))) none [],.mk (some 5) (.mv (.const (.bool false))) none [0]]
def l19r1:List AOper :=
  [.mk (some 6) (.mv (.tmp 0)) none [],.mk (some 7) (.mv (.tmp 1)) none [],.mk (some 8) (.call 48 [.tmp 6,.tmp 7]) none [0,1],.mk (some 9) (.un .not (.tmp 8)) none [2]]
def l19r2:List AOper :=
  [.mk (some 4) (.mv (.const (.slice none 0 0))) none [],.mk (some 5) (.mv (.const (.bool false))) none [0,0]]
def l19r3:List AOper :=
  [.mk (some 10) (.mv (.tmp 0)) none [],.mk (some 11) (.mv (.tmp 1)) none [],.mk (some 12) (.call 49 [.tmp 10,.tmp 11]) none [0,1],.mk (some 13) (.extract (.tmp 12) 0) none [2],.mk (some 14) (.extract (.tmp 12) 1) none [2],.mk (some 4) (.mv (.tmp 13)) none [3,2,0,1,2,3,4],.mk (some 5) (.mv (.tmp 14)) none [4,5,0,1,2,3,4,5]]
def l19:AFn :=
  (AFn.mk 15 2 (.seq (.reg l19r0) (.seq (.seq (.reg l19r1) (.cond (.tmp 9) (.seq (.reg l19r2) .ret) .skip)) (.seq (.reg l19r3) .ret))) [.tmp 4,.tmp 5])
theorem l19_eq:lowFn Try.prog 19=some l19:=by kernel_rfl
def l20r0:List AOper :=
  [.mk (some 2) (.mv (.const (.slice none 0 0))) none []]
def l20r1:List AOper :=
  [.mk (some 5) (.mv (.tmp 0)) none [],.mk (some 6) (.len (.tmp 5)) none [0],.mk (some 7) (.mkslice 2 [.slice none 0 0,.slice none 0 0] (.tmp 6) (.tmp 6)) none [1,1],.mk (some 3) (.mv (.tmp 7)) none [2,0,1,2]]
def l20r2:List AOper :=
  [.mk (some 4) (.mv (.const (.int .i64 0))) none []]
def l20r3:List AOper :=
  [.mk (some 8) (.mv (.tmp 4)) none [],.mk (some 9) (.mv (.tmp 0)) none [],.mk (some 10) (.len (.tmp 9)) none [1],.mk (some 11) (.bin .lss (.tmp 8) (.tmp 10)) none [0,2]]
def l20r4:List AOper :=
  [.mk (some 14) (.mv (.tmp 3)) none [],.mk (some 15) (.mv (.tmp 4)) none [],.mk (some 16) (.mv (.tmp 0)) none [],.mk (some 17) (.mv (.tmp 4)) none [],.mk (some 18) (.idxA 2 (.tmp 16) (.tmp 17)) none [2,3],.mk (some 19) (.load true 2 (.tmp 18)) none [4],.mk (some 20) (.call 50 [.tmp 19]) none [5],.mk (some 21) (.idxA 2 (.tmp 14) (.tmp 15)) none [0,1,0,1,2,3,4,5,6],.mk none (.store 2 (.tmp 21) (.tmp 20)) none [7,6,6,0,1,2,3,4,5,6]]
def l20r5:List AOper :=
  [.mk (some 12) (.mv (.tmp 4)) none [],.mk (some 13) (.bin .add (.tmp 12) (.const (.int .i64 1))) none [0],.mk (some 4) (.mv (.tmp 13)) none [1,0,1]]
def l20r6:List AOper :=
  [.mk (some 22) (.mv (.tmp 3)) none [],.mk (some 2) (.mv (.tmp 22)) none [0,0]]
def l20:AFn :=
  (AFn.mk 23 1 (.seq (.reg l20r0) (.seq (.reg l20r1) (.seq (.seq (.reg l20r2) (.block 0 (.loop (.seq (.seq (.reg l20r3) (.cond (.tmp 11) .skip (.exit 0))) (.seq (.block 1 (.reg l20r4)) (.reg l20r5)))))) (.seq (.reg l20r6) .ret)))) [.tmp 2])
theorem l20_eq:lowFn Try.prog 20=some l20:=by kernel_rfl
def l21r0:List AOper :=
  [.mk (some 2) (.mv (.const (.slice none 0 0))) none []]
def l21r1:List AOper :=
  [.mk (some 5) (.mv (.tmp 0)) none [],.mk (some 6) (.len (.tmp 5)) none [0],.mk (some 7) (.mkslice 1 [.slice none 0 0] (.tmp 6) (.tmp 6)) none [1,1],.mk (some 3) (.mv (.tmp 7)) none [2,0,1,2]]
def l21r2:List AOper :=
  [.mk (some 4) (.mv (.const (.int .i64 0))) none []]
def l21r3:List AOper :=
  [.mk (some 8) (.mv (.tmp 4)) none [],.mk (some 9) (.mv (.tmp 0)) none [],.mk (some 10) (.len (.tmp 9)) none [1],.mk (some 11) (.bin .lss (.tmp 8) (.tmp 10)) none [0,2]]
def l21r4:List AOper :=
  [.mk (some 14) (.mv (.tmp 3)) none [],.mk (some 15) (.mv (.tmp 4)) none [],.mk (some 16) (.mv (.tmp 0)) none [],.mk (some 17) (.mv (.tmp 4)) none [],.mk (some 18) (.idxA 1 (.tmp 16) (.tmp 17)) none [2,3],.mk (some 19) (.load false 1 (.tmp 18)) none [4],.mk (some 20) (.call 28 [.tmp 19]) none [5],.mk (some 21) (.idxA 1 (.tmp 14) (.tmp 15)) none [0,1,0,1,2,3,4,5,6],.mk none (.store 1 (.tmp 21) (.tmp 20)) none [7,6,6,0,1,2,3,4,5,6]]
def l21r5:List AOper :=
  [.mk (some 12) (.mv (.tmp 4)) none [],.mk (some 13) (.bin .add (.tmp 12) (.const (.int .i64 1))) none [0],.mk (some 4) (.mv (.tmp 13)) none [1,0,1]]
def l21r6:List AOper :=
  [.mk (some 22) (.mv (.tmp 3)) none [],.mk (some 2) (.mv (.tmp 22)) none [0,0]]
def l21:AFn :=
  (AFn.mk 23 1 (.seq (.reg l21r0) (.seq (.reg l21r1) (.seq (.seq (.reg l21r2) (.block 0 (.loop (.seq (.seq (.reg l21r3) (.cond (.tmp 11) .skip (.exit 0))) (.seq (.block 1 (.reg l21r4)) (.reg l21r5)))))) (.seq (.reg l21r6) .ret)))) [.tmp 2])
theorem l21_eq:lowFn Try.prog 21=some l21:=by kernel_rfl
def l22r0:List AOper :=
  [.mk (some 4) (.mv (.const (.slice none 0 0))) none [],.mk (some 5) (.mv (.const (.bool false))) none [0]]
def l22r1:List AOper :=
  [.mk (some 9) (.mv (.tmp 0)) none [],.mk (some 10) (.mv (.tmp 1)) none [],.mk (some 11) (.call 51 [.tmp 9,.tmp 10,.const (.slice none 0 0)]) none [0,1],.mk (some 8) (.mv (.tmp 11)) none [2],.mk (some 12) (.extract (.tmp 8) 0) none [3],.mk (some 13) (.extract (.tmp 8) 1) none [3],.mk (some 6) (.alloc [.int .i64 0,.int .i64 0,.int .i64 0,.int .i64 0,.int .i64 0]) none [],.mk none (.store 5 (.tmp 6) (.tmp 12)) none [6,4,2,0,1,2,3,4,6],.mk (some 7) (.mv (.tmp 13)) none [5,7,0,1,2,3,4,5,6,7]]
def l22r2:List AOper :=
  [.mk (some 14) (.mv (.tmp 7)) none [],.mk (some 15) (.un .not (.tmp 14)) none [0]]
def l22r3:List AOper :=
  [.mk (some 4) (.mv (.const (.slice none 0 0))) none [],.mk (some 5) (.mv (.const (.bool false))) none [0,0]]
def l22r4:List AOper :=
  [.mk (some 16) (.sliceP 1 5 (.tmp 6) none none) none [],.mk (some 17) (.call 52 [.tmp 16]) none [0],.mk (some 4) (.mv (.tmp 17)) none [1,1,0,1],.mk (some 5) (.mv (.const (.bool true))) none [2,0,1,2]]
def l22:AFn :=
  (AFn.mk 18 2 (.seq (.reg l22r0) (.seq (.reg l22r1) (.seq (.seq (.reg l22r2) (.cond (.tmp 15) (.seq (.reg l22r3) .ret) .skip)) (.seq (.reg l22r4) .ret)))) [.tmp 4,.tmp 5])
theorem l22_eq:lowFn Try.prog 22=some l22:=by kernel_rfl
def l23r0:List AOper :=
  [.mk (some 4) (.mv (.const (.bool false))) none []]
def l23r1:List AOper :=
  [.mk (some 6) (.mv (.tmp 0)) none [],.mk (some 7) (.len (.tmp 6)) none [0],.mk (some 8) (.mv (.tmp 1)) none [],.mk (some 9) (.len (.tmp 8)) none [2],.mk (some 10) (.bin .neq (.tmp 7) (.tmp 9)) none [1,3]]
def l23r2:List AOper :=
  [.mk (some 4) (.mv (.const (.bool false))) none []]
def l23r3:List AOper :=
  [.mk (some 5) (.mv (.const (.int .i64 0))) none []]
def l23r4:List AOper :=
  [.mk (some 11) (.mv (.tmp 5)) none [],.mk (some 12) (.mv (.tmp 0)) none [],.mk (some 13) (.len (.tmp 12)) none [1],.mk (some 14) (.bin .lss (.tmp 11) (.tmp 13)) none [0,2]]
def l23r5a:List AOper :=
  [.mk (some 17) (.mv (.tmp 0)) none [],.mk (some 18) (.mv (.tmp 5)) none [],.mk (some 19) (.idxA 2 (.tmp 17) (.tmp 18)) none [0,1],.mk (some 20) (.load true 2 (.tmp 19)) none [2],.mk (some 21) (.mv (.tmp 1)) none [],.mk (some 22) (.mv (.tmp 5)) none [],.mk (some 23) (.idxA 2 (.tmp 21) (.tmp 22)) none [4,5],.mk (some 24) (.load true 2 (.tmp 23)) none [6]]
def l23r5b:List AOper :=
  [.mk (some 25) (.call 32 [.tmp 20,.tmp 24]) none [3,7],.mk (some 26) (.un .not (.tmp 25)) none [8]]
def l23r5:List AOper:=l23r5a ++ l23r5b
def l23r6:List AOper :=
  [.mk (some 4) (.mv (.const (.bool false))) none []]
def l23r7:List AOper :=
  [.mk (some 15) (.mv (.tmp 5)) none [],.mk (some 16) (.bin .add (.tmp 15) (.const (.int .i64 1))) none [0],.mk (some 5) (.mv (.tmp 16)) none [1,0,1]]
def l23r8:List AOper :=
  [.mk (some 4) (.mv (.const (.bool true))) none []]
def l23:AFn :=
  (AFn.mk 27 2 (.seq (.reg l23r0) (.seq (.seq (.reg l23r1) (.cond (.tmp 10) (.seq (.reg l23r2) .ret) .skip)) (.seq (.seq (.reg l23r3) (.block 0 (.loop (.seq (.seq (.reg l23r4) (.cond (.tmp 14) .skip (.exit 0))) (.seq (.block 1 (.seq (.draw l23r5) (.cond (.tmp 26) (.seq (.reg l23r6) .ret) .skip))) (.reg l23r7)))))) (.seq (.reg l23r8) .ret)))) [.tmp 4])
theorem l23_eq:lowFn Try.prog 23=some l23:=by kernel_rfl
def l24r0:List AOper :=
  [.mk (some 4) (.mv (.const (.bool false))) none []]
def l24r1:List AOper :=
  [.mk (some 6) (.mv (.tmp 0)) none [],.mk (some 7) (.len (.tmp 6)) none [0],.mk (some 8) (.mv (.tmp 1)) none [],.mk (some 9) (.len (.tmp 8)) none [2],.mk (some 10) (.bin .neq (.tmp 7) (.tmp 9)) none [1,3]]
def l24r2:List AOper :=
  [.mk (some 4) (.mv (.const (.bool false))) none []]
def l24r3:List AOper :=
  [.mk (some 5) (.mv (.const (.int .i64 0))) none []]
def l24r4:List AOper :=
  [.mk (some 11) (.mv (.tmp 5)) none [],.mk (some 12) (.mv (.tmp 0)) none [],.mk (some 13) (.len (.tmp 12)) none [1],.mk (some 14) (.bin .lss (.tmp 11) (.tmp 13)) none [0,2]]
def l24r5a:List AOper :=
  [.mk (some 17) (.mv (.tmp 0)) none [],.mk (some 18) (.mv (.tmp 5)) none [],.mk (some 19) (.idxA 1 (.tmp 17) (.tmp 18)) none [0,1],.mk (some 20) (.load false 1 (.tmp 19)) none [2],.mk (some 21) (.mv (.tmp 1)) none [],.mk (some 22) (.mv (.tmp 5)) none [],.mk (some 23) (.idxA 1 (.tmp 21) (.tmp 22)) none [4,5],.mk (some 24) (.load false 1 (.tmp 23)) none [6]]
def l24r5b:List AOper :=
  [.mk (some 25) (.call 12 [.tmp 20,.tmp 24]) none [3,7],.mk (some 26) (.un .not (.tmp 25)) none [8]]
def l24r5:List AOper:=l24r5a ++ l24r5b
def l24r6:List AOper :=
  [.mk (some 4) (.mv (.const (.bool false))) none []]
def l24r7:List AOper :=
  [.mk (some 15) (.mv (.tmp 5)) none [],.mk (some 16) (.bin .add (.tmp 15) (.const (.int .i64 1))) none [0],.mk (some 5) (.mv (.tmp 16)) none [1,0,1]]
def l24r8:List AOper :=
  [.mk (some 4) (.mv (.const (.bool true))) none []]
def l24:AFn :=
  (AFn.mk 27 2 (.seq (.reg l24r0) (.seq (.seq (.reg l24r1) (.cond (.tmp 10) (.seq (.reg l24r2) .ret) .skip)) (.seq (.seq (.reg l24r3) (.block 0 (.loop (.seq (.seq (.reg l24r4) (.cond (.tmp 14) .skip (.exit 0))) (.seq (.block 1 (.seq (.draw l24r5) (.cond (.tmp 26) (.seq (.reg l24r6) .ret) .skip))) (.reg l24r7)))))) (.seq (.reg l24r8) .ret)))) [.tmp 4])
theorem l24_eq:lowFn Try.prog 24=some l24:=by kernel_rfl
def l25r0:List AOper :=
  [.mk (some 4) (.mv (.const (.int .i64 0))) none []]
def l25r1:List AOper :=
  [.mk (some 5) (.mv (.const (.int .i64 0))) none []]
def l25r2:List AOper :=
  [.mk (some 6) (.mv (.tmp 5)) none [],.mk (some 7) (.mv (.tmp 0)) none [],.mk (some 8) (.len (.tmp 7)) none [1],.mk (some 9) (.bin .lss (.tmp 6) (.tmp 8)) none [0,2]]
def l25r3:List AOper :=
  [.mk (some 12) (.mv (.tmp 0)) none [],.mk (some 13) (.mv (.tmp 5)) none [],.mk (some 14) (.idxA 2 (.tmp 12) (.tmp 13)) none [0,1],.mk (some 15) (.fld 0 (.tmp 14)) none [2],.mk (some 16) (.load false 1 (.tmp 15)) none [3],.mk (some 17) (.mv (.tmp 1)) none [],.mk (some 18) (.call 15 [.tmp 16,.tmp 17]) none [4,5],.mk (some 1) (.mv (.tmp 18)) none [6,6,0,1,2,3,4,5,6]]
def l25r4:List AOper :=
  [.mk (some 19) (.mv (.tmp 0)) none [],.mk (some 20) (.mv (.tmp 5)) none [],.mk (some 21) (.idxA 2 (.tmp 19) (.tmp 20)) none [0,1],.mk (some 22) (.fld 1 (.tmp 21)) none [2],.mk (some 23) (.load false 1 (.tmp 22)) none [3],.mk (some 24) (.mv (.tmp 1)) none [],.mk (some 25) (.call 15 [.tmp 23,.tmp 24]) none [4,5],.mk (some 1) (.mv (.tmp 25)) none [6,6,0,1,2,3,4,5,6]]
def l25r5:List AOper :=
  [.mk (some 10) (.mv (.tmp 5)) none [],.mk (some 11) (.bin .add (.tmp 10) (.const (.int .i64 1))) none [0],.mk (some 5) (.mv (.tmp 11)) none [1,0,1]]
def l25r6:List AOper :=
  [.mk (some 26) (.mv (.tmp 1)) none [],.mk (some 4) (.mv (.tmp 26)) none [0,0]]
def l25:AFn :=
  (AFn.mk 27 2 (.seq (.reg l25r0) (.seq (.seq (.reg l25r1) (.block 0 (.loop (.seq (.seq (.reg l25r2) (.cond (.tmp 9) .skip (.exit 0))) (.seq (.block 1 (.seq (.reg l25r3) (.reg l25r4))) (.reg l25r5)))))) (.seq (.reg l25r6) .ret))) [.tmp 4])
theorem l25_eq:lowFn Try.prog 25=some l25:=by kernel_rfl
def l26r0:List AOper :=
  [.mk (some 4) (.mv (.const (.int .i64 0))) none []]
def l26r1:List AOper :=
  [.mk (some 5) (.mv (.const (.int .i64 0))) none []]
def l26r2:List AOper :=
  [.mk (some 6) (.mv (.tmp 5)) none [],.mk (some 7) (.mv (.tmp 0)) none [],.mk (some 8) (.len (.tmp 7)) none [1],.mk (some 9) (.bin .lss (.tmp 6) (.tmp 8)) none [0,2]]
def l26r3:List AOper :=
  [.mk (some 12) (.mv (.tmp 0)) none [],.mk (some 13) (.mv (.tmp 5)) none [],.mk (some 14) (.idxA 1 (.tmp 12) (.tmp 13)) none [0,1],.mk (some 15) (.load false 1 (.tmp 14)) none [2],.mk (some 16) (.mv (.tmp 1)) none [],.mk (some 17) (.call 15 [.tmp 15,.tmp 16]) none [3,4],.mk (some 1) (.mv (.tmp 17)) none [5,5,0,1,2,3,4,5]]
def l26r4:List AOper :=
  [.mk (some 10) (.mv (.tmp 5)) none [],.mk (some 11) (.bin .add (.tmp 10) (.const (.int .i64 1))) none [0],.mk (some 5) (.mv (.tmp 11)) none [1,0,1]]
def l26r5:List AOper :=
  [.mk (some 18) (.mv (.tmp 1)) none [],.mk (some 4) (.mv (.tmp 18)) none [0,0]]
def l26:AFn :=
  (AFn.mk 19 2 (.seq (.reg l26r0) (.seq (.seq (.reg l26r1) (.block 0 (.loop (.seq (.seq (.reg l26r2) (.cond (.tmp 9) .skip (.exit 0))) (.seq (.block 1 (.reg l26r3)) (.reg l26r4)))))) (.seq (.reg l26r5) .ret))) [.tmp 4])
theorem l26_eq:lowFn Try.prog 26=some l26:=by kernel_rfl
def l28r0:List AOper :=
  [.mk (some 2) (.mv (.const (.slice none 0 0))) none []]
def l28r1:List AOper :=
  [.mk (some 5) (.mv (.tmp 0)) none [],.mk (some 6) (.len (.tmp 5)) none [0],.mk (some 7) (.mkslice 1 [.int .i64 0] (.tmp 6) (.tmp 6)) none [1,1],.mk (some 3) (.mv (.tmp 7)) none [2,0,1,2]]
def l28r2:List AOper :=
  [.mk (some 4) (.mv (.const (.int .i64 0))) none []]
def l28r3:List AOper :=
  [.mk (some 8) (.mv (.tmp 4)) none [],.mk (some 9) (.mv (.tmp 0)) none [],.mk (some 10) (.len (.tmp 9)) none [1],.mk (some 11) (.bin .lss (.tmp 8) (.tmp 10)) none [0,2]]
def l28r4:List AOper :=
  [.mk (some 14) (.mv (.tmp 3)) none [],.mk (some 15) (.mv (.tmp 4)) none [],.mk (some 16) (.mv (.tmp 0)) none [],.mk (some 17) (.mv (.tmp 4)) none [],.mk (some 18) (.idxA 1 (.tmp 16) (.tmp 17)) none [2,3],.mk (some 19) (.load false 1 (.tmp 18)) none [4],.mk (some 20) (.idxA 1 (.tmp 14) (.tmp 15)) none [0,1,0,1,2,3,4,5],.mk none (.store 1 (.tmp 20) (.tmp 19)) none [6,5,0,1,2,3,4,5]]
def l28r5:List AOper :=
  [.mk (some 12) (.mv (.tmp 4)) none [],.mk (some 13) (.bin .add (.tmp 12) (.const (.int .i64 1))) none [0],.mk (some 4) (.mv (.tmp 13)) none [1,0,1]]
def l28r6:List AOper :=
  [.mk (some 21) (.mv (.tmp 3)) none [],.mk (some 2) (.mv (.tmp 21)) none [0,0]]
def l28:AFn :=
  (AFn.mk 22 1 (.seq (.reg l28r0) (.seq (.reg l28r1) (.seq (.seq (.reg l28r2) (.block 0 (.loop (.seq (.seq (.reg l28r3) (.cond (.tmp 11) .skip (.exit 0))) (.seq (.block 1 (.reg l28r4)) (.reg l28r5)))))) (.seq (.reg l28r6) .ret)))) [.tmp 2])
theorem l28_eq:lowFn Try.prog 28=some l28:=by kernel_rfl
def l32r0:List AOper :=
  [.mk (some 2) (.box (.tmp 0)) none [],.mk (some 3) (.box (.tmp 1)) none [],.mk (some 4) (.mv (.const (.bool false))) none []]
def l32r1:List AOper :=
  [.mk (some 5) (.fld 0 (.tmp 2)) none [],.mk (some 6) (.load false 1 (.tmp 5)) none [0],.mk (some 7) (.fld 0 (.tmp 3)) none [],.mk (some 8) (.load false 1 (.tmp 7)) none [2],.mk (some 9) (.call 12 [.tmp 6,.tmp 8]) none [1,3],.mk (some 10) (.un .not (.tmp 9)) none [4]]
def l32r2:List AOper :=
  [.mk (some 4) (.mv (.const (.bool false))) none []]
def l32r3:List AOper :=
  [.mk (some 11) (.fld 1 (.tmp 2)) none [],.mk (some 12) (.load false 1 (.tmp 11)) none [0],.mk (some 13) (.fld 1 (.tmp 3)) none [],.mk (some 14) (.load false 1 (.tmp 13)) none [2],.mk (some 15) (.call 12 [.tmp 12,.tmp 14]) none [1,3],.mk (some 16) (.un .not (.tmp 15)) none [4]]
def l32r4:List AOper :=
  [.mk (some 4) (.mv (.const (.bool false))) none []]
def l32r5:List AOper :=
  [.mk (some 4) (.mv (.const (.bool true))) none []]
def l32:AFn :=
  (AFn.mk 17 2 (.seq (.reg l32r0) (.seq (.seq (.reg l32r1) (.cond (.tmp 10) (.seq (.reg l32r2) .ret) .skip)) (.seq (.seq (.reg l32r3) (.cond (.tmp 16) (.seq (.reg l32r4) .ret) .skip)) (.seq (.reg l32r5) .ret)))) [.tmp 4])
theorem l32_eq:lowFn Try.prog 32=some l32:=by kernel_rfl
def l46r0:List AOper :=
  [.mk (some 2) (.box (.tmp 0)) none [],.mk (some 4) (.mv (.const (.int .i64 0))) none []]
def l46r1:List AOper :=
  [.mk (some 5) (.fld 0 (.tmp 2)) none [],.mk (some 6) (.load false 1 (.tmp 5)) none [0],.mk (some 7) (.mv (.tmp 1)) none [],.mk (some 8) (.call 47 [.tmp 6,.tmp 7]) none [1,2],.mk (some 1) (.mv (.tmp 8)) none [3,3,0,1,2,3]]
def l46r2:List AOper :=
  [.mk (some 9) (.mv (.tmp 1)) none [],.mk (some 10) (.bin .lss (.tmp 9) (.const (.int .i64 0))) none [0]]
def l46r3:List AOper :=
  [.mk (some 4) (.mv (.const (.int .i64 (-1)))) none []]
def l46r4:List AOper :=
  [.mk (some 11) (.fld 1 (.tmp 2)) none [],.mk (some 12) (.load false 1 (.tmp 11)) none [0],.mk (some 13) (.mv (.tmp 1)) none [],.mk (some 14) (.call 47 [.tmp 12,.tmp 13]) none [1,2],.mk (some 1) (.mv (.tmp 14)) none [3,3,0,1,2,3]]
def l46r5:List AOper :=
  [.mk (some 15) (.mv (.tmp 1)) none [],.mk (some 16) (.bin .lss (.tmp 15) (.const (.int .i64 0))) none [0]]
def l46r6:List AOper :=
  [.mk (some 4) (.mv (.const (.int .i64 (-1)))) none []]
def l46r7:List AOper :=
  [.mk (some 17) (.mv (.tmp 1)) none [],.mk (some 4) (.mv (.tmp 17)) none [0,0]]
def l46:AFn :=
  (AFn.mk 18 2 (.seq (.reg l46r0) (.seq (.reg l46r1) (.seq (.seq (.reg l46r2) (.cond (.tmp 10) (.seq (.reg l46r3) .ret) .skip)) (.seq (.reg l46r4) (.seq (.seq (.reg l46r5) (.cond (.tmp 16) (.seq (.reg l46r6) .ret) .skip)) (.seq (.reg l46r7) .ret)))))) [.tmp 4])
theorem l46_eq:lowFn Try.prog 46=some l46:=by kernel_rfl
def l47r0:List AOper :=
  [.mk (some 4) (.mv (.const (.int .i64 0))) none []]
def l47r1:List AOper :=
  [.mk (some 5) (.mv (.tmp 1)) none [],.mk (some 6) (.mv (.tmp 0)) none [],.mk (some 7) (.len (.tmp 6)) none [1],.mk (some 8) (.bin .sub (.tmp 5) (.tmp 7)) none [0,2],.mk (some 1) (.mv (.tmp 8)) none [3,0,1,2,3]]
def l47r2:List AOper :=
  [.mk (some 9) (.mv (.tmp 1)) none [],.mk (some 10) (.bin .lss (.tmp 9) (.const (.int .i64 0))) none [0]]
def l47r3:List AOper :=
  [.mk (some 4) (.mv (.const (.int .i64 (-1)))) none []]
def l47r4:List AOper :=
  [.mk (some 11) (.mv (.tmp 1)) none [],.mk (some 4) (.mv (.tmp 11)) none [0,0]]
def l47:AFn :=
  (AFn.mk 12 2 (.seq (.reg l47r0) (.seq (.reg l47r1) (.seq (.seq (.reg l47r2) (.cond (.tmp 10) (.seq (.reg l47r3) .ret) .skip)) (.seq (.reg l47r4) .ret)))) [.tmp 4])
theorem l47_eq:lowFn Try.prog 47=some l47:=by kernel_rfl
def l48r0:List AOper :=
  [.mk (some 4) (.mv (.const (.bool false))) none []]
def l48r1:List AOper :=
  [.mk (some 5) (.mv (.const (.int .i64 0))) none []]
def l48r2:List AOper :=
  [.mk (some 6) (.mv (.tmp 5)) none [],.mk (some 7) (.mv (.tmp 0)) none [],.mk (some 8) (.len (.tmp 7)) none [1],.mk (some 9) (.bin .lss (.tmp 6) (.tmp 8)) none [0,2]]
def l48r3:List AOper :=
  [.mk (some 12) (.mv (.tmp 0)) none [],.mk (some 13) (.mv (.tmp 5)) none [],.mk (some 14) (.idxA 2 (.tmp 12) (.tmp 13)) none [0,1],.mk (some 15) (.load true 2 (.tmp 14)) none [2],.mk (some 16) (.call 76 [.tmp 15]) none [3],.mk (some 17) (.un .not (.tmp 16)) none [4]]
def l48r4:List AOper :=
  [.mk (some 4) (.mv (.const (.bool false))) none []]
def l48r5:List AOper :=
  [.mk (some 10) (.mv (.tmp 5)) none [],.mk (some 11) (.bin .add (.tmp 10) (.const (.int .i64 1))) none [0],.mk (some 5) (.mv (.tmp 11)) none [1,0,1]]
def l48r6:List AOper :=
  [.mk (some 18) (.mv (.tmp 0)) none [],.mk (some 19) (.len (.tmp 18)) none [0],.mk (some 20) (.call 54 [.tmp 19,.const (.int .i64 1),.const (.int .i64 3)]) none [1],.mk (some 21) (.mv (.tmp 20)) none [2,2],.mk (some 22) (.mv (.tmp 1)) (some (21,true)) [3],.mk (some 23) (.len (.tmp 22)) (some (21,true)) [4,3],.mk (some 24) (.mv (.tmp 0)) (some (21,true)) [3],.mk (some 25) (.len (.tmp 24)) (some (21,true)) [6,3],.mk (some 26) (.bin .eql (.tmp 23) (.tmp 25)) (some (21,true)) [5,7,3],.mk (some 27) (.pick (.tmp 21) (.tmp 26) (.const (.bool false))) none [3,8],.mk (some 4) (.mv (.tmp 27)) none [9,3,0,1,2,3,4,5,6,7,8,9]]
def l48:AFn :=
  (AFn.mk 28 2 (.seq (.reg l48r0) (.seq (.seq (.reg l48r1) (.block 0 (.loop (.seq (.seq (.reg l48r2) (.cond (.tmp 9) .skip (.exit 0))) (.seq (.block 1 (.seq (.reg l48r3) (.cond (.tmp 17) (.seq (.reg l48r4) .ret) .skip))) (.reg l48r5)))))) (.seq (.reg l48r6) .ret))) [.tmp 4])
theorem l48_eq:lowFn Try.prog 48=some l48:=by kernel_rfl
def l49r0:List AOper :=
  [.mk (some 4) (.mv (.const (.slice none 0 0))) none [],.mk (some 5) (.mv (.const (.bool false))) none [0]]
def l49r1:List AOper :=
  [.mk (some 11) (.bslice 1 [.int .i64 0] [] 0) none [],.mk (some 6) (.mv (.tmp 11)) none [0,0]]
def l49r2:List AOper :=
  [.mk (some 7) (.mv (.const (.int .i64 0))) none []]
def l49r3:List AOper :=
  [.mk (some 12) (.mv (.tmp 7)) none [],.mk (some 13) (.bin .leq (.tmp 12) (.const (.int .i64 4))) none [0]]
def l49r4:List AOper :=
  [.mk (some 16) (.mv (.tmp 6)) none [],.mk (some 17) (.bslice 1 [.int .i64 0] [(0,.const (.int .i64 (-1)))] 1) none [],.mk (some 18) (.append 1 (.tmp 16) (.tmp 17)) none [0,1],.mk (some 6) (.mv (.tmp 18)) none [2,2,0,1,2]]
def l49r5:List AOper :=
  [.mk (some 14) (.mv (.tmp 7)) none [],.mk (some 15) (.bin .add (.tmp 14) (.const (.int .i64 1))) none [0],.mk (some 7) (.mv (.tmp 15)) none [1,0,1]]
def l49r6:List AOper :=
  [.mk (some 8) (.mv (.const (.int .i64 0))) none []]
def l49r7:List AOper :=
  [.mk (some 19) (.mv (.tmp 8)) none [],.mk (some 20) (.mv (.tmp 0)) none [],.mk (some 21) (.len (.tmp 20)) none [1],.mk (some 22) (.bin .lss (.tmp 19) (.tmp 21)) none [0,2]]
def l49r8a:List AOper :=
  [.mk (some 25) (.mv (.tmp 1)) none [],.mk (some 26) (.mv (.tmp 8)) none [],.mk (some 27) (.idxA 1 (.tmp 25) (.tmp 26)) none [0,1],.mk (some 28) (.load false 1 (.tmp 27)) none [2],.mk (some 29) (.len (.tmp 28)) none [3],.mk (some 30) (.mv (.tmp 0)) none [],.mk (some 31) (.mv (.tmp 8)) none [],.mk (some 32) (.idxA 2 (.tmp 30) (.tmp 31)) none [5,6],.mk (some 33) (.fld 0 (.tmp 32)) none [7],.mk (some 34) (.load false 1 (.tmp 33)) none [8],.mk (some 35) (.len (.tmp 34)) none [9],.mk (some 36) (.bin .neq (.tmp 29) (.tmp 35)) none [4,10],.mk (some 37) (.mv (.tmp 36)) none [11],.mk (some 38) (.mv (.tmp 1)) (some (37,false)) [12],.mk (some 39) (.mv (.tmp 8)) (some (37,false)) [12]]
def l49r8b:List AOper :=
  [.mk (some 40) (.idxA 1 (.tmp 38) (.tmp 39)) (some (37,false)) [13,14,12],.mk (some 41) (.load false 1 (.tmp 40)) (some (37,false)) [15,12],.mk (some 42) (.call 53 [.tmp 41,.const (.int .i64 0),.const (.int .i64 4)]) (some (37,false)) [16,12,12],.mk (some 43) (.un .not (.tmp 42)) (some (37,false)) [17,12],.mk (some 44) (.pick (.tmp 37) (.const (.bool true)) (.tmp 43)) none [12,18]]
def l49r8:List AOper:=l49r8a ++ l49r8b
def l49r9:List AOper :=
  [.mk (some 4) (.mv (.const (.slice none 0 0))) none [],.mk (some 5) (.mv (.const (.bool false))) none [0,0]]
def l49r10:List AOper :=
  [.mk (some 9) (.mv (.const (.int .i64 0))) none []]
def l49r11:List AOper :=
  [.mk (some 45) (.mv (.tmp 9)) none [],.mk (some 46) (.mv (.tmp 1)) none [],.mk (some 47) (.mv (.tmp 8)) none [],.mk (some 48) (.idxA 1 (.tmp 46) (.tmp 47)) none [1,2],.mk (some 49) (.load false 1 (.tmp 48)) none [3],.mk (some 50) (.len (.tmp 49)) none [4],.mk (some 51) (.bin .lss (.tmp 45) (.tmp 50)) none [0,5]]
def l49r12:List AOper :=
  [.mk (some 54) (.mv (.tmp 1)) none [],.mk (some 55) (.mv (.tmp 8)) none [],.mk (some 56) (.idxA 1 (.tmp 54) (.tmp 55)) none [0,1],.mk (some 57) (.load false 1 (.tmp 56)) none [2],.mk (some 58) (.mv (.tmp 9)) none [],.mk (some 59) (.idxA 1 (.tmp 57) (.tmp 58)) none [3,4],.mk (some 60) (.load false 1 (.tmp 59)) none [5],.mk (some 10) (.mv (.tmp 60)) none [6,0,1,2,3,4,5,6]]
def l49r13a:List AOper :=
  [.mk (some 61) (.mv (.tmp 6)) none [],.mk (some 62) (.mv (.tmp 10)) none [],.mk (some 63) (.idxA 1 (.tmp 61) (.tmp 62)) none [0,1],.mk (some 64) (.load false 1 (.tmp 63)) none [2],.mk (some 65) (.bin .geq (.tmp 64) (.const (.int .i64 0))) none [3],.mk (some 66) (.mv (.tmp 65)) none [4],.mk (some 67) (.mv (.tmp 6)) (some (66,true)) [5],.mk (some 68) (.mv (.tmp 10)) (some (66,true)) [5],.mk (some 69) (.idxA 1 (.tmp 67) (.tmp 68)) (some (66,true)) [6,7,5],.mk (some 70) (.load false 1 (.tmp 69)) (some (66,true)) [8,5],.mk (some 71) (.mv (.tmp 0)) (some (66,true)) [5],.mk (some 72) (.mv (.tmp 8)) (some (66,true)) [5],.mk (some 73) (.idxA 2 (.tmp 71) (.tmp 72)) (some (66,true)) [10,11,5],.mk (some 74) (.fld 0 (.tmp 73)) (some (66,true)) [12,5],.mk (some 75) (.load false 1 (.tmp 74)) (some (66,true)) [13,5],.mk (some 76) (.mv (.tmp 9)) (some (66,true)) [5],.mk (some 77) (.idxA 1 (.tmp 75) (.tmp 76)) (some (66,true)) [14,15,5],.mk (some 78) (.load false 1 (.tmp 77)) (some (66,true)) [16,5]]
def l49r13b:List AOper :=
  [.mk (some 79) (.bin .neq (.tmp 70) (.tmp 78)) (some (66,true)) [9,17,5],.mk (some 80) (.pick (.tmp 66) (.tmp 79) (.const (.bool false))) none [5,18]]
def l49r13:List AOper:=l49r13a ++ l49r13b
def l49r14:List AOper :=
  [.mk (some 4) (.mv (.const (.slice none 0 0))) none [],.mk (some 5) (.mv (.const (.bool false))) none [0,0]]
def l49r15:List AOper :=
  [.mk (some 81) (.mv (.tmp 6)) none [],.mk (some 82) (.mv (.tmp 10)) none [],.mk (some 83) (.mv (.tmp 0)) none [],.mk (some 84) (.mv (.tmp 8)) none [],.mk (some 85) (.idxA 2 (.tmp 83) (.tmp 84)) none [2,3],.mk (some 86) (.fld 0 (.tmp 85)) none [4],.mk (some 87) (.load false 1 (.tmp 86)) none [5],.mk (some 88) (.mv (.tmp 9)) none [],.mk (some 89) (.idxA 1 (.tmp 87) (.tmp 88)) none [6,7],.mk (some 90) (.load false 1 (.tmp 89)) none [8],.mk (some 91) (.idxA 1 (.tmp 81) (.tmp 82)) none [0,1,0,1,2,3,4,5,6,7,8,9],.mk none (.store 1 (.tmp 91) (.tmp 90)) none [10,9,0,1,2,3,4,5,6,7,8,9]]
def l49r16:List AOper :=
  [.mk (some 52) (.mv (.tmp 9)) none [],.mk (some 53) (.bin .add (.tmp 52) (.const (.int .i64 1))) none [0],.mk (some 9) (.mv (.tmp 53)) none [1,0,1]]
def l49r17:List AOper :=
  [.mk (some 23) (.mv (.tmp 8)) none [],.mk (some 24) (.bin .add (.tmp 23) (.const (.int .i64 1))) none [0],.mk (some 8) (.mv (.tmp 24)) none [1,0,1]]
def l49r18:List AOper :=
  [.mk (some 92) (.mv (.tmp 6)) none [],.mk (some 4) (.mv (.tmp 92)) none [0,0],.mk (some 5) (.mv (.const (.bool true))) none [1,0,1]]
def l49:AFn :=
  (AFn.mk 93 2 (.seq (.reg l49r0) (.seq (.reg l49r1) (.seq (.seq (.reg l49r2) (.block 0 (.loop (.seq (.seq (.reg l49r3) (.cond (.tmp 13) .skip (.exit 0))) (.seq (.block 1 (.reg l49r4)) (.reg l49r5)))))) (.seq (.seq (.reg l49r6) (.block 2 (.loop (.seq (.seq (.reg l49r7) (.cond (.tmp 22) .skip (.exit 2))) (.seq (.block 3 (.seq (.seq (.draw l49r8) (.cond (.tmp 44) (.seq (.reg l49r9) .ret) .skip)) (.seq (.reg l49r10) (.block 4 (.loop (.seq (.seq (.reg l49r11) (.cond (.tmp 51) .skip (.exit 4))) (.seq (.block 5 (.seq (.reg l49r12) (.seq (.seq (.draw l49r13) (.cond (.tmp 80) (.seq (.reg l49r14) .ret) .skip)) (.reg l49r15)))) (.reg l49r16)))))))) (.reg l49r17)))))) (.seq (.reg l49r18) .ret))))) [.tmp 4,.tmp 5])
theorem l49_eq:lowFn Try.prog 49=some l49:=by kernel_rfl
def l50r0:List AOper :=
  [.mk (some 1) (.box (.tmp 0)) none [],.mk (some 2) (.alloc [.slice none 0 0,.slice none 0 0]) none []]
def l50r1:List AOper :=
  [.mk (some 3) (.alloc [.slice none 0 0,.slice none 0 0]) none []]
def l50r2:List AOper :=
  [.mk (some 4) (.fld 0 (.tmp 1)) none [],.mk (some 5) (.load false 1 (.tmp 4)) none [0],.mk (some 6) (.call 28 [.tmp 5]) none [1],.mk (some 7) (.fld 0 (.tmp 3)) none [0,1,2],.mk none (.store 1 (.tmp 7) (.tmp 6)) none [3,2,2,0,1,2]]
def l50r3:List AOper :=
  [.mk (some 8) (.fld 1 (.tmp 1)) none [],.mk (some 9) (.load false 1 (.tmp 8)) none [0],.mk (some 10) (.call 28 [.tmp 9]) none [1],.mk (some 11) (.fld 1 (.tmp 3)) none [0,1,2],.mk none (.store 1 (.tmp 11) (.tmp 10)) none [3,2,2,0,1,2]]
def l50r4:List AOper :=
  [.mk (some 12) (.load true 2 (.tmp 3)) none [],.mk none (.store 2 (.tmp 2) (.tmp 12)) none [0,0]]
def l50:AFn :=
  (AFn.mk 13 1 (.seq (.reg l50r0) (.seq (.reg l50r1) (.seq (.reg l50r2) (.seq (.reg l50r3) (.seq (.reg l50r4) .ret))))) [.cell 2 true 2])
theorem l50_eq:lowFn Try.prog 50=some l50:=by kernel_rfl
def l51r0:List AOper :=
  [.mk (some 6) (.alloc [.int .i64 0,.int .i64 0,.int .i64 0,.int .i64 0,.int .i64 0]) none [],.mk (some 7) (.mv (.const (.bool false))) none []]
def l51r1:List AOper :=
  [.mk (some 8) (.mv (.tmp 0)) none [],.mk (some 9) (.len (.tmp 8)) none [0],.mk (some 10) (.bin .lss (.tmp 9) (.const (.int .i64 1))) none [1],.mk (some 11) (.mv (.tmp 10)) none [2],.mk (some 12) (.mv (.tmp 0)) (some (11,false)) [3],.mk (some 13) (.len (.tmp 12)) (some (11,false)) [4,3],.mk (some 14) (.bin .gtr (.tmp 13) (.const (.int .i64 3))) (some (11,false)) [5,3],.mk (some 15) (.pick (.tmp 11) (.const (.bool true)) (.tmp 14)) none [3,6],.mk (some 16) (.mv (.tmp 15)) none [7,3],.mk (some 17) (.mv (.tmp 1)) (some (16,false)) [8],.mk (some 18) (.len (.tmp 17)) (some (16,false)) [9,8],.mk (some 19) (.mv (.tmp 0)) (some (16,false)) [8],.mk (some 20) (.len (.tmp 19)) (some (16,false)) [11,8],.mk (some 21) (.bin .neq (.tmp 18) (.tmp 20)) (some (16,false)) [10,12,8],.mk (some 22) (.pick (.tmp 16) (.const (.bool true)) (.tmp 21)) none [8,13],.mk (some 23) (.mv (.tmp 22)) none [14,8],.mk (some 24) (.mv (.tmp 2)) (some (23,false)) [15],.mk (some 25) (.call 77 [.tmp 24]) (some (23,false)) [16,15,15],.mk (some 26) (.un .not (.tmp 25)) (some (23,false)) [17,15],.mk (some 27) (.pick (.tmp 23) (.const (.bool true)) (.tmp 26)) none [15,18]]
def l51r2:List AOper :=
  [.mk (some 28) (.call 78 []) none [],.mk none (.store 5 (.tmp 6) (.tmp 28)) none [0,0,0],.mk (some 7) (.mv (.const (.bool false))) none [1,0,1]]
def l51r3:List AOper :=
  [.mk (some 29) (.mv (.tmp 0)) none [],.mk (some 30) (.mv (.tmp 1)) none [],.mk (some 31) (.call 79 [.tmp 29,.tmp 30]) none [0,1],.mk (some 32) (.extract (.tmp 31) 0) none [2],.mk (some 33) (.extract (.tmp 31) 1) none [2],.mk none (.store 5 (.tmp 6) (.tmp 32)) none [3,2,0,1,2,3,4],.mk (some 7) (.mv (.tmp 33)) none [4,5,0,1,2,3,4,5]]
def l51:AFn :=
  (AFn.mk 34 3 (.seq (.reg l51r0) (.seq (.seq (.reg l51r1) (.cond (.tmp 27) (.seq (.reg l51r2) .ret) .skip)) (.seq (.reg l51r3) .ret))) [.cell 6 true 5,.tmp 7])
theorem l51_eq:lowFn Try.prog 51=some l51:=by kernel_rfl
def l52r0:List AOper :=
  [.mk (some 2) (.mv (.const (.slice none 0 0))) none []]
def l52r1:List AOper :=
  [.mk (some 3) (.mv (.tmp 0)) none [],.mk (some 4) (.isnil false (.tmp 3)) none [0]]
def l52r2:List AOper :=
  [.mk (some 2) (.mv (.const (.slice none 0 0))) none []]
def l52r3:List AOper :=
  [.mk (some 5) (.bslice 1 [.int .i64 0] [] 0) none [],.mk (some 6) (.mv (.tmp 0)) none [],.mk (some 7) (.append 1 (.tmp 5) (.tmp 6)) none [0,1],.mk (some 2) (.mv (.tmp 7)) none [2,2,0,1,2]]
def l52:AFn :=
  (AFn.mk 8 1 (.seq (.reg l52r0) (.seq (.seq (.reg l52r1) (.cond (.tmp 4) (.seq (.reg l52r2) .ret) .skip)) (.seq (.reg l52r3) .ret))) [.tmp 2])
theorem l52_eq:lowFn Try.prog 52=some l52:=by kernel_rfl
def l53r0:List AOper :=
  [.mk (some 6) (.mv (.const (.bool false))) none []]
def l53r1:List AOper :=
  [.mk (some 7) (.mv (.const (.int .i64 0))) none []]
def l53r2:List AOper :=
  [.mk (some 8) (.mv (.tmp 7)) none [],.mk (some 9) (.mv (.tmp 0)) none [],.mk (some 10) (.len (.tmp 9)) none [1],.mk (some 11) (.bin .lss (.tmp 8) (.tmp 10)) none [0,2]]
def l53r3:List AOper :=
  [.mk (some 14) (.mv (.tmp 0)) none [],.mk (some 15) (.mv (.tmp 7)) none [],.mk (some 16) (.idxA 1 (.tmp 14) (.tmp 15)) none [0,1],.mk (some 17) (.load false 1 (.tmp 16)) none [2],.mk (some 18) (.mv (.tmp 1)) none [],.mk (some 19) (.mv (.tmp 2)) none [],.mk (some 20) (.call 54 [.tmp 17,.tmp 18,.tmp 19]) none [3,4,5],.mk (some 21) (.un .not (.tmp 20)) none [6]]
def l53r4:List AOper :=
  [.mk (some 6) (.mv (.const (.bool false))) none []]
def l53r5:List AOper :=
  [.mk (some 12) (.mv (.tmp 7)) none [],.mk (some 13) (.bin .add (.tmp 12) (.const (.int .i64 1))) none [0],.mk (some 7) (.mv (.tmp 13)) none [1,0,1]]
def l53r6:List AOper :=
  [.mk (some 6) (.mv (.const (.bool true))) none []]
def l53:AFn :=
  (AFn.mk 22 3 (.seq (.reg l53r0) (.seq (.seq (.reg l53r1) (.block 0 (.loop (.seq (.seq (.reg l53r2) (.cond (.tmp 11) .skip (.exit 0))) (.seq (.block 1 (.seq (.reg l53r3) (.cond (.tmp 21) (.seq (.reg l53r4) .ret) .skip))) (.reg l53r5)))))) (.seq (.reg l53r6) .ret))) [.tmp 6])
theorem l53_eq:lowFn Try.prog 53=some l53:=by kernel_rfl
def l54r0:List AOper :=
  [.mk (some 6) (.mv (.const (.bool false))) none []]
def l54r1:List AOper :=
  [.mk (some 7) (.mv (.tmp 1)) none [],.mk (some 8) (.mv (.tmp 0)) none [],.mk (some 9) (.bin .leq (.tmp 7) (.tmp 8)) none [0,1],.mk (some 10) (.mv (.tmp 9)) none [2],.mk (some 11) (.mv (.tmp 0)) (some (10,true)) [3],.mk (some 12) (.mv (.tmp 2)) (some (10,true)) [3],.mk (some 13) (.bin .leq (.tmp 11) (.tmp 12)) (some (10,true)) [4,5,3],.mk (some 14) (.pick (.tmp 10) (.tmp 13) (.const (.bool false))) none [3,6],.mk (some 6) (.mv (.tmp 14)) none [7,3,0,1,2,3,4,5,6,7]]
def l54:AFn :=
  (AFn.mk 15 3 (.seq (.reg l54r0) (.seq (.reg l54r1) .ret)) [.tmp 6])
theorem l54_eq:lowFn Try.prog 54=some l54:=by kernel_rfl
def l62r0:List AOper :=
  [.mk (some 2) (.mv (.const (.bool false))) none []]
def l62r1:List AOper :=
  [.mk (some 5) (.mv (.tmp 0)) none [],.mk (some 6) (.len (.tmp 5)) none [0],.mk (some 7) (.bin .gtr (.tmp 6) (.const (.int .i64 4))) none [1]]
def l62r2:List AOper :=
  [.mk (some 2) (.mv (.const (.bool false))) none []]
def l62r3:List AOper :=
  [.mk (some 8) (.mv (.tmp 0)) none [],.mk (some 9) (.len (.tmp 8)) none [0],.mk (some 10) (.mv (.const (.int .i64 0))) none []]
def l62r4:List AOper :=
  [.mk (some 11) (.bin .lss (.tmp 10) (.tmp 9)) none []]
def l62r5:List AOper :=
  [.mk (some 12) (.idxA 1 (.tmp 8) (.tmp 10)) none [],.mk (some 13) (.load false 1 (.tmp 12)) none [0],.mk (some 4) (.mv (.tmp 13)) none [1,0,1]]
def l62r6:List AOper :=
  [.mk (some 14) (.mv (.tmp 4)) none [],.mk (some 15) (.call 80 [.tmp 14,.const (.int .i64 60)]) none [0],.mk (some 16) (.un .not (.tmp 15)) none [1]]
def l62r7:List AOper :=
  [.mk (some 2) (.mv (.const (.bool false))) none []]
def l62r8:List AOper :=
  [.mk (some 17) (.bin .add (.tmp 10) (.const (.int .i64 1))) none [],.mk (some 10) (.mv (.tmp 17)) none [0]]
def l62r9:List AOper :=
  [.mk (some 18) (.mv (.tmp 0)) none [],.mk (some 19) (.call 86 [.tmp 18]) none [0],.mk (some 20) (.bin .leq (.tmp 19) (.const (.int .i64 60))) none [1],.mk (some 2) (.mv (.tmp 20)) none [2,1,0,1,2]]
def l62:AFn :=
  (AFn.mk 21 1 (.seq (.reg l62r0) (.seq (.seq (.reg l62r1) (.cond (.tmp 7) (.seq (.reg l62r2) .ret) .skip)) (.seq (.seq (.reg l62r3) (.block 0 (.loop (.seq (.reg l62r4) (.seq (.cond (.tmp 11) .skip (.exit 0)) (.seq (.block 1 (.seq (.reg l62r5) (.seq (.reg l62r6) (.cond (.tmp 16) (.seq (.reg l62r7) .ret) .skip)))) (.reg l62r8))))))) (.seq (.reg l62r9) .ret)))) [.tmp 2])
theorem l62_eq:lowFn Try.prog 62=some l62:=by kernel_rfl
def l64r0:List AOper :=
  [.mk (some 1) (.box (.tmp 0)) none [],.mk (some 2) (.mv (.const (.bool false))) none []]
def l64r1a:List AOper :=
  [.mk (some 5) (.fld 0 (.tmp 1)) none [],.mk (some 6) (.load false 1 (.tmp 5)) none [0],.mk (some 7) (.call 62 [.tmp 6]) none [1],.mk (some 8) (.un .not (.tmp 7)) none [2],.mk (some 9) (.mv (.tmp 8)) none [3,2],.mk (some 10) (.fld 1 (.tmp 1)) (some (9,false)) [4],.mk (some 11) (.load false 1 (.tmp 10)) (some (9,false)) [5,4],.mk (some 12) (.len (.tmp 11)) (some (9,false)) [6,4],.mk (some 13) (.fld 0 (.tmp 1)) (some (9,false)) [4],.mk (some 14) (.load false 1 (.tmp 13)) (some (9,false)) [8,4],.mk (some 15) (.call 86 [.tmp 14]) (some (9,false)) [9,4,4]]
def l64r1b:List AOper :=
  [.mk (some 16) (.bin .neq (.tmp 12) (.tmp 15)) (some (9,false)) [7,10,4],.mk (some 17) (.pick (.tmp 9) (.const (.bool true)) (.tmp 16)) none [4,11]]
def l64r1:List AOper:=l64r1a ++ l64r1b
def l64r2:List AOper :=
  [.mk (some 2) (.mv (.const (.bool false))) none []]
def l64r3:List AOper :=
  [.mk (some 18) (.fld 1 (.tmp 1)) none [],.mk (some 19) (.load false 1 (.tmp 18)) none [0],.mk (some 20) (.len (.tmp 19)) none [1],.mk (some 21) (.mv (.const (.int .i64 0))) none []]
def l64r4:List AOper :=
  [.mk (some 22) (.bin .lss (.tmp 21) (.tmp 20)) none []]
def l64r5:List AOper :=
  [.mk (some 23) (.idxA 1 (.tmp 19) (.tmp 21)) none [],.mk (some 24) (.load false 1 (.tmp 23)) none [0],.mk (some 4) (.mv (.tmp 24)) none [1,0,1]]
def l64r6:List AOper :=
  [.mk (some 25) (.mv (.tmp 4)) none [],.mk (some 26) (.call 91 [.tmp 25,.const (.int .i64 1000000)]) none [0],.mk (some 27) (.un .not (.tmp 26)) none [1]]
def l64r7:List AOper :=
  [.mk (some 2) (.mv (.const (.bool false))) none []]
def l64r8:List AOper :=
  [.mk (some 28) (.bin .add (.tmp 21) (.const (.int .i64 1))) none [],.mk (some 21) (.mv (.tmp 28)) none [0]]
def l64r9:List AOper :=
  [.mk (some 2) (.mv (.const (.bool true))) none []]
def l64:AFn :=
  (AFn.mk 29 1 (.seq (.reg l64r0) (.seq (.seq (.draw l64r1) (.cond (.tmp 17) (.seq (.reg l64r2) .ret) .skip)) (.seq (.seq (.reg l64r3) (.block 0 (.loop (.seq (.reg l64r4) (.seq (.cond (.tmp 22) .skip (.exit 0)) (.seq (.block 1 (.seq (.reg l64r5) (.seq (.reg l64r6) (.cond (.tmp 27) (.seq (.reg l64r7) .ret) .skip)))) (.reg l64r8))))))) (.seq (.reg l64r9) .ret)))) [.tmp 2])
theorem l64_eq:lowFn Try.prog 64=some l64:=by kernel_rfl
def l69r0:List AOper :=
  [.mk (some 2) (.mv (.const (.int .i64 0))) none []]
def l69r1:List AOper :=
  [.mk (some 3) (.mv (.const (.int .i64 1))) none []]
def l69r2:List AOper :=
  [.mk (some 4) (.mv (.const (.int .i64 0))) none []]
def l69r3:List AOper :=
  [.mk (some 5) (.mv (.tmp 4)) none [],.mk (some 6) (.mv (.tmp 0)) none [],.mk (some 7) (.len (.tmp 6)) none [1],.mk (some 8) (.bin .lss (.tmp 5) (.tmp 7)) none [0,2]]
def l69r4:List AOper :=
  [.mk (some 11) (.mv (.tmp 3)) none [],.mk (some 12) (.mv (.tmp 0)) none [],.mk (some 13) (.mv (.tmp 4)) none [],.mk (some 14) (.idxA 1 (.tmp 12) (.tmp 13)) none [1,2],.mk (some 15) (.load false 1 (.tmp 14)) none [3],.mk (some 16) (.bin .mul (.tmp 11) (.tmp 15)) none [0,4],.mk (some 3) (.mv (.tmp 16)) none [5,0,1,2,3,4,5]]
def l69r5:List AOper :=
  [.mk (some 9) (.mv (.tmp 4)) none [],.mk (some 10) (.bin .add (.tmp 9) (.const (.int .i64 1))) none [0],.mk (some 4) (.mv (.tmp 10)) none [1,0,1]]
def l69r6:List AOper :=
  [.mk (some 17) (.mv (.tmp 3)) none [],.mk (some 2) (.mv (.tmp 17)) none [0,0]]
def l69:AFn :=
  (AFn.mk 18 1 (.seq (.reg l69r0) (.seq (.reg l69r1) (.seq (.seq (.reg l69r2) (.block 0 (.loop (.seq (.seq (.reg l69r3) (.cond (.tmp 8) .skip (.exit 0))) (.seq (.block 1 (.reg l69r4)) (.reg l69r5)))))) (.seq (.reg l69r6) .ret)))) [.tmp 2])
theorem l69_eq:lowFn Try.prog 69=some l69:=by kernel_rfl
def l76r0:List AOper :=
  [.mk (some 1) (.box (.tmp 0)) none [],.mk (some 2) (.mv (.const (.bool false))) none []]
def l76r1a:List AOper :=
  [.mk (some 3) (.fld 0 (.tmp 1)) none [],.mk (some 4) (.load false 1 (.tmp 3)) none [0],.mk (some 5) (.call 92 [.tmp 4]) none [1],.mk (some 6) (.mv (.tmp 5)) none [2,2],.mk (some 7) (.fld 1 (.tmp 1)) (some (6,true)) [3],.mk (some 8) (.load false 1 (.tmp 7)) (some (6,true)) [4,3],.mk (some 9) (.len (.tmp 8)) (some (6,true)) [5,3],.mk (some 10) (.fld 0 (.tmp 1)) (some (6,true)) [3],.mk (some 11) (.load false 1 (.tmp 10)) (some (6,true)) [7,3],.mk (some 12) (.call 69 [.tmp 11]) (some (6,true)) [8,3,3]]
def l76r1b:List AOper :=
  [.mk (some 13) (.bin .eql (.tmp 9) (.tmp 12)) (some (6,true)) [6,9,3],.mk (some 14) (.pick (.tmp 6) (.tmp 13) (.const (.bool false))) none [3,10],.mk (some 15) (.mv (.tmp 14)) none [11,9],.mk (some 16) (.fld 1 (.tmp 1)) (some (15,true)) [12],.mk (some 17) (.load false 1 (.tmp 16)) (some (15,true)) [13,12],.mk (some 18) (.call 53 [.tmp 17,.const (.int .i64 (-1000000)),.const (.int .i64 1000000)]) (some (15,true)) [14,12,12],.mk (some 19) (.pick (.tmp 15) (.tmp 18) (.const (.bool false))) none [12,15],.mk (some 2) (.mv (.tmp 19)) none [16,15,0,1,2,3,4,5,6,7,8,9,10,11,12,13,14,15,16]]
def l76r1:List AOper:=l76r1a ++ l76r1b
def l76:AFn :=
  (AFn.mk 20 1 (.seq (.reg l76r0) (.seq (.draw l76r1) .ret)) [.tmp 2])
theorem l76_eq:lowFn Try.prog 76=some l76:=by kernel_rfl
def l77r0:List AOper :=
  [.mk (some 2) (.mv (.const (.bool false))) none []]
def l77r1:List AOper :=
  [.mk (some 5) (.mv (.tmp 0)) none [],.mk (some 6) (.len (.tmp 5)) none [0],.mk (some 7) (.mv (.const (.int .i64 0))) none []]
def l77r2:List AOper :=
  [.mk (some 8) (.bin .lss (.tmp 7) (.tmp 6)) none []]
def l77r3:List AOper :=
  [.mk (some 9) (.idxA 1 (.tmp 5) (.tmp 7)) none [],.mk (some 10) (.load false 1 (.tmp 9)) none [0],.mk (some 4) (.mv (.tmp 10)) none [1,0,1]]
def l77r4:List AOper :=
  [.mk (some 11) (.mv (.tmp 4)) none [],.mk (some 12) (.call 80 [.tmp 11,.const (.int .i64 4)]) none [0],.mk (some 13) (.un .not (.tmp 12)) none [1]]
def l77r5:List AOper :=
  [.mk (some 2) (.mv (.const (.bool false))) none []]
def l77r6:List AOper :=
  [.mk (some 14) (.bin .add (.tmp 7) (.const (.int .i64 1))) none [],.mk (some 7) (.mv (.tmp 14)) none [0]]
def l77r7:List AOper :=
  [.mk (some 2) (.mv (.const (.bool true))) none []]
def l77:AFn :=
  (AFn.mk 15 1 (.seq (.reg l77r0) (.seq (.seq (.reg l77r1) (.block 0 (.loop (.seq (.reg l77r2) (.seq (.cond (.tmp 8) .skip (.exit 0)) (.seq (.block 1 (.seq (.reg l77r3) (.seq (.reg l77r4) (.cond (.tmp 13) (.seq (.reg l77r5) .ret) .skip)))) (.reg l77r6))))))) (.seq (.reg l77r7) .ret))) [.tmp 2])
theorem l77_eq:lowFn Try.prog 77=some l77:=by kernel_rfl
def l78r0:List AOper :=
  [.mk (some 0) (.alloc [.int .i64 0,.int .i64 0,.int .i64 0,.int .i64 0,.int .i64 0]) none []]
def l78r1:List AOper :=
  [.mk (some 1) (.alloc [.int .i64 0,.int .i64 0,.int .i64 0,.int .i64 0,.int .i64 0]) none []]
def l78r2:List AOper :=
  [.mk (some 3) (.mv (.const (.int .i64 0))) none []]
def l78r3:List AOper :=
  [.mk (some 4) (.bin .lss (.tmp 3) (.const (.int .i64 5))) none []]
def l78r4:List AOper :=
  [.mk (some 5) (.mv (.tmp 3)) none [],.mk (some 2) (.mv (.tmp 5)) none [0,0]]
def l78r5:List AOper :=
  [.mk (some 6) (.mv (.tmp 2)) none [],.mk (some 7) (.idxP 1 5 (.tmp 1) (.tmp 6)) none [0,0],.mk none (.store 1 (.tmp 7) (.const (.int .i64 (-1)))) none [1,0]]
def l78r6:List AOper :=
  [.mk (some 8) (.bin .add (.tmp 3) (.const (.int .i64 1))) none [],.mk (some 3) (.mv (.tmp 8)) none [0]]
def l78r7:List AOper :=
  [.mk (some 9) (.load true 5 (.tmp 1)) none [],.mk none (.store 5 (.tmp 0) (.tmp 9)) none [0,0]]
def l78:AFn :=
  (AFn.mk 10 0 (.seq (.reg l78r0) (.seq (.reg l78r1) (.seq (.seq (.reg l78r2) (.block 0 (.loop (.seq (.reg l78r3) (.seq (.cond (.tmp 4) .skip (.exit 0)) (.seq (.block 1 (.seq (.reg l78r4) (.reg l78r5))) (.reg l78r6))))))) (.seq (.reg l78r7) .ret)))) [.cell 0 true 5])
theorem l78_eq:lowFn Try.prog 78=some l78:=by kernel_rfl
def l79r0:List AOper :=
  [.mk (some 4) (.alloc [.int .i64 0,.int .i64 0,.int .i64 0,.int .i64 0,.int .i64 0]) none [],.mk (some 5) (.mv (.const (.bool false))) none []]
def l79r1:List AOper :=
  [.mk (some 11) (.call 78 []) none [],.mk (some 6) (.alloc [.int .i64 0,.int .i64 0,.int .i64 0,.int .i64 0,.int .i64 0]) none [],.mk none (.store 5 (.tmp 6) (.tmp 11)) none [1,0,0,0,1]]
def l79r2:List AOper :=
  [.mk (some 12) (.mv (.tmp 0)) none [],.mk (some 13) (.len (.tmp 12)) none [0],.mk (some 14) (.mv (.const (.int .i64 0))) none []]
def l79r3:List AOper :=
  [.mk (some 15) (.bin .lss (.tmp 14) (.tmp 13)) none []]
def l79r4:List AOper :=
  [.mk (some 16) (.mv (.tmp 14)) none [],.mk (some 17) (.idxA 2 (.tmp 12) (.tmp 14)) none [],.mk (some 18) (.load true 2 (.tmp 17)) none [1],.mk (some 8) (.alloc [.slice none 0 0,.slice none 0 0]) none [],.mk (some 7) (.mv (.tmp 16)) none [0,0,1,2,3],.mk none (.store 2 (.tmp 8) (.tmp 18)) none [3,2,4,0,1,2,3,4]]
def l79r5a:List AOper :=
  [.mk (some 19) (.load true 2 (.tmp 8)) none [],.mk (some 20) (.call 64 [.tmp 19]) none [0],.mk (some 21) (.un .not (.tmp 20)) none [1],.mk (some 22) (.mv (.tmp 21)) none [2,1],.mk (some 23) (.mv (.tmp 1)) (some (22,false)) [3],.mk (some 24) (.mv (.tmp 7)) (some (22,false)) [3],.mk (some 25) (.idxA 1 (.tmp 23) (.tmp 24)) (some (22,false)) [4,5,3],.mk (some 26) (.load false 1 (.tmp 25)) (some (22,false)) [6,3],.mk (some 27) (.len (.tmp 26)) (some (22,false)) [7,3],.mk (some 28) (.fld 0 (.tmp 8)) (some (22,false)) [3],.mk (some 29) (.load false 1 (.tmp 28)) (some (22,false)) [9,3],.mk (some 30) (.len (.tmp 29)) (some (22,false)) [10,3],.mk (some 31) (.bin .neq (.tmp 27) (.tmp 30)) (some (22,false)) [8,11,3],.mk (some 32) (.pick (.tmp 22) (.const (.bool true)) (.tmp 31)) none [3,12],.mk (some 33) (.mv (.tmp 32)) none [13,3],.mk (some 34) (.mv (.tmp 1)) (some (33,false)) [14],.mk (some 35) (.mv (.tmp 7)) (some (33,false)) [14]]
def l79r5b:List AOper :=
  [.mk (some 36) (.idxA 1 (.tmp 34) (.tmp 35)) (some (33,false)) [15,16,14],.mk (some 37) (.load false 1 (.tmp 36)) (some (33,false)) [17,14],.mk (some 38) (.call 77 [.tmp 37]) (some (33,false)) [18,14,14],.mk (some 39) (.un .not (.tmp 38)) (some (33,false)) [19,14],.mk (some 40) (.pick (.tmp 33) (.const (.bool true)) (.tmp 39)) none [14,20]]
def l79r5:List AOper:=l79r5a ++ l79r5b
def l79r6:List AOper :=
  [.mk (some 41) (.load true 5 (.tmp 6)) none [],.mk none (.store 5 (.tmp 4) (.tmp 41)) none [0,0],.mk (some 5) (.mv (.const (.bool false))) none [1,0,1]]
def l79r7:List AOper :=
  [.mk (some 42) (.mv (.tmp 1)) none [],.mk (some 43) (.mv (.tmp 7)) none [],.mk (some 44) (.idxA 1 (.tmp 42) (.tmp 43)) none [0,1],.mk (some 45) (.load false 1 (.tmp 44)) none [2],.mk (some 46) (.len (.tmp 45)) none [3],.mk (some 47) (.mv (.const (.int .i64 0))) none []]
def l79r8:List AOper :=
  [.mk (some 48) (.bin .lss (.tmp 47) (.tmp 46)) none []]
def l79r9:List AOper :=
  [.mk (some 49) (.mv (.tmp 47)) none [],.mk (some 50) (.idxA 1 (.tmp 45) (.tmp 47)) none [],.mk (some 51) (.load false 1 (.tmp 50)) none [1],.mk (some 9) (.mv (.tmp 49)) none [0,0,1,2],.mk (some 10) (.mv (.tmp 51)) none [2,3,0,1,2,3]]
def l79r10a:List AOper :=
  [.mk (some 52) (.mv (.tmp 10)) none [],.mk (some 53) (.idxP 1 5 (.tmp 6) (.tmp 52)) none [0],.mk (some 54) (.load false 1 (.tmp 53)) none [1],.mk (some 55) (.bin .geq (.tmp 54) (.const (.int .i64 0))) none [2],.mk (some 56) (.mv (.tmp 55)) none [3],.mk (some 57) (.mv (.tmp 10)) (some (56,true)) [4],.mk (some 58) (.idxP 1 5 (.tmp 6) (.tmp 57)) (some (56,true)) [5,4],.mk (some 59) (.load false 1 (.tmp 58)) (some (56,true)) [6,4],.mk (some 60) (.fld 0 (.tmp 8)) (some (56,true)) [4],.mk (some 61) (.load false 1 (.tmp 60)) (some (56,true)) [8,4],.mk (some 62) (.mv (.tmp 9)) (some (56,true)) [4],.mk (some 63) (.idxA 1 (.tmp 61) (.tmp 62)) (some (56,true)) [9,10,4],.mk (some 64) (.load false 1 (.tmp 63)) (some (56,true)) [11,4]]
def l79r10b:List AOper :=
  [.mk (some 65) (.bin .neq (.tmp 59) (.tmp 64)) (some (56,true)) [7,12,4],.mk (some 66) (.pick (.tmp 56) (.tmp 65) (.const (.bool false))) none [4,13]]
def l79r10:List AOper:=l79r10a ++ l79r10b
def l79r11:List AOper :=
  [.mk (some 67) (.load true 5 (.tmp 6)) none [],.mk none (.store 5 (.tmp 4) (.tmp 67)) none [0,0],.mk (some 5) (.mv (.const (.bool false))) none [1,0,1]]
def l79r12:List AOper :=
  [.mk (some 68) (.mv (.tmp 10)) none [],.mk (some 69) (.fld 0 (.tmp 8)) none [],.mk (some 70) (.load false 1 (.tmp 69)) none [1],.mk (some 71) (.mv (.tmp 9)) none [],.mk (some 72) (.idxA 1 (.tmp 70) (.tmp 71)) none [2,3],.mk (some 73) (.load false 1 (.tmp 72)) none [4],.mk (some 74) (.idxP 1 5 (.tmp 6) (.tmp 68)) none [0,0,1,2,3,4,5],.mk none (.store 1 (.tmp 74) (.tmp 73)) none [6,5,0,1,2,3,4,5]]
def l79r13:List AOper :=
  [.mk (some 75) (.bin .add (.tmp 47) (.const (.int .i64 1))) none [],.mk (some 47) (.mv (.tmp 75)) none [0]]
def l79r14:List AOper :=
  [.mk (some 76) (.bin .add (.tmp 14) (.const (.int .i64 1))) none [],.mk (some 14) (.mv (.tmp 76)) none [0]]
def l79r15:List AOper :=
  [.mk (some 77) (.load true 5 (.tmp 6)) none [],.mk none (.store 5 (.tmp 4) (.tmp 77)) none [0,0],.mk (some 5) (.mv (.const (.bool true))) none [1,0,1]]
def l79:AFn :=
  (AFn.mk 78 2 (.seq (.reg l79r0) (.seq (.reg l79r1) (.seq (.seq (.reg l79r2) (.block 0 (.loop (.seq (.reg l79r3) (.seq (.cond (.tmp 15) .skip (.exit 0)) (.seq (.block 1 (.seq (.reg l79r4) (.seq (.seq (.draw l79r5) (.cond (.tmp 40) (.seq (.reg l79r6) .ret) .skip)) (.seq (.reg l79r7) (.block 2 (.loop (.seq (.reg l79r8) (.seq (.cond (.tmp 48) .skip (.exit 2)) (.seq (.block 3 (.seq (.reg l79r9) (.seq (.seq (.draw l79r10) (.cond (.tmp 66) (.seq (.reg l79r11) .ret) .skip)) (.reg l79r12)))) (.reg l79r13)))))))))) (.reg l79r14))))))) (.seq (.reg l79r15) .ret)))) [.cell 4 true 5,.tmp 5])
theorem l79_eq:lowFn Try.prog 79=some l79:=by kernel_rfl
def l80r0:List AOper :=
  [.mk (some 4) (.mv (.const (.bool false))) none []]
def l80r1:List AOper :=
  [.mk (some 5) (.mv (.tmp 0)) none [],.mk (some 6) (.bin .leq (.const (.int .i64 0)) (.tmp 5)) none [0],.mk (some 7) (.mv (.tmp 6)) none [1],.mk (some 8) (.mv (.tmp 0)) (some (7,true)) [2],.mk (some 9) (.mv (.tmp 1)) (some (7,true)) [2],.mk (some 10) (.bin .leq (.tmp 8) (.tmp 9)) (some (7,true)) [3,4,2],.mk (some 11) (.pick (.tmp 7) (.tmp 10) (.const (.bool false))) none [2,5],.mk (some 4) (.mv (.tmp 11)) none [6,2,0,1,2,3,4,5,6]]
def l80:AFn :=
  (AFn.mk 12 2 (.seq (.reg l80r0) (.seq (.reg l80r1) .ret)) [.tmp 4])
theorem l80_eq:lowFn Try.prog 80=some l80:=by kernel_rfl
def l86r0:List AOper :=
  [.mk (some 2) (.mv (.const (.int .i64 0))) none []]
def l86r1:List AOper :=
  [.mk (some 3) (.mv (.const (.int .i64 1))) none []]
def l86r2:List AOper :=
  [.mk (some 6) (.mv (.tmp 0)) none [],.mk (some 7) (.len (.tmp 6)) none [0],.mk (some 8) (.mv (.const (.int .i64 0))) none []]
def l86r3:List AOper :=
  [.mk (some 9) (.bin .lss (.tmp 8) (.tmp 7)) none []]
def l86r4:List AOper :=
  [.mk (some 10) (.idxA 1 (.tmp 6) (.tmp 8)) none [],.mk (some 11) (.load false 1 (.tmp 10)) none [0],.mk (some 5) (.mv (.tmp 11)) none [1,0,1]]
def l86r5:List AOper :=
  [.mk (some 12) (.mv (.tmp 3)) none [],.mk (some 13) (.mv (.tmp 5)) none [],.mk (some 14) (.bin .mul (.tmp 12) (.tmp 13)) none [0,1],.mk (some 3) (.mv (.tmp 14)) none [2,0,1,2]]
def l86r6:List AOper :=
  [.mk (some 15) (.bin .add (.tmp 8) (.const (.int .i64 1))) none [],.mk (some 8) (.mv (.tmp 15)) none [0]]
def l86r7:List AOper :=
  [.mk (some 16) (.mv (.tmp 3)) none [],.mk (some 2) (.mv (.tmp 16)) none [0,0]]
def l86:AFn :=
  (AFn.mk 17 1 (.seq (.reg l86r0) (.seq (.reg l86r1) (.seq (.seq (.reg l86r2) (.block 0 (.loop (.seq (.reg l86r3) (.seq (.cond (.tmp 9) .skip (.exit 0)) (.seq (.block 1 (.seq (.reg l86r4) (.reg l86r5))) (.reg l86r6))))))) (.seq (.reg l86r7) .ret)))) [.tmp 2])
theorem l86_eq:lowFn Try.prog 86=some l86:=by kernel_rfl
def l91r0:List AOper :=
  [.mk (some 4) (.mv (.const (.bool false))) none []]
def l91r1:List AOper :=
  [.mk (some 5) (.mv (.tmp 1)) none [],.mk (some 6) (.un .neg (.tmp 5)) none [0],.mk (some 7) (.mv (.tmp 0)) none [],.mk (some 8) (.bin .leq (.tmp 6) (.tmp 7)) none [1,2],.mk (some 9) (.mv (.tmp 8)) none [3],.mk (some 10) (.mv (.tmp 0)) (some (9,true)) [4],.mk (some 11) (.mv (.tmp 1)) (some (9,true)) [4],.mk (some 12) (.bin .leq (.tmp 10) (.tmp 11)) (some (9,true)) [5,6,4],.mk (some 13) (.pick (.tmp 9) (.tmp 12) (.const (.bool false))) none [4,7],.mk (some 4) (.mv (.tmp 13)) none [8,4,0,1,2,3,4,5,6,7,8]]
def l91:AFn :=
  (AFn.mk 14 2 (.seq (.reg l91r0) (.seq (.reg l91r1) .ret)) [.tmp 4])
theorem l91_eq:lowFn Try.prog 91=some l91:=by kernel_rfl
def l92r0:List AOper :=
  [.mk (some 2) (.mv (.const (.bool false))) none []]
def l92r1:List AOper :=
  [.mk (some 3) (.mv (.tmp 0)) none [],.mk (some 4) (.len (.tmp 3)) none [0],.mk (some 5) (.bin .leq (.tmp 4) (.const (.int .i64 4))) none [1],.mk (some 6) (.mv (.tmp 5)) none [2],.mk (some 7) (.mv (.tmp 0)) (some (6,true)) [3],.mk (some 8) (.call 53 [.tmp 7,.const (.int .i64 0),.const (.int .i64 60)]) (some (6,true)) [4,3,3],.mk (some 9) (.pick (.tmp 6) (.tmp 8) (.const (.bool false))) none [3,5],.mk (some 10) (.mv (.tmp 9)) none [6,5],.mk (some 11) (.mv (.tmp 0)) (some (10,true)) [7],.mk (some 12) (.call 69 [.tmp 11]) (some (10,true)) [8,7,7],.mk (some 13) (.bin .leq (.tmp 12) (.const (.int .i64 60))) (some (10,true)) [9,7],.mk (some 14) (.pick (.tmp 10) (.tmp 13) (.const (.bool false))) none [7,10],.mk (some 2) (.mv (.tmp 14)) none [11,9,0,1,2,3,4,5,6,7,8,9,10,11]]
def l92:AFn :=
  (AFn.mk 15 1 (.seq (.reg l92r0) (.seq (.reg l92r1) .ret)) [.tmp 2])
theorem l92_eq:lowFn Try.prog 92=some l92:=by kernel_rfl
end Go.Proofs.Ytpicoecbbiiaoaa
