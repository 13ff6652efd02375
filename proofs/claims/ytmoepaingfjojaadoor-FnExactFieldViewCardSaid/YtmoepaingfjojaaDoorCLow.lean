import Derived.Test.YtmoepaingfjojaaDoorCW3
import Derived.Test.YtmoepaingfjojaaDoorProg
import Derived.KernelRfl
set_option maxRecDepth 100000
namespace Go.Proofs.YtmoepaingfjojaaDoor
open Vw Go
instance globs : Inhabited GlobT := ⟨⟨[(0,[.int .i64 1,.int .i64 2,.int .i64 4])]⟩⟩
attribute [push_cast] Bool.false_eq_true List.length_replicate
attribute [bitvec_to_nat] decide_eq_true_eq decide_eq_false_iff_not Bool.not_eq_true' Bool.not_eq_false' Bool.and_eq_true Bool.or_eq_true Bool.and_eq_false_iff Bool.or_eq_false_iff Int.not_le Int.not_lt bne_iff_ne ne_eq beq_iff_eq Bool.not_eq_true Bool.not_eq_false
theorem sd {P : Prop} (h : P := by first | assumption | rfl | omega | (simp <;> omega) | (simp_all <;> omega)) : P := h
def l3r0 : List AOper :=
  [.mk (some 3) (.box (.tmp 0)) none [],.mk (some 6) (.mv (.const (.bool false))) none []]
def l3r1 : List AOper :=
  [.mk (some 7) (.mv (.const (.int .i64 1048576))) none []]
def l3r2 : List AOper :=
  [.mk (some 18) (.load true 3 (.tmp 3)) none [],.mk (some 19) (.mv (.tmp 7)) none [],.mk (some 20) (.call 4 [.tmp 18,.tmp 19]) none [0,1],.mk (some 7) (.mv (.tmp 20)) none [2,2,0,1,2]]
def l3r3 : List AOper :=
  [.mk (some 21) (.mv (.tmp 7)) none [],.mk (some 22) (.bin .lss (.tmp 21) (.const (.int .i64 0))) none [0]]
def l3r4 : List AOper :=
  [.mk (some 6) (.mv (.const (.bool true))) none []]
def l3r5 : List AOper :=
  [.mk (some 24) (.load true 3 (.tmp 3)) none [],.mk (some 25) (.call 6 [.tmp 24]) none [0],.mk (some 26) (.mv (.tmp 1)) none [],.mk (some 27) (.mv (.tmp 2)) none [],.mk (some 28) (.call 5 [.tmp 25,.tmp 26,.tmp 27]) none [1,2,3,1],.mk (some 23) (.mv (.tmp 28)) none [4],.mk (some 29) (.extract (.tmp 23) 0) none [5],.mk (some 30) (.extract (.tmp 23) 1) none [5],.mk (some 8) (.alloc [.int .i64 0,.slice none 0 0,.slice none 0 0]) none [],.mk none (.store 3 (.tmp 8) (.tmp 29)) none [8,6,4,0,1,2,3,4,5,6,8],.mk (some 9) (.mv (.tmp 30)) none [7,9,0,1,2,3,4,5,6,7,8,9]]
def l3r6 : List AOper :=
  [.mk (some 31) (.load true 3 (.tmp 3)) none [],.mk (some 32) (.call 6 [.tmp 31]) none [0],.mk (some 10) (.alloc [.slice none 0 0,.bool false,.bool false]) none [],.mk none (.store 3 (.tmp 10) (.tmp 32)) none [2,1,1,0,1,2]]
def l3r7 : List AOper :=
  [.mk (some 34) (.load true 3 (.tmp 10)) none [],.mk (some 35) (.mv (.tmp 1)) none [],.mk (some 36) (.mv (.tmp 2)) none [],.mk (some 37) (.call 7 [.tmp 34,.tmp 35,.tmp 36]) none [0,1,2],.mk (some 33) (.mv (.tmp 37)) none [3],.mk (some 38) (.extract (.tmp 33) 0) none [4],.mk (some 39) (.extract (.tmp 33) 1) none [4],.mk (some 11) (.alloc [.int .i64 0,.slice none 0 0,.slice none 0 0]) none [],.mk none (.store 3 (.tmp 11) (.tmp 38)) none [7,5,3,0,1,2,3,4,5,7],.mk (some 12) (.mv (.tmp 39)) none [6,8,0,1,2,3,4,5,6,7,8]]
def l3r8 : List AOper :=
  [.mk (some 40) (.load true 3 (.tmp 11)) none [],.mk (some 41) (.load true 3 (.tmp 8)) none [],.mk (some 42) (.call 8 [.tmp 40,.tmp 41]) none [0,1],.mk (some 43) (.un .not (.tmp 42)) none [2],.mk (some 44) (.mv (.tmp 43)) none [3,2],.mk (some 45) (.mv (.tmp 12)) (some (44,false)) [4],.mk (some 46) (.mv (.tmp 9)) (some (44,false)) [4],.mk (some 47) (.binB .neq (.tmp 45) (.tmp 46)) (some (44,false)) [5,6,4],.mk (some 48) (.pick (.tmp 44) (.const (.bool true)) (.tmp 47)) none [4,7]]
def l3r9 : List AOper :=
  [.mk (some 6) (.mv (.const (.bool false))) none []]
def l3r10a : List AOper :=
  [.mk (some 49) (.load true 3 (.tmp 10)) none [],.mk (some 50) (.load true 3 (.tmp 3)) none [],.mk (some 51) (.call 6 [.tmp 50]) none [1]]
def l3r10b : List AOper :=
  [.mk (some 52) (.call 9 [.tmp 49,.tmp 51]) none [0,2,2],.mk (some 53) (.un .not (.tmp 52)) none [3]]
def l3r10 : List AOper := l3r10a ++ l3r10b
def l3r11 : List AOper :=
  [.mk (some 6) (.mv (.const (.bool false))) none []]
def l3r12 : List AOper :=
  [.mk (some 13) (.mv (.const (.int .i64 1))) none []]
def l3r13 : List AOper :=
  [.mk (some 54) (.load true 3 (.tmp 10)) none [],.mk (some 55) (.mv (.tmp 13)) none [],.mk (some 56) (.call 10 [.tmp 54,.tmp 55]) none [0,1],.mk (some 13) (.mv (.tmp 56)) none [2,2,0,1,2]]
def l3r14 : List AOper :=
  [.mk (some 57) (.mv (.tmp 13)) none [],.mk (some 58) (.bin .lss (.tmp 57) (.const (.int .i64 0))) none [0],.mk (some 59) (.mv (.tmp 58)) none [1],.mk (some 60) (.load true 3 (.tmp 11)) (some (59,false)) [2],.mk (some 61) (.load true 3 (.tmp 8)) (some (59,false)) [2],.mk (some 62) (.call 8 [.tmp 60,.tmp 61]) (some (59,false)) [3,4,2,2],.mk (some 63) (.un .not (.tmp 62)) (some (59,false)) [5,2],.mk (some 64) (.pick (.tmp 59) (.const (.bool true)) (.tmp 63)) none [2,6],.mk (some 65) (.mv (.tmp 64)) none [7,5],.mk (some 66) (.mv (.tmp 12)) (some (65,false)) [8],.mk (some 67) (.mv (.tmp 9)) (some (65,false)) [8],.mk (some 68) (.binB .neq (.tmp 66) (.tmp 67)) (some (65,false)) [9,10,8],.mk (some 69) (.pick (.tmp 65) (.const (.bool true)) (.tmp 68)) none [8,11]]
def l3r15 : List AOper :=
  [.mk (some 6) (.mv (.const (.bool false))) none []]
def l3r16 : List AOper :=
  [.mk (some 14) (.mv (.const (.int .i64 1))) none []]
def l3r17 : List AOper :=
  [.mk (some 70) (.load true 3 (.tmp 11)) none [],.mk (some 71) (.mv (.tmp 14)) none [],.mk (some 72) (.call 11 [.tmp 70,.tmp 71]) none [0,1],.mk (some 14) (.mv (.tmp 72)) none [2,2,0,1,2]]
def l3r18 : List AOper :=
  [.mk (some 15) (.mv (.const (.int .i64 1))) none []]
def l3r19 : List AOper :=
  [.mk (some 73) (.load true 3 (.tmp 11)) none [],.mk (some 74) (.mv (.tmp 15)) none [],.mk (some 75) (.call 12 [.tmp 73,.tmp 74]) none [0,1],.mk (some 15) (.mv (.tmp 75)) none [2,2,0,1,2]]
def l3r20 : List AOper :=
  [.mk (some 76) (.mv (.tmp 15)) none [],.mk (some 77) (.bin .lss (.tmp 76) (.const (.int .i64 0))) none [0]]
def l3r21 : List AOper :=
  [.mk (some 6) (.mv (.const (.bool false))) none []]
def l3r22 : List AOper :=
  [.mk (some 78) (.mv (.tmp 15)) none [],.mk (some 79) (.mv (.tmp 14)) none [],.mk (some 80) (.bin .neq (.tmp 78) (.tmp 79)) none [0,1]]
def l3r23 : List AOper :=
  [.mk (some 6) (.mv (.const (.bool false))) none []]
def l3r24 : List AOper :=
  [.mk (some 82) (.load true 3 (.tmp 3)) none [],.mk (some 83) (.call 6 [.tmp 82]) none [0],.mk (some 84) (.mv (.tmp 1)) none [],.mk (some 85) (.mv (.tmp 2)) none [],.mk (some 86) (.call 7 [.tmp 83,.tmp 84,.tmp 85]) none [1,2,3,1],.mk (some 81) (.mv (.tmp 86)) none [4],.mk (some 87) (.extract (.tmp 81) 0) none [5],.mk (some 88) (.extract (.tmp 81) 1) none [5],.mk (some 16) (.alloc [.int .i64 0,.slice none 0 0,.slice none 0 0]) none [],.mk none (.store 3 (.tmp 16) (.tmp 87)) none [8,6,4,0,1,2,3,4,5,6,8],.mk (some 17) (.mv (.tmp 88)) none [7,9,0,1,2,3,4,5,6,7,8,9]]
def l3r25 : List AOper :=
  [.mk (some 89) (.load true 3 (.tmp 16)) none [],.mk (some 90) (.load true 3 (.tmp 8)) none [],.mk (some 91) (.call 8 [.tmp 89,.tmp 90]) none [0,1],.mk (some 92) (.un .not (.tmp 91)) none [2],.mk (some 93) (.mv (.tmp 92)) none [3,2],.mk (some 94) (.mv (.tmp 17)) (some (93,false)) [4],.mk (some 95) (.mv (.tmp 9)) (some (93,false)) [4],.mk (some 96) (.binB .neq (.tmp 94) (.tmp 95)) (some (93,false)) [5,6,4],.mk (some 97) (.pick (.tmp 93) (.const (.bool true)) (.tmp 96)) none [4,7]]
def l3r26 : List AOper :=
  [.mk (some 6) (.mv (.const (.bool false))) none []]
def l3r27 : List AOper :=
  [.mk (some 15) (.mv (.const (.int .i64 1))) none []]
def l3r28 : List AOper :=
  [.mk (some 98) (.load true 3 (.tmp 11)) none [],.mk (some 99) (.mv (.tmp 15)) none [],.mk (some 100) (.call 12 [.tmp 98,.tmp 99]) none [0,1],.mk (some 15) (.mv (.tmp 100)) none [2,2,0,1,2]]
def l3r29 : List AOper :=
  [.mk (some 101) (.mv (.tmp 15)) none [],.mk (some 102) (.bin .lss (.tmp 101) (.const (.int .i64 0))) none [0]]
def l3r30 : List AOper :=
  [.mk (some 6) (.mv (.const (.bool false))) none []]
def l3r31 : List AOper :=
  [.mk (some 103) (.mv (.tmp 15)) none [],.mk (some 104) (.mv (.tmp 14)) none [],.mk (some 105) (.bin .neq (.tmp 103) (.tmp 104)) none [0,1]]
def l3r32 : List AOper :=
  [.mk (some 6) (.mv (.const (.bool false))) none []]
def l3r33 : List AOper :=
  [.mk (some 6) (.mv (.const (.bool true))) none []]
def l3 : AFn :=
  (AFn.mk 106 3 (.seq (.reg l3r0) (.seq (.reg l3r1) (.seq (.reg l3r2) (.seq (.seq (.reg l3r3) (.cond (.tmp 22) (.seq (.reg l3r4) .ret) .skip)) (.seq (.reg l3r5) (.seq (.reg l3r6) (.seq (.reg l3r7) (.seq (.seq (.reg l3r8) (.cond (.tmp 48) (.seq (.reg l3r9) .ret) .skip)) (.seq (.seq (.draw l3r10) (.cond (.tmp 53) (.seq (.reg l3r11) .ret) .skip)) (.seq (.reg l3r12) (.seq (.reg l3r13) (.seq (.seq (.reg l3r14) (.cond (.tmp 69) (.seq (.reg l3r15) .ret) .skip)) (.seq (.reg l3r16) (.seq (.reg l3r17) (.seq (.reg l3r18) (.seq (.reg l3r19) (.seq (.seq (.reg l3r20) (.cond (.tmp 77) (.seq (.reg l3r21) .ret) .skip)) (.seq (.seq (.reg l3r22) (.cond (.tmp 80) (.seq (.reg l3r23) .ret) .skip)) (.seq (.reg l3r24) (.seq (.seq (.reg l3r25) (.cond (.tmp 97) (.seq (.reg l3r26) .ret) .skip)) (.seq (.reg l3r27) (.seq (.reg l3r28) (.seq (.seq (.reg l3r29) (.cond (.tmp 102) (.seq (.reg l3r30) .ret) .skip)) (.seq (.seq (.reg l3r31) (.cond (.tmp 105) (.seq (.reg l3r32) .ret) .skip)) (.seq (.reg l3r33) .ret))))))))))))))))))))))))) [.tmp 6])
theorem l3_eq : lowFn Tryd.prog 3 = some l3 := by kernel_rfl
def l4r0 : List AOper :=
  [.mk (some 2) (.box (.tmp 0)) none [],.mk (some 4) (.mv (.const (.int .i64 0))) none []]
def l4r1 : List AOper :=
  [.mk (some 5) (.fld 0 (.tmp 2)) none [],.mk (some 6) (.load false 1 (.tmp 5)) none [0],.mk (some 7) (.mv (.tmp 1)) none [],.mk (some 8) (.call 13 [.tmp 6,.tmp 7]) none [1,2],.mk (some 1) (.mv (.tmp 8)) none [3,3,0,1,2,3]]
def l4r2 : List AOper :=
  [.mk (some 9) (.mv (.tmp 1)) none [],.mk (some 10) (.bin .lss (.tmp 9) (.const (.int .i64 0))) none [0]]
def l4r3 : List AOper :=
  [.mk (some 4) (.mv (.const (.int .i64 (-1)))) none []]
def l4r4 : List AOper :=
  [.mk (some 11) (.mv (.tmp 1)) none [],.mk (some 4) (.mv (.tmp 11)) none [0,0]]
def l4 : AFn :=
  (AFn.mk 12 2 (.seq (.reg l4r0) (.seq (.reg l4r1) (.seq (.seq (.reg l4r2) (.cond (.tmp 10) (.seq (.reg l4r3) .ret) .skip)) (.seq (.reg l4r4) .ret)))) [.tmp 4])
theorem l4_eq : lowFn Tryd.prog 4 = some l4 := by kernel_rfl
def l5r0 : List AOper :=
  [.mk (some 3) (.box (.tmp 0)) none [],.mk (some 6) (.alloc [.int .i64 0,.slice none 0 0,.slice none 0 0]) none [],.mk (some 7) (.mv (.const (.bool false))) none []]
def l5r1 : List AOper :=
  [.mk (some 11) (.load true 3 (.tmp 3)) none [],.mk (some 12) (.call 14 [.tmp 11]) none [0],.mk (some 13) (.un .not (.tmp 12)) none [1],.mk (some 14) (.mv (.tmp 13)) none [2,1],.mk (some 15) (.mv (.tmp 1)) (some (14,false)) [3],.mk (some 16) (.fld 0 (.tmp 3)) (some (14,false)) [3],.mk (some 17) (.load false 1 (.tmp 16)) (some (14,false)) [5,3],.mk (some 18) (.len (.tmp 17)) (some (14,false)) [6,3],.mk (some 19) (.bin .sub (.tmp 18) (.const (.int .i64 1))) (some (14,false)) [7,3],.mk (some 20) (.call 15 [.tmp 15,.const (.int .i64 0),.tmp 19]) (some (14,false)) [4,8,3,3],.mk (some 21) (.un .not (.tmp 20)) (some (14,false)) [9,3],.mk (some 22) (.pick (.tmp 14) (.const (.bool true)) (.tmp 21)) none [3,10],.mk (some 23) (.mv (.tmp 22)) none [11,9],.mk (some 24) (.mv (.tmp 2)) (some (23,false)) [12],.mk (some 25) (.call 15 [.tmp 24,.const (.int .i64 1),.const (.int .i64 60)]) (some (23,false)) [13,12,12],.mk (some 26) (.un .not (.tmp 25)) (some (23,false)) [14,12],.mk (some 27) (.pick (.tmp 23) (.const (.bool true)) (.tmp 26)) none [12,15]]
def l5r2 : List AOper :=
  [.mk (some 28) (.build [.int .i64 0,.slice none 0 0,.slice none 0 0] []) none [],.mk none (.store 3 (.tmp 6) (.tmp 28)) none [0,0],.mk (some 7) (.mv (.const (.bool false))) none [1,0,1]]
def l5r3 : List AOper :=
  [.mk (some 30) (.load true 3 (.tmp 3)) none [],.mk (some 31) (.call 16 [.tmp 30]) none [0],.mk (some 29) (.mv (.tmp 31)) none [1],.mk (some 32) (.extract (.tmp 29) 0) none [2],.mk (some 33) (.extract (.tmp 29) 1) none [2],.mk (some 8) (.mv (.tmp 32)) none [3,1,0,1,2,3],.mk (some 9) (.mv (.tmp 33)) none [4,5,0,1,2,3,4,5]]
def l5r4a : List AOper :=
  [.mk (some 34) (.mv (.tmp 8)) none [],.mk (some 35) (.mv (.tmp 1)) none [],.mk (some 36) (.idxA 1 (.tmp 34) (.tmp 35)) none [0,1],.mk (some 37) (.load false 1 (.tmp 36)) none [2],.mk (some 38) (.mv (.tmp 2)) none [],.mk (some 39) (.fld 0 (.tmp 3)) none [],.mk (some 40) (.load false 1 (.tmp 39)) none [5],.mk (some 41) (.mv (.tmp 1)) none [],.mk (some 42) (.idxA 1 (.tmp 40) (.tmp 41)) none [6,7],.mk (some 43) (.load false 1 (.tmp 42)) none [8],.mk (some 44) (.bslice 1 [.int .i64 0] [(0,.tmp 38),(1,.tmp 43)] 2) none [4,9],.mk (some 45) (.mv (.tmp 9)) none [],.mk (some 46) (.bslice 1 [.int .i64 0] [(0,.tmp 45),(1,.const (.int .i64 1))] 2) none [11],.mk (some 47) (.build [.int .i64 0,.slice none 0 0,.slice none 0 0] [(0,1,.tmp 37),(1,1,.tmp 44),(2,1,.tmp 46)]) none [3,10,12],.mk (some 10) (.alloc [.int .i64 0,.slice none 0 0,.slice none 0 0]) none []]
def l5r4b : List AOper :=
  [.mk none (.store 3 (.tmp 10) (.tmp 47)) none [14,13,0,1,2,3,4,5,6,7,8,9,10,11,12,13,14]]
def l5r4 : List AOper := l5r4a ++ l5r4b
def l5r5 : List AOper :=
  [.mk (some 48) (.fld 1 (.tmp 3)) none [],.mk (some 49) (.load false 1 (.tmp 48)) none [0]]
def l5r6a : List AOper :=
  [.mk (some 50) (.mv (.tmp 8)) none [],.mk (some 51) (.mv (.tmp 1)) none [],.mk (some 52) (.idxA 1 (.tmp 50) (.tmp 51)) none [0,1],.mk (some 53) (.load false 1 (.tmp 52)) none [2],.mk (some 54) (.fld 0 (.tmp 3)) none [],.mk (some 55) (.load false 1 (.tmp 54)) none [4],.mk (some 56) (.mv (.tmp 1)) none [],.mk (some 57) (.idxA 1 (.tmp 55) (.tmp 56)) none [5,6],.mk (some 58) (.load false 1 (.tmp 57)) none [7]]
def l5r6b : List AOper :=
  [.mk (some 59) (.bin .add (.tmp 53) (.tmp 58)) none [3,8],.mk (some 60) (.bin .sub (.tmp 59) (.const (.int .i64 1))) none [9],.mk (some 61) (.fld 0 (.tmp 10)) none [0,1,2,3,4,5,6,7,8,9,10],.mk none (.store 1 (.tmp 61) (.tmp 60)) none [11,10,0,1,2,3,4,5,6,7,8,9,10]]
def l5r6 : List AOper := l5r6a ++ l5r6b
def l5r7 : List AOper :=
  [.mk (some 62) (.fld 2 (.tmp 10)) none [],.mk (some 63) (.load false 1 (.tmp 62)) none [0],.mk (some 64) (.idxA 1 (.tmp 63) (.const (.int .i64 1))) none [1,0,1],.mk none (.store 1 (.tmp 64) (.const (.int .i64 (-1)))) none [2,0,1]]
def l5r8 : List AOper :=
  [.mk (some 65) (.load true 3 (.tmp 10)) none [],.mk (some 66) (.call 17 [.tmp 65]) none [0],.mk (some 67) (.extract (.tmp 66) 0) none [1],.mk (some 68) (.extract (.tmp 66) 1) none [1],.mk none (.store 3 (.tmp 6) (.tmp 67)) none [2,1,0,1,2,3],.mk (some 7) (.mv (.tmp 68)) none [3,4,0,1,2,3,4]]
def l5 : AFn :=
  (AFn.mk 69 3 (.seq (.reg l5r0) (.seq (.seq (.reg l5r1) (.cond (.tmp 27) (.seq (.reg l5r2) .ret) .skip)) (.seq (.reg l5r3) (.seq (.draw l5r4) (.seq (.seq (.reg l5r5) (.cond (.tmp 49) (.seq (.draw l5r6) (.reg l5r7)) .skip)) (.seq (.reg l5r8) .ret)))))) [.cell 6 true 3,.tmp 7])
theorem l5_eq : lowFn Tryd.prog 5 = some l5 := by kernel_rfl
def l6r0 : List AOper :=
  [.mk (some 1) (.box (.tmp 0)) none [],.mk (some 2) (.alloc [.slice none 0 0,.bool false,.bool false]) none []]
def l6r1 : List AOper :=
  [.mk (some 3) (.alloc [.slice none 0 0,.bool false,.bool false]) none []]
def l6r2 : List AOper :=
  [.mk (some 4) (.fld 0 (.tmp 1)) none [],.mk (some 5) (.load false 1 (.tmp 4)) none [0],.mk (some 6) (.call 18 [.tmp 5]) none [1],.mk (some 7) (.fld 0 (.tmp 3)) none [0,1,2],.mk none (.store 1 (.tmp 7) (.tmp 6)) none [3,2,2,0,1,2]]
def l6r3 : List AOper :=
  [.mk (some 8) (.fld 1 (.tmp 1)) none [],.mk (some 9) (.load false 1 (.tmp 8)) none [0],.mk (some 10) (.fld 1 (.tmp 3)) none [0,1],.mk none (.store 1 (.tmp 10) (.tmp 9)) none [2,1,0,1]]
def l6r4 : List AOper :=
  [.mk (some 11) (.fld 2 (.tmp 1)) none [],.mk (some 12) (.load false 1 (.tmp 11)) none [0],.mk (some 13) (.fld 2 (.tmp 3)) none [0,1],.mk none (.store 1 (.tmp 13) (.tmp 12)) none [2,1,0,1]]
def l6r5 : List AOper :=
  [.mk (some 14) (.load true 3 (.tmp 3)) none [],.mk none (.store 3 (.tmp 2) (.tmp 14)) none [0,0]]
def l6 : AFn :=
  (AFn.mk 15 1 (.seq (.reg l6r0) (.seq (.reg l6r1) (.seq (.reg l6r2) (.seq (.reg l6r3) (.seq (.reg l6r4) (.seq (.reg l6r5) .ret)))))) [.cell 2 true 3])
theorem l6_eq : lowFn Tryd.prog 6 = some l6 := by kernel_rfl
def l7r0 : List AOper :=
  [.mk (some 3) (.box (.tmp 0)) none [],.mk (some 6) (.alloc [.int .i64 0,.slice none 0 0,.slice none 0 0]) none [],.mk (some 7) (.mv (.const (.bool false))) none []]
def l7r1 : List AOper :=
  [.mk (some 12) (.load true 3 (.tmp 3)) none [],.mk (some 13) (.call 19 [.tmp 12]) none [0],.mk (some 14) (.un .not (.tmp 13)) none [1],.mk (some 15) (.mv (.tmp 14)) none [2,1],.mk (some 16) (.mv (.tmp 1)) (some (15,false)) [3],.mk (some 17) (.fld 0 (.tmp 3)) (some (15,false)) [3],.mk (some 18) (.load false 1 (.tmp 17)) (some (15,false)) [5,3],.mk (some 19) (.len (.tmp 18)) (some (15,false)) [6,3],.mk (some 20) (.bin .sub (.tmp 19) (.const (.int .i64 1))) (some (15,false)) [7,3],.mk (some 21) (.call 20 [.tmp 16,.tmp 20]) (some (15,false)) [4,8,3,3],.mk (some 22) (.un .not (.tmp 21)) (some (15,false)) [9,3],.mk (some 23) (.pick (.tmp 15) (.const (.bool true)) (.tmp 22)) none [3,10],.mk (some 24) (.mv (.tmp 23)) none [11,9],.mk (some 25) (.mv (.tmp 2)) (some (24,false)) [12],.mk (some 26) (.bin .lss (.tmp 25) (.const (.int .i64 1))) (some (24,false)) [13,12],.mk (some 27) (.pick (.tmp 24) (.const (.bool true)) (.tmp 26)) none [12,14]]
def l7r2 : List AOper :=
  [.mk (some 28) (.build [.int .i64 0,.slice none 0 0,.slice none 0 0] []) none [],.mk none (.store 3 (.tmp 6) (.tmp 28)) none [0,0],.mk (some 7) (.mv (.const (.bool false))) none [1,0,1]]
def l7r3a : List AOper :=
  [.mk (some 29) (.load true 3 (.tmp 3)) none [],.mk (some 30) (.call 21 [.tmp 29]) none [0],.mk (some 31) (.mv (.tmp 1)) none [],.mk (some 32) (.idxA 2 (.tmp 30) (.tmp 31)) none [1,2],.mk (some 33) (.load true 2 (.tmp 32)) none [3],.mk (some 34) (.load true 3 (.tmp 3)) none [],.mk (some 35) (.call 22 [.tmp 34]) none [5,1],.mk (some 8) (.alloc [.int .i64 0,.int .i64 0]) none [],.mk (some 9) (.alloc [.nilFunc]) none []]
def l7r3b : List AOper :=
  [.mk none (.store 2 (.tmp 8) (.tmp 33)) none [7,4,6,0,1,2,3,4,7,8],.mk none (.store 1 (.tmp 9) (.tmp 35)) none [8,6,9,0,1,2,3,4,5,6,7,8,9]]
def l7r3 : List AOper := l7r3a ++ l7r3b
def l7r4 : List AOper :=
  [.mk (some 36) (.load true 1 (.tmp 9)) none [],.mk (some 37) (.load true 2 (.tmp 8)) none [],.mk (some 38) (.call 23 [.tmp 36,.tmp 37,.const (.int .i64 0)]) none [0,1],.mk (some 10) (.mv (.tmp 38)) none [2,2,0,1,2]]
def l7r5a : List AOper :=
  [.mk (some 39) (.mv (.tmp 10)) none [],.mk (some 40) (.mv (.tmp 2)) none [],.mk (some 41) (.fld 1 (.tmp 8)) none [],.mk (some 42) (.load false 1 (.tmp 41)) none [2],.mk (some 43) (.bslice 1 [.int .i64 0] [(0,.tmp 40),(1,.tmp 42)] 2) none [1,3],.mk (some 44) (.call 24 [.tmp 43]) none [4],.mk (some 45) (.load true 3 (.tmp 3)) none [],.mk (some 46) (.call 25 [.tmp 45]) none [6,5],.mk (some 47) (.load true 1 (.tmp 9)) none [],.mk (some 48) (.load true 2 (.tmp 8)) none [],.mk (some 49) (.call 23 [.tmp 47,.tmp 48,.const (.int .i64 1)]) none [8,9,7],.mk (some 50) (.mv (.tmp 10)) none [],.mk (some 51) (.bin .sub (.tmp 49) (.tmp 50)) none [10,11],.mk (some 52) (.bslice 1 [.int .i64 0] [(0,.tmp 46),(1,.tmp 51)] 2) none [7,12],.mk (some 53) (.build [.int .i64 0,.slice none 0 0,.slice none 0 0] [(0,1,.tmp 39),(1,1,.tmp 44),(2,1,.tmp 52)]) none [0,5,13],.mk (some 11) (.alloc [.int .i64 0,.slice none 0 0,.slice none 0 0]) none []]
def l7r5b : List AOper :=
  [.mk none (.store 3 (.tmp 11) (.tmp 53)) none [15,14,10,0,1,2,3,4,5,6,7,8,9,10,11,12,13,14,15]]
def l7r5 : List AOper := l7r5a ++ l7r5b
def l7r6 : List AOper :=
  [.mk (some 54) (.load true 3 (.tmp 11)) none [],.mk (some 55) (.call 26 [.tmp 54]) none [0],.mk (some 56) (.un .not (.tmp 55)) none [1]]
def l7r7 : List AOper :=
  [.mk (some 57) (.build [.int .i64 0,.slice none 0 0,.slice none 0 0] []) none [],.mk none (.store 3 (.tmp 6) (.tmp 57)) none [0,0],.mk (some 7) (.mv (.const (.bool false))) none [1,0,1]]
def l7r8 : List AOper :=
  [.mk (some 58) (.load true 3 (.tmp 11)) none [],.mk none (.store 3 (.tmp 6) (.tmp 58)) none [0,0],.mk (some 7) (.mv (.const (.bool true))) none [1,0,1]]
def l7 : AFn :=
  (AFn.mk 59 3 (.seq (.reg l7r0) (.seq (.seq (.reg l7r1) (.cond (.tmp 27) (.seq (.reg l7r2) .ret) .skip)) (.seq (.draw l7r3) (.seq (.reg l7r4) (.seq (.draw l7r5) (.seq (.seq (.reg l7r6) (.cond (.tmp 56) (.seq (.reg l7r7) .ret) .skip)) (.seq (.reg l7r8) .ret))))))) [.cell 6 true 3,.tmp 7])
theorem l7_eq : lowFn Tryd.prog 7 = some l7 := by kernel_rfl
def l8r0 : List AOper :=
  [.mk (some 2) (.box (.tmp 0)) none [],.mk (some 3) (.box (.tmp 1)) none [],.mk (some 4) (.mv (.const (.bool false))) none []]
def l8r1 : List AOper :=
  [.mk (some 5) (.fld 0 (.tmp 2)) none [],.mk (some 6) (.load false 1 (.tmp 5)) none [0],.mk (some 7) (.fld 0 (.tmp 3)) none [],.mk (some 8) (.load false 1 (.tmp 7)) none [2],.mk (some 9) (.bin .neq (.tmp 6) (.tmp 8)) none [1,3]]
def l8r2 : List AOper :=
  [.mk (some 4) (.mv (.const (.bool false))) none []]
def l8r3 : List AOper :=
  [.mk (some 10) (.fld 1 (.tmp 2)) none [],.mk (some 11) (.load false 1 (.tmp 10)) none [0],.mk (some 12) (.fld 1 (.tmp 3)) none [],.mk (some 13) (.load false 1 (.tmp 12)) none [2],.mk (some 14) (.call 27 [.tmp 11,.tmp 13]) none [1,3],.mk (some 15) (.un .not (.tmp 14)) none [4]]
def l8r4 : List AOper :=
  [.mk (some 4) (.mv (.const (.bool false))) none []]
def l8r5 : List AOper :=
  [.mk (some 16) (.fld 2 (.tmp 2)) none [],.mk (some 17) (.load false 1 (.tmp 16)) none [0],.mk (some 18) (.fld 2 (.tmp 3)) none [],.mk (some 19) (.load false 1 (.tmp 18)) none [2],.mk (some 20) (.call 27 [.tmp 17,.tmp 19]) none [1,3],.mk (some 21) (.un .not (.tmp 20)) none [4]]
def l8r6 : List AOper :=
  [.mk (some 4) (.mv (.const (.bool false))) none []]
def l8r7 : List AOper :=
  [.mk (some 4) (.mv (.const (.bool true))) none []]
def l8 : AFn :=
  (AFn.mk 22 2 (.seq (.reg l8r0) (.seq (.seq (.reg l8r1) (.cond (.tmp 9) (.seq (.reg l8r2) .ret) .skip)) (.seq (.seq (.reg l8r3) (.cond (.tmp 15) (.seq (.reg l8r4) .ret) .skip)) (.seq (.seq (.reg l8r5) (.cond (.tmp 21) (.seq (.reg l8r6) .ret) .skip)) (.seq (.reg l8r7) .ret))))) [.tmp 4])
theorem l8_eq : lowFn Tryd.prog 8 = some l8 := by kernel_rfl
def l9r0 : List AOper :=
  [.mk (some 2) (.box (.tmp 0)) none [],.mk (some 3) (.box (.tmp 1)) none [],.mk (some 4) (.mv (.const (.bool false))) none []]
def l9r1 : List AOper :=
  [.mk (some 5) (.fld 0 (.tmp 2)) none [],.mk (some 6) (.load false 1 (.tmp 5)) none [0],.mk (some 7) (.fld 0 (.tmp 3)) none [],.mk (some 8) (.load false 1 (.tmp 7)) none [2],.mk (some 9) (.call 27 [.tmp 6,.tmp 8]) none [1,3],.mk (some 10) (.un .not (.tmp 9)) none [4]]
def l9r2 : List AOper :=
  [.mk (some 4) (.mv (.const (.bool false))) none []]
def l9r3 : List AOper :=
  [.mk (some 11) (.fld 1 (.tmp 2)) none [],.mk (some 12) (.load false 1 (.tmp 11)) none [0],.mk (some 13) (.fld 1 (.tmp 3)) none [],.mk (some 14) (.load false 1 (.tmp 13)) none [2],.mk (some 15) (.binB .neq (.tmp 12) (.tmp 14)) none [1,3]]
def l9r4 : List AOper :=
  [.mk (some 4) (.mv (.const (.bool false))) none []]
def l9r5 : List AOper :=
  [.mk (some 16) (.fld 2 (.tmp 2)) none [],.mk (some 17) (.load false 1 (.tmp 16)) none [0],.mk (some 18) (.fld 2 (.tmp 3)) none [],.mk (some 19) (.load false 1 (.tmp 18)) none [2],.mk (some 20) (.binB .neq (.tmp 17) (.tmp 19)) none [1,3]]
def l9r6 : List AOper :=
  [.mk (some 4) (.mv (.const (.bool false))) none []]
def l9r7 : List AOper :=
  [.mk (some 4) (.mv (.const (.bool true))) none []]
def l9 : AFn :=
  (AFn.mk 21 2 (.seq (.reg l9r0) (.seq (.seq (.reg l9r1) (.cond (.tmp 10) (.seq (.reg l9r2) .ret) .skip)) (.seq (.seq (.reg l9r3) (.cond (.tmp 15) (.seq (.reg l9r4) .ret) .skip)) (.seq (.seq (.reg l9r5) (.cond (.tmp 20) (.seq (.reg l9r6) .ret) .skip)) (.seq (.reg l9r7) .ret))))) [.tmp 4])
theorem l9_eq : lowFn Tryd.prog 9 = some l9 := by kernel_rfl
def l10r0 : List AOper :=
  [.mk (some 2) (.box (.tmp 0)) none [],.mk (some 4) (.mv (.const (.int .i64 0))) none []]
def l10r1 : List AOper :=
  [.mk (some 5) (.fld 0 (.tmp 2)) none [],.mk (some 6) (.load false 1 (.tmp 5)) none [0],.mk (some 7) (.mv (.tmp 1)) none [],.mk (some 8) (.call 28 [.tmp 6,.tmp 7]) none [1,2],.mk (some 1) (.mv (.tmp 8)) none [3,3,0,1,2,3]]
def l10r2 : List AOper :=
  [.mk (some 9) (.mv (.tmp 1)) none [],.mk (some 4) (.mv (.tmp 9)) none [0,0]]
def l10 : AFn :=
  (AFn.mk 10 2 (.seq (.reg l10r0) (.seq (.reg l10r1) (.seq (.reg l10r2) .ret))) [.tmp 4])
theorem l10_eq : lowFn Tryd.prog 10 = some l10 := by kernel_rfl
def l11r0 : List AOper :=
  [.mk (some 2) (.box (.tmp 0)) none [],.mk (some 4) (.mv (.const (.int .i64 0))) none []]
def l11r1 : List AOper :=
  [.mk (some 5) (.fld 1 (.tmp 2)) none [],.mk (some 6) (.load false 1 (.tmp 5)) none [0],.mk (some 7) (.mv (.tmp 1)) none [],.mk (some 8) (.call 28 [.tmp 6,.tmp 7]) none [1,2],.mk (some 1) (.mv (.tmp 8)) none [3,3,0,1,2,3]]
def l11r2 : List AOper :=
  [.mk (some 9) (.fld 2 (.tmp 2)) none [],.mk (some 10) (.load false 1 (.tmp 9)) none [0],.mk (some 11) (.mv (.tmp 1)) none [],.mk (some 12) (.call 28 [.tmp 10,.tmp 11]) none [1,2],.mk (some 1) (.mv (.tmp 12)) none [3,3,0,1,2,3]]
def l11r3 : List AOper :=
  [.mk (some 13) (.mv (.tmp 1)) none [],.mk (some 4) (.mv (.tmp 13)) none [0,0]]
def l11 : AFn :=
  (AFn.mk 14 2 (.seq (.reg l11r0) (.seq (.reg l11r1) (.seq (.reg l11r2) (.seq (.reg l11r3) .ret)))) [.tmp 4])
theorem l11_eq : lowFn Tryd.prog 11 = some l11 := by kernel_rfl
def l12r0 : List AOper :=
  [.mk (some 2) (.box (.tmp 0)) none [],.mk (some 4) (.mv (.const (.int .i64 0))) none []]
def l12r1 : List AOper :=
  [.mk (some 5) (.fld 1 (.tmp 2)) none [],.mk (some 6) (.load false 1 (.tmp 5)) none [0],.mk (some 7) (.mv (.tmp 1)) none [],.mk (some 8) (.call 29 [.tmp 6,.tmp 7]) none [1,2],.mk (some 1) (.mv (.tmp 8)) none [3,3,0,1,2,3]]
def l12r2 : List AOper :=
  [.mk (some 9) (.mv (.tmp 1)) none [],.mk (some 10) (.bin .lss (.tmp 9) (.const (.int .i64 0))) none [0]]
def l12r3 : List AOper :=
  [.mk (some 4) (.mv (.const (.int .i64 (-1)))) none []]
def l12r4 : List AOper :=
  [.mk (some 11) (.fld 2 (.tmp 2)) none [],.mk (some 12) (.load false 1 (.tmp 11)) none [0],.mk (some 13) (.mv (.tmp 1)) none [],.mk (some 14) (.call 29 [.tmp 12,.tmp 13]) none [1,2],.mk (some 1) (.mv (.tmp 14)) none [3,3,0,1,2,3]]
def l12r5 : List AOper :=
  [.mk (some 15) (.mv (.tmp 1)) none [],.mk (some 16) (.bin .lss (.tmp 15) (.const (.int .i64 0))) none [0]]
def l12r6 : List AOper :=
  [.mk (some 4) (.mv (.const (.int .i64 (-1)))) none []]
def l12r7 : List AOper :=
  [.mk (some 17) (.mv (.tmp 1)) none [],.mk (some 4) (.mv (.tmp 17)) none [0,0]]
def l12 : AFn :=
  (AFn.mk 18 2 (.seq (.reg l12r0) (.seq (.reg l12r1) (.seq (.seq (.reg l12r2) (.cond (.tmp 10) (.seq (.reg l12r3) .ret) .skip)) (.seq (.reg l12r4) (.seq (.seq (.reg l12r5) (.cond (.tmp 16) (.seq (.reg l12r6) .ret) .skip)) (.seq (.reg l12r7) .ret)))))) [.tmp 4])
theorem l12_eq : lowFn Tryd.prog 12 = some l12 := by kernel_rfl
def l13r0 : List AOper :=
  [.mk (some 4) (.mv (.const (.int .i64 0))) none []]
def l13r1 : List AOper :=
  [.mk (some 5) (.mv (.tmp 1)) none [],.mk (some 6) (.mv (.tmp 0)) none [],.mk (some 7) (.len (.tmp 6)) none [1],.mk (some 8) (.bin .sub (.tmp 5) (.tmp 7)) none [0,2],.mk (some 1) (.mv (.tmp 8)) none [3,0,1,2,3]]
def l13r2 : List AOper :=
  [.mk (some 9) (.mv (.tmp 1)) none [],.mk (some 10) (.bin .lss (.tmp 9) (.const (.int .i64 0))) none [0]]
def l13r3 : List AOper :=
  [.mk (some 4) (.mv (.const (.int .i64 (-1)))) none []]
def l13r4 : List AOper :=
  [.mk (some 11) (.mv (.tmp 1)) none [],.mk (some 4) (.mv (.tmp 11)) none [0,0]]
def l13 : AFn :=
  (AFn.mk 12 2 (.seq (.reg l13r0) (.seq (.reg l13r1) (.seq (.seq (.reg l13r2) (.cond (.tmp 10) (.seq (.reg l13r3) .ret) .skip)) (.seq (.reg l13r4) .ret)))) [.tmp 4])
theorem l13_eq : lowFn Tryd.prog 13 = some l13 := by kernel_rfl
def l14r0 : List AOper :=
  [.mk (some 1) (.box (.tmp 0)) none [],.mk (some 2) (.mv (.const (.bool false))) none []]
def l14r1 : List AOper :=
  [.mk (some 3) (.mv (.const (.int .i64 0))) none []]
def l14r2 : List AOper :=
  [.mk (some 4) (.mv (.tmp 3)) none [],.mk (some 5) (.fld 0 (.tmp 1)) none [],.mk (some 6) (.load false 1 (.tmp 5)) none [1],.mk (some 7) (.len (.tmp 6)) none [2],.mk (some 8) (.bin .lss (.tmp 4) (.tmp 7)) none [0,3]]
def l14r3 : List AOper :=
  [.mk (some 11) (.fld 0 (.tmp 1)) none [],.mk (some 12) (.load false 1 (.tmp 11)) none [0],.mk (some 13) (.mv (.tmp 3)) none [],.mk (some 14) (.idxA 1 (.tmp 12) (.tmp 13)) none [1,2],.mk (some 15) (.load false 1 (.tmp 14)) none [3],.mk (some 16) (.bin .neq (.tmp 15) (.const (.int .i64 1))) none [4],.mk (some 17) (.mv (.tmp 16)) none [5],.mk (some 18) (.fld 0 (.tmp 1)) (some (17,true)) [6],.mk (some 19) (.load false 1 (.tmp 18)) (some (17,true)) [7,6],.mk (some 20) (.mv (.tmp 3)) (some (17,true)) [6],.mk (some 21) (.idxA 1 (.tmp 19) (.tmp 20)) (some (17,true)) [8,9,6],.mk (some 22) (.load false 1 (.tmp 21)) (some (17,true)) [10,6],.mk (some 23) (.bin .neq (.tmp 22) (.const (.int .i64 2))) (some (17,true)) [11,6],.mk (some 24) (.pick (.tmp 17) (.tmp 23) (.const (.bool false))) none [6,12],.mk (some 25) (.mv (.tmp 24)) none [13,6],.mk (some 26) (.fld 0 (.tmp 1)) (some (25,true)) [14],.mk (some 27) (.load false 1 (.tmp 26)) (some (25,true)) [15,14],.mk (some 28) (.mv (.tmp 3)) (some (25,true)) [14],.mk (some 29) (.idxA 1 (.tmp 27) (.tmp 28)) (some (25,true)) [16,17,14],.mk (some 30) (.load false 1 (.tmp 29)) (some (25,true)) [18,14],.mk (some 31) (.bin .neq (.tmp 30) (.const (.int .i64 4))) (some (25,true)) [19,14],.mk (some 32) (.pick (.tmp 25) (.tmp 31) (.const (.bool false))) none [14,20]]
def l14r4 : List AOper :=
  [.mk (some 2) (.mv (.const (.bool false))) none []]
def l14r5 : List AOper :=
  [.mk (some 9) (.mv (.tmp 3)) none [],.mk (some 10) (.bin .add (.tmp 9) (.const (.int .i64 1))) none [0],.mk (some 3) (.mv (.tmp 10)) none [1,0,1]]
def l14r6 : List AOper :=
  [.mk (some 33) (.fld 0 (.tmp 1)) none [],.mk (some 34) (.load false 1 (.tmp 33)) none [0],.mk (some 35) (.len (.tmp 34)) none [1],.mk (some 36) (.call 15 [.tmp 35,.const (.int .i64 1),.const (.int .i64 5)]) none [2],.mk (some 2) (.mv (.tmp 36)) none [3,3,0,1,2,3]]
def l14 : AFn :=
  (AFn.mk 37 1 (.seq (.reg l14r0) (.seq (.seq (.reg l14r1) (.block 0 (.loop (.seq (.seq (.reg l14r2) (.cond (.tmp 8) .skip (.exit 0))) (.seq (.block 1 (.seq (.reg l14r3) (.cond (.tmp 32) (.seq (.reg l14r4) .ret) .skip))) (.reg l14r5)))))) (.seq (.reg l14r6) .ret))) [.tmp 2])
theorem l14_eq : lowFn Tryd.prog 14 = some l14 := by kernel_rfl
def l15r0 : List AOper :=
  [.mk (some 6) (.mv (.const (.bool false))) none []]
def l15r1 : List AOper :=
  [.mk (some 7) (.mv (.tmp 1)) none [],.mk (some 8) (.mv (.tmp 0)) none [],.mk (some 9) (.bin .leq (.tmp 7) (.tmp 8)) none [0,1],.mk (some 10) (.mv (.tmp 9)) none [2],.mk (some 11) (.mv (.tmp 0)) (some (10,true)) [3],.mk (some 12) (.mv (.tmp 2)) (some (10,true)) [3],.mk (some 13) (.bin .leq (.tmp 11) (.tmp 12)) (some (10,true)) [4,5,3],.mk (some 14) (.pick (.tmp 10) (.tmp 13) (.const (.bool false))) none [3,6],.mk (some 6) (.mv (.tmp 14)) none [7,3,0,1,2,3,4,5,6,7]]
def l15 : AFn :=
  (AFn.mk 15 3 (.seq (.reg l15r0) (.seq (.reg l15r1) .ret)) [.tmp 6])
theorem l15_eq : lowFn Tryd.prog 15 = some l15 := by kernel_rfl
def l16r0 : List AOper :=
  [.mk (some 1) (.box (.tmp 0)) none [],.mk (some 2) (.mv (.const (.slice none 0 0))) none [],.mk (some 3) (.mv (.const (.int .i64 0))) none [1]]
def l16r1 : List AOper :=
  [.mk (some 8) (.bslice 1 [.int .i64 0] [] 0) none [],.mk (some 4) (.mv (.tmp 8)) none [0,0]]
def l16r2 : List AOper :=
  [.mk (some 5) (.mv (.const (.int .i64 0))) none []]
def l16r3 : List AOper :=
  [.mk (some 6) (.mv (.const (.int .i64 1))) none []]
def l16r4 : List AOper :=
  [.mk (some 7) (.mv (.const (.int .i64 0))) none []]
def l16r5 : List AOper :=
  [.mk (some 9) (.mv (.tmp 7)) none [],.mk (some 10) (.fld 0 (.tmp 1)) none [],.mk (some 11) (.load false 1 (.tmp 10)) none [1],.mk (some 12) (.len (.tmp 11)) none [2],.mk (some 13) (.bin .lss (.tmp 9) (.tmp 12)) none [0,3]]
def l16r6 : List AOper :=
  [.mk (some 16) (.fld 2 (.tmp 1)) none [],.mk (some 17) (.load false 1 (.tmp 16)) none [0]]
def l16r7 : List AOper :=
  [.mk (some 18) (.mv (.tmp 5)) none [],.mk (some 19) (.fld 0 (.tmp 1)) none [],.mk (some 20) (.load false 1 (.tmp 19)) none [1],.mk (some 21) (.mv (.tmp 7)) none [],.mk (some 22) (.idxA 1 (.tmp 20) (.tmp 21)) none [2,3],.mk (some 23) (.load false 1 (.tmp 22)) none [4],.mk (some 24) (.call 30 [.tmp 18,.tmp 23]) none [0,5],.mk (some 5) (.mv (.tmp 24)) none [6,6,0,1,2,3,4,5,6]]
def l16r8 : List AOper :=
  [.mk (some 25) (.mv (.tmp 6)) none [],.mk (some 26) (.fld 0 (.tmp 1)) none [],.mk (some 27) (.load false 1 (.tmp 26)) none [1],.mk (some 28) (.mv (.tmp 7)) none [],.mk (some 29) (.idxA 1 (.tmp 27) (.tmp 28)) none [2,3],.mk (some 30) (.load false 1 (.tmp 29)) none [4],.mk (some 31) (.minmax true (.tmp 25) (.tmp 30)) none [0,5],.mk (some 6) (.mv (.tmp 31)) none [6,0,1,2,3,4,5,6]]
def l16r9 : List AOper :=
  [.mk (some 32) (.mv (.tmp 4)) none [],.mk (some 33) (.mv (.tmp 5)) none [],.mk (some 34) (.bslice 1 [.int .i64 0] [(0,.tmp 33)] 1) none [1],.mk (some 35) (.append 1 (.tmp 32) (.tmp 34)) none [0,2],.mk (some 4) (.mv (.tmp 35)) none [3,3,0,1,2,3]]
def l16r10 : List AOper :=
  [.mk (some 36) (.mv (.tmp 5)) none [],.mk (some 37) (.fld 0 (.tmp 1)) none [],.mk (some 38) (.load false 1 (.tmp 37)) none [1],.mk (some 39) (.mv (.tmp 7)) none [],.mk (some 40) (.idxA 1 (.tmp 38) (.tmp 39)) none [2,3],.mk (some 41) (.load false 1 (.tmp 40)) none [4],.mk (some 42) (.bin .add (.tmp 36) (.tmp 41)) none [0,5],.mk (some 5) (.mv (.tmp 42)) none [6,0,1,2,3,4,5,6]]
def l16r11 : List AOper :=
  [.mk (some 14) (.mv (.tmp 7)) none [],.mk (some 15) (.bin .add (.tmp 14) (.const (.int .i64 1))) none [0],.mk (some 7) (.mv (.tmp 15)) none [1,0,1]]
def l16r12 : List AOper :=
  [.mk (some 43) (.mv (.tmp 4)) none [],.mk (some 44) (.mv (.tmp 5)) none [],.mk (some 45) (.mv (.tmp 6)) none [],.mk (some 46) (.call 30 [.tmp 44,.tmp 45]) none [1,2],.mk (some 2) (.mv (.tmp 43)) none [0,3,0],.mk (some 3) (.mv (.tmp 46)) none [3,4,0,1,2,3,4]]
def l16 : AFn :=
  (AFn.mk 47 1 (.seq (.reg l16r0) (.seq (.reg l16r1) (.seq (.reg l16r2) (.seq (.reg l16r3) (.seq (.seq (.reg l16r4) (.block 0 (.loop (.seq (.seq (.reg l16r5) (.cond (.tmp 13) .skip (.exit 0))) (.seq (.block 1 (.seq (.seq (.reg l16r6) (.cond (.tmp 17) (.seq (.reg l16r7) (.reg l16r8)) .skip)) (.seq (.reg l16r9) (.reg l16r10)))) (.reg l16r11)))))) (.seq (.reg l16r12) .ret)))))) [.tmp 2,.tmp 3])
theorem l16_eq : lowFn Tryd.prog 16 = some l16 := by kernel_rfl
def l17r0 : List AOper :=
  [.mk (some 1) (.box (.tmp 0)) none [],.mk (some 2) (.alloc [.int .i64 0,.slice none 0 0,.slice none 0 0]) none [],.mk (some 3) (.mv (.const (.bool false))) none []]
def l17r1 : List AOper :=
  [.mk (some 4) (.load true 3 (.tmp 1)) none [],.mk (some 5) (.call 31 [.tmp 4]) none [0],.mk (some 6) (.un .not (.tmp 5)) none [1]]
def l17r2 : List AOper :=
  [.mk (some 7) (.build [.int .i64 0,.slice none 0 0,.slice none 0 0] []) none [],.mk none (.store 3 (.tmp 2) (.tmp 7)) none [0,0],.mk (some 3) (.mv (.const (.bool false))) none [1,0,1]]
def l17r3 : List AOper :=
  [.mk (some 8) (.load true 3 (.tmp 1)) none [],.mk (some 9) (.call 32 [.tmp 8]) none [0],.mk none (.store 3 (.tmp 2) (.tmp 9)) none [1,1,0,1],.mk (some 3) (.mv (.const (.bool true))) none [2,0,1,2]]
def l17 : AFn :=
  (AFn.mk 10 1 (.seq (.reg l17r0) (.seq (.seq (.reg l17r1) (.cond (.tmp 6) (.seq (.reg l17r2) .ret) .skip)) (.seq (.reg l17r3) .ret))) [.cell 2 true 3,.tmp 3])
theorem l17_eq : lowFn Tryd.prog 17 = some l17 := by kernel_rfl
def l18r0 : List AOper :=
  [.mk (some 2) (.mv (.const (.slice none 0 0))) none []]
def l18r1 : List AOper :=
  [.mk (some 5) (.mv (.tmp 0)) none [],.mk (some 6) (.len (.tmp 5)) none [0],.mk (some 7) (.mkslice 1 [.int .i64 0] (.tmp 6) (.tmp 6)) none [1,1],.mk (some 3) (.mv (.tmp 7)) none [2,0,1,2]]
def l18r2 : List AOper :=
  [.mk (some 4) (.mv (.const (.int .i64 0))) none []]
def l18r3 : List AOper :=
  [.mk (some 8) (.mv (.tmp 4)) none [],.mk (some 9) (.mv (.tmp 0)) none [],.mk (some 10) (.len (.tmp 9)) none [1],.mk (some 11) (.bin .lss (.tmp 8) (.tmp 10)) none [0,2]]
def l18r4 : List AOper :=
  [.mk (some 14) (.mv (.tmp 3)) none [],.mk (some 15) (.mv (.tmp 4)) none [],.mk (some 16) (.mv (.tmp 0)) none [],.mk (some 17) (.mv (.tmp 4)) none [],.mk (some 18) (.idxA 1 (.tmp 16) (.tmp 17)) none [2,3],.mk (some 19) (.load false 1 (.tmp 18)) none [4],.mk (some 20) (.idxA 1 (.tmp 14) (.tmp 15)) none [0,1,0,1,2,3,4,5],.mk none (.store 1 (.tmp 20) (.tmp 19)) none [6,5,0,1,2,3,4,5]]
def l18r5 : List AOper :=
  [.mk (some 12) (.mv (.tmp 4)) none [],.mk (some 13) (.bin .add (.tmp 12) (.const (.int .i64 1))) none [0],.mk (some 4) (.mv (.tmp 13)) none [1,0,1]]
def l18r6 : List AOper :=
  [.mk (some 21) (.mv (.tmp 3)) none [],.mk (some 2) (.mv (.tmp 21)) none [0,0]]
def l18 : AFn :=
  (AFn.mk 22 1 (.seq (.reg l18r0) (.seq (.reg l18r1) (.seq (.seq (.reg l18r2) (.block 0 (.loop (.seq (.seq (.reg l18r3) (.cond (.tmp 11) .skip (.exit 0))) (.seq (.block 1 (.reg l18r4)) (.reg l18r5)))))) (.seq (.reg l18r6) .ret)))) [.tmp 2])
theorem l18_eq : lowFn Tryd.prog 18 = some l18 := by kernel_rfl
def l19r0 : List AOper :=
  [.mk (some 1) (.box (.tmp 0)) none [],.mk (some 2) (.mv (.const (.bool false))) none []]
def l19r1 : List AOper :=
  [.mk (some 5) (.fld 0 (.tmp 1)) none [],.mk (some 6) (.load false 1 (.tmp 5)) none [0],.mk (some 7) (.len (.tmp 6)) none [1],.mk (some 8) (.bin .lss (.tmp 7) (.const (.int .i64 1))) none [2],.mk (some 9) (.mv (.tmp 8)) none [3],.mk (some 10) (.fld 0 (.tmp 1)) (some (9,false)) [4],.mk (some 11) (.load false 1 (.tmp 10)) (some (9,false)) [5,4],.mk (some 12) (.len (.tmp 11)) (some (9,false)) [6,4],.mk (some 13) (.bin .gtr (.tmp 12) (.const (.int .i64 5))) (some (9,false)) [7,4],.mk (some 14) (.pick (.tmp 9) (.const (.bool true)) (.tmp 13)) none [4,8]]
def l19r2 : List AOper :=
  [.mk (some 2) (.mv (.const (.bool false))) none []]
def l19r3 : List AOper :=
  [.mk (some 15) (.fld 0 (.tmp 1)) none [],.mk (some 16) (.load false 1 (.tmp 15)) none [0],.mk (some 17) (.len (.tmp 16)) none [1],.mk (some 18) (.mv (.const (.int .i64 0))) none []]
def l19r4 : List AOper :=
  [.mk (some 19) (.bin .lss (.tmp 18) (.tmp 17)) none []]
def l19r5 : List AOper :=
  [.mk (some 20) (.idxA 1 (.tmp 16) (.tmp 18)) none [],.mk (some 21) (.load false 1 (.tmp 20)) none [0],.mk (some 4) (.mv (.tmp 21)) none [1,0,1]]
def l19r6 : List AOper :=
  [.mk (some 22) (.mv (.tmp 4)) none [],.mk (some 23) (.call 33 [.tmp 22]) none [0],.mk (some 24) (.un .not (.tmp 23)) none [1]]
def l19r7 : List AOper :=
  [.mk (some 2) (.mv (.const (.bool false))) none []]
def l19r8 : List AOper :=
  [.mk (some 25) (.bin .add (.tmp 18) (.const (.int .i64 1))) none [],.mk (some 18) (.mv (.tmp 25)) none [0]]
def l19r9 : List AOper :=
  [.mk (some 2) (.mv (.const (.bool true))) none []]
def l19 : AFn :=
  (AFn.mk 26 1 (.seq (.reg l19r0) (.seq (.seq (.reg l19r1) (.cond (.tmp 14) (.seq (.reg l19r2) .ret) .skip)) (.seq (.seq (.reg l19r3) (.block 0 (.loop (.seq (.reg l19r4) (.seq (.cond (.tmp 19) .skip (.exit 0)) (.seq (.block 1 (.seq (.reg l19r5) (.seq (.reg l19r6) (.cond (.tmp 24) (.seq (.reg l19r7) .ret) .skip)))) (.reg l19r8))))))) (.seq (.reg l19r9) .ret)))) [.tmp 2])
theorem l19_eq : lowFn Tryd.prog 19 = some l19 := by kernel_rfl
def l20r0 : List AOper :=
  [.mk (some 4) (.mv (.const (.bool false))) none []]
def l20r1 : List AOper :=
  [.mk (some 5) (.mv (.tmp 0)) none [],.mk (some 6) (.bin .leq (.const (.int .i64 0)) (.tmp 5)) none [0],.mk (some 7) (.mv (.tmp 6)) none [1],.mk (some 8) (.mv (.tmp 0)) (some (7,true)) [2],.mk (some 9) (.mv (.tmp 1)) (some (7,true)) [2],.mk (some 10) (.bin .leq (.tmp 8) (.tmp 9)) (some (7,true)) [3,4,2],.mk (some 11) (.pick (.tmp 7) (.tmp 10) (.const (.bool false))) none [2,5],.mk (some 4) (.mv (.tmp 11)) none [6,2,0,1,2,3,4,5,6]]
def l20 : AFn :=
  (AFn.mk 12 2 (.seq (.reg l20r0) (.seq (.reg l20r1) .ret)) [.tmp 4])
theorem l20_eq : lowFn Tryd.prog 20 = some l20 := by kernel_rfl
def l21r0 : List AOper :=
  [.mk (some 1) (.box (.tmp 0)) none [],.mk (some 2) (.mv (.const (.slice none 0 0))) none []]
def l21r1 : List AOper :=
  [.mk (some 7) (.fld 0 (.tmp 1)) none [],.mk (some 8) (.load false 1 (.tmp 7)) none [0],.mk (some 9) (.len (.tmp 8)) none [1],.mk (some 10) (.mkslice 2 [.int .i64 0,.int .i64 0] (.tmp 9) (.tmp 9)) none [2,2],.mk (some 3) (.mv (.tmp 10)) none [3,0,1,2,3]]
def l21r2 : List AOper :=
  [.mk (some 4) (.mv (.const (.int .i64 0))) none []]
def l21r3 : List AOper :=
  [.mk (some 11) (.fld 0 (.tmp 1)) none [],.mk (some 12) (.load false 1 (.tmp 11)) none [0],.mk (some 13) (.len (.tmp 12)) none [1],.mk (some 14) (.mv (.const (.int .i64 0))) none []]
def l21r4 : List AOper :=
  [.mk (some 15) (.bin .lss (.tmp 14) (.tmp 13)) none []]
def l21r5 : List AOper :=
  [.mk (some 16) (.mv (.tmp 14)) none [],.mk (some 17) (.idxA 1 (.tmp 12) (.tmp 14)) none [],.mk (some 18) (.load false 1 (.tmp 17)) none [1],.mk (some 5) (.mv (.tmp 16)) none [0,0,1,2],.mk (some 6) (.mv (.tmp 18)) none [2,3,0,1,2,3]]
def l21r6 : List AOper :=
  [.mk (some 19) (.mv (.tmp 3)) none [],.mk (some 20) (.mv (.tmp 5)) none [],.mk (some 21) (.load true 3 (.tmp 1)) none [],.mk (some 22) (.mv (.tmp 4)) none [],.mk (some 23) (.mv (.tmp 6)) none [],.mk (some 24) (.call 34 [.tmp 21,.tmp 22,.tmp 23]) none [2,3,4],.mk (some 25) (.mv (.tmp 6)) none [],.mk (some 26) (.build [.int .i64 0,.int .i64 0] [(0,1,.tmp 24),(1,1,.tmp 25)]) none [5,6],.mk (some 27) (.idxA 2 (.tmp 19) (.tmp 20)) none [0,1,0,1,2,3,4,5,6,7],.mk none (.store 2 (.tmp 27) (.tmp 26)) none [8,7,5,0,1,2,3,4,5,6,7]]
def l21r7 : List AOper :=
  [.mk (some 28) (.mv (.tmp 3)) none [],.mk (some 29) (.mv (.tmp 5)) none [],.mk (some 30) (.idxA 2 (.tmp 28) (.tmp 29)) none [0,1],.mk (some 31) (.load true 2 (.tmp 30)) none [2],.mk (some 32) (.call 35 [.tmp 31]) none [3],.mk (some 4) (.mv (.tmp 32)) none [4,4,0,1,2,3,4]]
def l21r8 : List AOper :=
  [.mk (some 33) (.bin .add (.tmp 14) (.const (.int .i64 1))) none [],.mk (some 14) (.mv (.tmp 33)) none [0]]
def l21r9 : List AOper :=
  [.mk (some 34) (.mv (.tmp 3)) none [],.mk (some 2) (.mv (.tmp 34)) none [0,0]]
def l21 : AFn :=
  (AFn.mk 35 1 (.seq (.reg l21r0) (.seq (.reg l21r1) (.seq (.reg l21r2) (.seq (.seq (.reg l21r3) (.block 0 (.loop (.seq (.reg l21r4) (.seq (.cond (.tmp 15) .skip (.exit 0)) (.seq (.block 1 (.seq (.reg l21r5) (.seq (.reg l21r6) (.reg l21r7)))) (.reg l21r8))))))) (.seq (.reg l21r9) .ret))))) [.tmp 2])
theorem l21_eq : lowFn Tryd.prog 21 = some l21 := by kernel_rfl
def l22r0 : List AOper :=
  [.mk (some 1) (.box (.tmp 0)) none [],.mk (some 2) (.alloc [.nilFunc]) none []]
def l22r1 : List AOper :=
  [.mk (some 3) (.fld 1 (.tmp 1)) none [],.mk (some 4) (.load false 1 (.tmp 3)) none [0]]
def l22r2 : List AOper :=
  [.mk (some 5) (.build [.nilFunc] [(0,1,.func 36)]) none [],.mk none (.store 1 (.tmp 2) (.tmp 5)) none [0,0]]
def l22r3 : List AOper :=
  [.mk (some 6) (.build [.nilFunc] [(0,1,.func 37)]) none [],.mk none (.store 1 (.tmp 2) (.tmp 6)) none [0,0]]
def l22 : AFn :=
  (AFn.mk 7 1 (.seq (.reg l22r0) (.seq (.seq (.reg l22r1) (.cond (.tmp 4) (.seq (.reg l22r2) .ret) .skip)) (.seq (.reg l22r3) .ret))) [.cell 2 true 1])
theorem l22_eq : lowFn Tryd.prog 22 = some l22 := by kernel_rfl
def l23r0 : List AOper :=
  [.mk (some 3) (.box (.tmp 0)) none [],.mk (some 4) (.box (.tmp 1)) none [],.mk (some 6) (.mv (.const (.int .i64 0))) none []]
def l23r1a : List AOper :=
  [.mk (some 7) (.fld 0 (.tmp 4)) none [],.mk (some 8) (.load false 1 (.tmp 7)) none [0],.mk (some 9) (.fld 0 (.tmp 3)) none [],.mk (some 10) (.load false 1 (.tmp 9)) none [2],.mk (some 11) (.fld 1 (.tmp 4)) none [],.mk (some 12) (.load false 1 (.tmp 11)) none [4],.mk (some 13) (.mv (.tmp 2)) none [],.mk (some 14) (.raw (Op.call (Call.mk (Callee.value (.tmp 10)) (Array.mk [.tmp 12,.tmp 13]) (Array.mk [3,3])))) none [3,5,6]]
def l23r1b : List AOper :=
  [.mk (some 15) (.bin .add (.tmp 8) (.tmp 14)) none [1,7],.mk (some 6) (.mv (.tmp 15)) none [8,7,0,1,2,3,4,5,6,7,8]]
def l23r1 : List AOper := l23r1a ++ l23r1b
def l23 : AFn :=
  (AFn.mk 16 3 (.seq (.reg l23r0) (.seq (.draw l23r1) .ret)) [.tmp 6])
theorem l23_eq : lowFn Tryd.prog 23 = some l23 := by kernel_rfl
def l24r0 : List AOper :=
  [.mk (some 2) (.mv (.const (.slice none 0 0))) none []]
def l24r1 : List AOper :=
  [.mk (some 3) (.mv (.tmp 0)) none [],.mk (some 4) (.call 38 [.tmp 3]) none [0],.mk (some 2) (.mv (.tmp 4)) none [1,1,0,1]]
def l24 : AFn :=
  (AFn.mk 5 1 (.seq (.reg l24r0) (.seq (.reg l24r1) .ret)) [.tmp 2])
theorem l24_eq : lowFn Tryd.prog 24 = some l24 := by kernel_rfl
def l25r0 : List AOper :=
  [.mk (some 1) (.box (.tmp 0)) none [],.mk (some 2) (.mv (.const (.int .i64 0))) none []]
def l25r1a : List AOper :=
  [.mk (some 4) (.load true 3 (.tmp 1)) none [],.mk (some 5) (.call 21 [.tmp 4]) none [0],.mk (some 6) (.fld 0 (.tmp 1)) none [],.mk (some 7) (.load false 1 (.tmp 6)) none [2],.mk (some 8) (.len (.tmp 7)) none [3],.mk (some 9) (.bin .sub (.tmp 8) (.const (.int .i64 1))) none [4],.mk (some 10) (.idxA 2 (.tmp 5) (.tmp 9)) none [1,5],.mk (some 11) (.load true 2 (.tmp 10)) none [6],.mk (some 3) (.alloc [.int .i64 0,.int .i64 0]) none []]
def l25r1b : List AOper :=
  [.mk none (.store 2 (.tmp 3) (.tmp 11)) none [8,7,1,0,1,2,3,4,5,6,7,8]]
def l25r1 : List AOper := l25r1a ++ l25r1b
def l25r2a : List AOper :=
  [.mk (some 12) (.load true 3 (.tmp 1)) none [],.mk (some 13) (.load true 2 (.tmp 3)) none [],.mk (some 14) (.call 35 [.tmp 13]) none [1],.mk (some 15) (.fld 0 (.tmp 1)) none [],.mk (some 16) (.load false 1 (.tmp 15)) none [3],.mk (some 17) (.call 39 [.tmp 16]) none [4,2]]
def l25r2b : List AOper :=
  [.mk (some 18) (.call 34 [.tmp 12,.tmp 14,.tmp 17]) none [0,2,5,5],.mk (some 2) (.mv (.tmp 18)) none [6,6,0,1,2,3,4,5,6]]
def l25r2 : List AOper := l25r2a ++ l25r2b
def l25 : AFn :=
  (AFn.mk 19 1 (.seq (.reg l25r0) (.seq (.draw l25r1) (.seq (.draw l25r2) .ret))) [.tmp 2])
theorem l25_eq : lowFn Tryd.prog 25 = some l25 := by kernel_rfl
def l26r0 : List AOper :=
  [.mk (some 1) (.box (.tmp 0)) none [],.mk (some 2) (.mv (.const (.bool false))) none []]
def l26r1 : List AOper :=
  [.mk (some 5) (.fld 1 (.tmp 1)) none [],.mk (some 6) (.load false 1 (.tmp 5)) none [0],.mk (some 7) (.call 40 [.tmp 6]) none [1],.mk (some 8) (.un .not (.tmp 7)) none [2],.mk (some 9) (.mv (.tmp 8)) none [3,2],.mk (some 10) (.fld 2 (.tmp 1)) (some (9,false)) [4],.mk (some 11) (.load false 1 (.tmp 10)) (some (9,false)) [5,4],.mk (some 12) (.fld 1 (.tmp 1)) (some (9,false)) [4],.mk (some 13) (.load false 1 (.tmp 12)) (some (9,false)) [7,4],.mk (some 14) (.len (.tmp 13)) (some (9,false)) [8,4],.mk (some 15) (.call 41 [.tmp 11,.tmp 14]) (some (9,false)) [6,9,4,4],.mk (some 16) (.un .not (.tmp 15)) (some (9,false)) [10,4],.mk (some 17) (.pick (.tmp 9) (.const (.bool true)) (.tmp 16)) none [4,11],.mk (some 18) (.mv (.tmp 17)) none [12,10],.mk (some 19) (.fld 0 (.tmp 1)) (some (18,false)) [13],.mk (some 20) (.load false 1 (.tmp 19)) (some (18,false)) [14,13],.mk (some 21) (.call 20 [.tmp 20,.const (.int .i64 60)]) (some (18,false)) [15,13,13],.mk (some 22) (.un .not (.tmp 21)) (some (18,false)) [16,13],.mk (some 23) (.pick (.tmp 18) (.const (.bool true)) (.tmp 22)) none [13,17]]
def l26r2 : List AOper :=
  [.mk (some 2) (.mv (.const (.bool false))) none []]
def l26r3 : List AOper :=
  [.mk (some 25) (.load true 3 (.tmp 1)) none [],.mk (some 26) (.call 42 [.tmp 25]) none [0],.mk (some 24) (.mv (.tmp 26)) none [1],.mk (some 27) (.extract (.tmp 24) 0) none [2],.mk (some 28) (.extract (.tmp 24) 1) none [2],.mk (some 3) (.mv (.tmp 27)) none [3,1,0,1,2,3],.mk (some 4) (.mv (.tmp 28)) none [4,5,0,1,2,3,4,5]]
def l26r4 : List AOper :=
  [.mk (some 29) (.load true 3 (.tmp 1)) none [],.mk (some 30) (.call 43 [.tmp 29]) none [0],.mk (some 31) (.bin .eql (.tmp 30) (.const (.int .i64 0))) none [1],.mk (some 32) (.mv (.tmp 31)) none [2,1],.mk (some 33) (.mv (.tmp 3)) (some (32,false)) [3],.mk (some 34) (.bin .geq (.tmp 33) (.const (.int .i64 0))) (some (32,false)) [4,3],.mk (some 35) (.mv (.tmp 34)) (some (32,false)) [5,3,3],.mk (some 36) (.mv (.tmp 4)) (some (35,true)) [6],.mk (some 37) (.bin .lss (.tmp 36) (.const (.int .i64 60))) (some (35,true)) [7,6],.mk (some 38) (.pick (.tmp 35) (.tmp 37) (.const (.bool false))) (some (32,false)) [6,8,3],.mk (some 39) (.pick (.tmp 32) (.const (.bool true)) (.tmp 38)) none [3,9],.mk (some 2) (.mv (.tmp 39)) none [10,6,0,1,2,3,4,5,6,7,8,9,10]]
def l26 : AFn :=
  (AFn.mk 40 1 (.seq (.reg l26r0) (.seq (.seq (.reg l26r1) (.cond (.tmp 23) (.seq (.reg l26r2) .ret) .skip)) (.seq (.reg l26r3) (.seq (.reg l26r4) .ret)))) [.tmp 2])
theorem l26_eq : lowFn Tryd.prog 26 = some l26 := by kernel_rfl
def l27r0 : List AOper :=
  [.mk (some 4) (.mv (.const (.bool false))) none []]
def l27r1 : List AOper :=
  [.mk (some 6) (.mv (.tmp 0)) none [],.mk (some 7) (.len (.tmp 6)) none [0],.mk (some 8) (.mv (.tmp 1)) none [],.mk (some 9) (.len (.tmp 8)) none [2],.mk (some 10) (.bin .neq (.tmp 7) (.tmp 9)) none [1,3]]
def l27r2 : List AOper :=
  [.mk (some 4) (.mv (.const (.bool false))) none []]
def l27r3 : List AOper :=
  [.mk (some 5) (.mv (.const (.int .i64 0))) none []]
def l27r4 : List AOper :=
  [.mk (some 11) (.mv (.tmp 5)) none [],.mk (some 12) (.mv (.tmp 0)) none [],.mk (some 13) (.len (.tmp 12)) none [1],.mk (some 14) (.bin .lss (.tmp 11) (.tmp 13)) none [0,2]]
def l27r5a : List AOper :=
  [.mk (some 17) (.mv (.tmp 0)) none [],.mk (some 18) (.mv (.tmp 5)) none [],.mk (some 19) (.idxA 1 (.tmp 17) (.tmp 18)) none [0,1],.mk (some 20) (.load false 1 (.tmp 19)) none [2],.mk (some 21) (.mv (.tmp 1)) none [],.mk (some 22) (.mv (.tmp 5)) none [],.mk (some 23) (.idxA 1 (.tmp 21) (.tmp 22)) none [4,5],.mk (some 24) (.load false 1 (.tmp 23)) none [6]]
def l27r5b : List AOper :=
  [.mk (some 25) (.bin .neq (.tmp 20) (.tmp 24)) none [3,7]]
def l27r5 : List AOper := l27r5a ++ l27r5b
def l27r6 : List AOper :=
  [.mk (some 4) (.mv (.const (.bool false))) none []]
def l27r7 : List AOper :=
  [.mk (some 15) (.mv (.tmp 5)) none [],.mk (some 16) (.bin .add (.tmp 15) (.const (.int .i64 1))) none [0],.mk (some 5) (.mv (.tmp 16)) none [1,0,1]]
def l27r8 : List AOper :=
  [.mk (some 4) (.mv (.const (.bool true))) none []]
def l27 : AFn :=
  (AFn.mk 26 2 (.seq (.reg l27r0) (.seq (.seq (.reg l27r1) (.cond (.tmp 10) (.seq (.reg l27r2) .ret) .skip)) (.seq (.seq (.reg l27r3) (.block 0 (.loop (.seq (.seq (.reg l27r4) (.cond (.tmp 14) .skip (.exit 0))) (.seq (.block 1 (.seq (.draw l27r5) (.cond (.tmp 25) (.seq (.reg l27r6) .ret) .skip))) (.reg l27r7)))))) (.seq (.reg l27r8) .ret)))) [.tmp 4])
theorem l27_eq : lowFn Tryd.prog 27 = some l27 := by kernel_rfl
def l28r0 : List AOper :=
  [.mk (some 4) (.mv (.const (.int .i64 0))) none []]
def l28r1 : List AOper :=
  [.mk (some 5) (.mv (.const (.int .i64 0))) none []]
def l28r2 : List AOper :=
  [.mk (some 6) (.mv (.tmp 5)) none [],.mk (some 7) (.mv (.tmp 0)) none [],.mk (some 8) (.len (.tmp 7)) none [1],.mk (some 9) (.bin .lss (.tmp 6) (.tmp 8)) none [0,2]]
def l28r3 : List AOper :=
  [.mk (some 12) (.mv (.tmp 0)) none [],.mk (some 13) (.mv (.tmp 5)) none [],.mk (some 14) (.mv (.tmp 1)) none [],.mk (some 15) (.idxA 1 (.tmp 12) (.tmp 13)) none [0,1,0,1,2],.mk none (.store 1 (.tmp 15) (.tmp 14)) none [3,2,0,1,2]]
def l28r4 : List AOper :=
  [.mk (some 16) (.mv (.tmp 1)) none [],.mk (some 17) (.bin .add (.tmp 16) (.const (.int .i64 1))) none [0],.mk (some 1) (.mv (.tmp 17)) none [1,0,1]]
def l28r5 : List AOper :=
  [.mk (some 10) (.mv (.tmp 5)) none [],.mk (some 11) (.bin .add (.tmp 10) (.const (.int .i64 1))) none [0],.mk (some 5) (.mv (.tmp 11)) none [1,0,1]]
def l28r6 : List AOper :=
  [.mk (some 18) (.mv (.tmp 1)) none [],.mk (some 4) (.mv (.tmp 18)) none [0,0]]
def l28 : AFn :=
  (AFn.mk 19 2 (.seq (.reg l28r0) (.seq (.seq (.reg l28r1) (.block 0 (.loop (.seq (.seq (.reg l28r2) (.cond (.tmp 9) .skip (.exit 0))) (.seq (.block 1 (.seq (.reg l28r3) (.reg l28r4))) (.reg l28r5)))))) (.seq (.reg l28r6) .ret))) [.tmp 4])
theorem l28_eq : lowFn Tryd.prog 28 = some l28 := by kernel_rfl
def l29r0 : List AOper :=
  [.mk (some 4) (.mv (.const (.int .i64 0))) none []]
def l29r1 : List AOper :=
  [.mk (some 5) (.mv (.const (.int .i64 0))) none []]
def l29r2 : List AOper :=
  [.mk (some 6) (.mv (.tmp 5)) none [],.mk (some 7) (.mv (.tmp 0)) none [],.mk (some 8) (.len (.tmp 7)) none [1],.mk (some 9) (.bin .lss (.tmp 6) (.tmp 8)) none [0,2]]
def l29r3 : List AOper :=
  [.mk (some 12) (.mv (.tmp 0)) none [],.mk (some 13) (.mv (.tmp 5)) none [],.mk (some 14) (.idxA 1 (.tmp 12) (.tmp 13)) none [0,1],.mk (some 15) (.load false 1 (.tmp 14)) none [2],.mk (some 16) (.mv (.tmp 1)) none [],.mk (some 17) (.bin .neq (.tmp 15) (.tmp 16)) none [3,4]]
def l29r4 : List AOper :=
  [.mk (some 4) (.mv (.const (.int .i64 (-1)))) none []]
def l29r5 : List AOper :=
  [.mk (some 18) (.mv (.tmp 1)) none [],.mk (some 19) (.bin .add (.tmp 18) (.const (.int .i64 1))) none [0],.mk (some 1) (.mv (.tmp 19)) none [1,0,1]]
def l29r6 : List AOper :=
  [.mk (some 10) (.mv (.tmp 5)) none [],.mk (some 11) (.bin .add (.tmp 10) (.const (.int .i64 1))) none [0],.mk (some 5) (.mv (.tmp 11)) none [1,0,1]]
def l29r7 : List AOper :=
  [.mk (some 20) (.mv (.tmp 1)) none [],.mk (some 4) (.mv (.tmp 20)) none [0,0]]
def l29 : AFn :=
  (AFn.mk 21 2 (.seq (.reg l29r0) (.seq (.seq (.reg l29r1) (.block 0 (.loop (.seq (.seq (.reg l29r2) (.cond (.tmp 9) .skip (.exit 0))) (.seq (.block 1 (.seq (.seq (.reg l29r3) (.cond (.tmp 17) (.seq (.reg l29r4) .ret) .skip)) (.reg l29r5))) (.reg l29r6)))))) (.seq (.reg l29r7) .ret))) [.tmp 4])
theorem l29_eq : lowFn Tryd.prog 29 = some l29 := by kernel_rfl
def l30r0 : List AOper :=
  [.mk (some 4) (.mv (.const (.int .i64 0))) none []]
def l30r1 : List AOper :=
  [.mk (some 5) (.mv (.tmp 0)) none [],.mk (some 6) (.mv (.tmp 1)) none [],.mk (some 7) (.bin .add (.tmp 5) (.tmp 6)) none [0,1],.mk (some 8) (.bin .sub (.tmp 7) (.const (.int .i64 1))) none [2],.mk (some 9) (.mv (.tmp 1)) none [],.mk (some 10) (.bin .quo (.tmp 8) (.tmp 9)) none [3,4],.mk (some 11) (.mv (.tmp 1)) none [],.mk (some 12) (.bin .mul (.tmp 10) (.tmp 11)) none [5,6],.mk (some 4) (.mv (.tmp 12)) none [7,0,1,2,3,4,5,6,7]]
def l30 : AFn :=
  (AFn.mk 13 2 (.seq (.reg l30r0) (.seq (.reg l30r1) .ret)) [.tmp 4])
theorem l30_eq : lowFn Tryd.prog 30 = some l30 := by kernel_rfl
def l31r0 : List AOper :=
  [.mk (some 1) (.box (.tmp 0)) none [],.mk (some 2) (.mv (.const (.bool false))) none []]
def l31r1 : List AOper :=
  [.mk (some 3) (.fld 1 (.tmp 1)) none [],.mk (some 4) (.load false 1 (.tmp 3)) none [0],.mk (some 5) (.call 44 [.tmp 4]) none [1],.mk (some 6) (.mv (.tmp 5)) none [2,2],.mk (some 7) (.fld 2 (.tmp 1)) (some (6,true)) [3],.mk (some 8) (.load false 1 (.tmp 7)) (some (6,true)) [4,3],.mk (some 9) (.len (.tmp 8)) (some (6,true)) [5,3],.mk (some 10) (.fld 1 (.tmp 1)) (some (6,true)) [3],.mk (some 11) (.load false 1 (.tmp 10)) (some (6,true)) [7,3],.mk (some 12) (.len (.tmp 11)) (some (6,true)) [8,3],.mk (some 13) (.bin .eql (.tmp 9) (.tmp 12)) (some (6,true)) [6,9,3],.mk (some 14) (.pick (.tmp 6) (.tmp 13) (.const (.bool false))) none [3,10],.mk (some 15) (.mv (.tmp 14)) none [11,3],.mk (some 16) (.fld 2 (.tmp 1)) (some (15,true)) [12],.mk (some 17) (.load false 1 (.tmp 16)) (some (15,true)) [13,12],.mk (some 18) (.call 45 [.tmp 17,.const (.int .i64 (-60)),.const (.int .i64 60)]) (some (15,true)) [14,12,12],.mk (some 19) (.pick (.tmp 15) (.tmp 18) (.const (.bool false))) none [12,15],.mk (some 20) (.mv (.tmp 19)) none [16,15],.mk (some 21) (.fld 0 (.tmp 1)) (some (20,true)) [17],.mk (some 22) (.load false 1 (.tmp 21)) (some (20,true)) [18,17],.mk (some 23) (.call 15 [.tmp 22,.const (.int .i64 0),.const (.int .i64 60)]) (some (20,true)) [19,17,17],.mk (some 24) (.pick (.tmp 20) (.tmp 23) (.const (.bool false))) none [17,20],.mk (some 25) (.mv (.tmp 24)) none [21,20],.mk (some 26) (.fld 1 (.tmp 1)) (some (25,true)) [22],.mk (some 27) (.load false 1 (.tmp 26)) (some (25,true)) [23,22],.mk (some 28) (.call 46 [.tmp 27]) (some (25,true)) [24,22,22],.mk (some 29) (.bin .eql (.tmp 28) (.const (.int .i64 0))) (some (25,true)) [25,22],.mk (some 30) (.mv (.tmp 29)) (some (25,true)) [26,25,22],.mk (some 31) (.load true 3 (.tmp 1)) (some (30,false)) [27],.mk (some 32) (.call 47 [.tmp 31]) (some (30,false)) [28,27,27],.mk (some 33) (.call 45 [.tmp 32,.const (.int .i64 0),.const (.int .i64 59)]) (some (30,false)) [29,29,27],.mk (some 34) (.pick (.tmp 30) (.const (.bool true)) (.tmp 33)) (some (25,true)) [27,30,22],.mk (some 35) (.pick (.tmp 25) (.tmp 34) (.const (.bool false))) none [22,31],.mk (some 2) (.mv (.tmp 35)) none [32,30,0,1,2,3,4,5,6,7,8,9,10,11,12,13,14,15,16,17,18,19,20,21,22,23,24,25,26,27,28,29,30,31,32]]
def l31 : AFn :=
  (AFn.mk 36 1 (.seq (.reg l31r0) (.seq (.reg l31r1) .ret)) [.tmp 2])
theorem l31_eq : lowFn Tryd.prog 31 = some l31 := by kernel_rfl
def l32r0 : List AOper :=
  [.mk (some 1) (.box (.tmp 0)) none [],.mk (some 2) (.alloc [.int .i64 0,.slice none 0 0,.slice none 0 0]) none []]
def l32r1a : List AOper :=
  [.mk (some 3) (.fld 0 (.tmp 1)) none [],.mk (some 4) (.load false 1 (.tmp 3)) none [0],.mk (some 5) (.fld 1 (.tmp 1)) none [],.mk (some 6) (.load false 1 (.tmp 5)) none [2],.mk (some 7) (.call 48 [.tmp 6]) none [3],.mk (some 8) (.fld 2 (.tmp 1)) none [],.mk (some 9) (.load false 1 (.tmp 8)) none [5],.mk (some 10) (.call 48 [.tmp 9]) none [6,4]]
def l32r1b : List AOper :=
  [.mk (some 11) (.build [.int .i64 0,.slice none 0 0,.slice none 0 0] [(0,1,.tmp 4),(1,1,.tmp 7),(2,1,.tmp 10)]) none [1,4,7],.mk none (.store 3 (.tmp 2) (.tmp 11)) none [8,7,0,1,2,3,4,5,6,7,8]]
def l32r1 : List AOper := l32r1a ++ l32r1b
def l32 : AFn :=
  (AFn.mk 12 1 (.seq (.reg l32r0) (.seq (.draw l32r1) .ret)) [.cell 2 true 3])
theorem l32_eq : lowFn Tryd.prog 32 = some l32 := by kernel_rfl
def l33r0 : List AOper :=
  [.mk (some 2) (.mv (.const (.bool false))) none []]
def l33r1 : List AOper :=
  [.mk (some 5) (.load true 3 (.global 0)) none [],.mk (some 6) (.mv (.const (.int .i64 0))) none []]
def l33r2 : List AOper :=
  [.mk (some 7) (.bin .lss (.tmp 6) (.const (.int .i64 3))) none []]
def l33r3 : List AOper :=
  [.mk (some 8) (.raw (Op.index 67 (.tmp 5) (.tmp 6))) none [],.mk (some 4) (.mv (.tmp 8)) none [0,0]]
def l33r4 : List AOper :=
  [.mk (some 9) (.mv (.tmp 0)) none [],.mk (some 10) (.mv (.tmp 4)) none [],.mk (some 11) (.bin .eql (.tmp 9) (.tmp 10)) none [0,1]]
def l33r5 : List AOper :=
  [.mk (some 2) (.mv (.const (.bool true))) none []]
def l33r6 : List AOper :=
  [.mk (some 12) (.bin .add (.tmp 6) (.const (.int .i64 1))) none [],.mk (some 6) (.mv (.tmp 12)) none [0]]
def l33r7 : List AOper :=
  [.mk (some 2) (.mv (.const (.bool false))) none []]
def l33 : AFn :=
  (AFn.mk 13 1 (.seq (.reg l33r0) (.seq (.seq (.reg l33r1) (.block 0 (.loop (.seq (.reg l33r2) (.seq (.cond (.tmp 7) .skip (.exit 0)) (.seq (.block 1 (.seq (.reg l33r3) (.seq (.reg l33r4) (.cond (.tmp 11) (.seq (.reg l33r5) .ret) .skip)))) (.reg l33r6))))))) (.seq (.reg l33r7) .ret))) [.tmp 2])
theorem l33_eq : lowFn Tryd.prog 33 = some l33 := by kernel_rfl
def l34r0 : List AOper :=
  [.mk (some 3) (.box (.tmp 0)) none [],.mk (some 6) (.mv (.const (.int .i64 0))) none []]
def l34r1 : List AOper :=
  [.mk (some 7) (.fld 2 (.tmp 3)) none [],.mk (some 8) (.load false 1 (.tmp 7)) none [0],.mk (some 9) (.un .not (.tmp 8)) none [1]]
def l34r2 : List AOper :=
  [.mk (some 10) (.mv (.tmp 1)) none [],.mk (some 6) (.mv (.tmp 10)) none [0,0]]
def l34r3 : List AOper :=
  [.mk (some 11) (.mv (.tmp 1)) none [],.mk (some 12) (.mv (.tmp 2)) none [],.mk (some 13) (.bin .add (.tmp 11) (.tmp 12)) none [0,1],.mk (some 14) (.bin .sub (.tmp 13) (.const (.int .i64 1))) none [2],.mk (some 15) (.mv (.tmp 2)) none [],.mk (some 16) (.bin .quo (.tmp 14) (.tmp 15)) none [3,4],.mk (some 17) (.mv (.tmp 2)) none [],.mk (some 18) (.bin .mul (.tmp 16) (.tmp 17)) none [5,6],.mk (some 6) (.mv (.tmp 18)) none [7,0,1,2,3,4,5,6,7]]
def l34 : AFn :=
  (AFn.mk 19 3 (.seq (.reg l34r0) (.seq (.seq (.reg l34r1) (.cond (.tmp 9) (.seq (.reg l34r2) .ret) .skip)) (.seq (.reg l34r3) .ret))) [.tmp 6])
theorem l34_eq : lowFn Tryd.prog 34 = some l34 := by kernel_rfl
def l35r0 : List AOper :=
  [.mk (some 1) (.box (.tmp 0)) none [],.mk (some 2) (.mv (.const (.int .i64 0))) none []]
def l35r1 : List AOper :=
  [.mk (some 3) (.fld 0 (.tmp 1)) none [],.mk (some 4) (.load false 1 (.tmp 3)) none [0],.mk (some 5) (.fld 1 (.tmp 1)) none [],.mk (some 6) (.load false 1 (.tmp 5)) none [2],.mk (some 7) (.bin .add (.tmp 4) (.tmp 6)) none [1,3],.mk (some 2) (.mv (.tmp 7)) none [4,0,1,2,3,4]]
def l35 : AFn :=
  (AFn.mk 8 1 (.seq (.reg l35r0) (.seq (.reg l35r1) .ret)) [.tmp 2])
theorem l35_eq : lowFn Tryd.prog 35 = some l35 := by kernel_rfl
def l38r0 : List AOper :=
  [.mk (some 2) (.mv (.const (.slice none 0 0))) none []]
def l38r1 : List AOper :=
  [.mk (some 3) (.mv (.tmp 0)) none [],.mk (some 4) (.isnil false (.tmp 3)) none [0]]
def l38r2 : List AOper :=
  [.mk (some 2) (.mv (.const (.slice none 0 0))) none []]
def l38r3 : List AOper :=
  [.mk (some 5) (.bslice 1 [.int .i64 0] [] 0) none [],.mk (some 6) (.mv (.tmp 0)) none [],.mk (some 7) (.append 1 (.tmp 5) (.tmp 6)) none [0,1],.mk (some 2) (.mv (.tmp 7)) none [2,2,0,1,2]]
def l38 : AFn :=
  (AFn.mk 8 1 (.seq (.reg l38r0) (.seq (.seq (.reg l38r1) (.cond (.tmp 4) (.seq (.reg l38r2) .ret) .skip)) (.seq (.reg l38r3) .ret))) [.tmp 2])
theorem l38_eq : lowFn Tryd.prog 38 = some l38 := by kernel_rfl
def l39r0 : List AOper :=
  [.mk (some 2) (.mv (.const (.int .i64 0))) none []]
def l39r1 : List AOper :=
  [.mk (some 5) (.mv (.tmp 0)) none [],.mk (some 6) (.len (.tmp 5)) none [0],.mk (some 7) (.bin .lss (.tmp 6) (.const (.int .i64 1))) none [1]]
def l39r2 : List AOper :=
  [.mk (some 8) (.raw (Op.makeInterface 9 (.const (.string (ByteArray.mk (Array.mk [(115 : UInt8),(108 : UInt8),(105 : UInt8),(99 : UInt8),(101 : UInt8),(115 : UInt8),(46 : UInt8),(77 : UInt8),(97 : UInt8),(120 : UInt8),(58 : UInt8),(32 : UInt8),(101 : UInt8),(109 : UInt8),(112 : UInt8),(116 : UInt8),(121 : UInt8),(32 : UInt8),(108 : UInt8),(105 : UInt8),(115 : UInt8),(116 : UInt8)])))))) none [],.mk none (.raw (Op.panic (.tmp 8))) none [0]]
def l39r3 : List AOper :=
  [.mk (some 9) (.mv (.tmp 0)) none [],.mk (some 10) (.idxA 1 (.tmp 9) (.const (.int .i64 0))) none [0],.mk (some 11) (.load false 1 (.tmp 10)) none [1],.mk (some 3) (.mv (.tmp 11)) none [2,0,1,2]]
def l39r4 : List AOper :=
  [.mk (some 4) (.mv (.const (.int .i64 1))) none []]
def l39r5 : List AOper :=
  [.mk (some 12) (.mv (.tmp 4)) none [],.mk (some 13) (.mv (.tmp 0)) none [],.mk (some 14) (.len (.tmp 13)) none [1],.mk (some 15) (.bin .lss (.tmp 12) (.tmp 14)) none [0,2]]
def l39r6 : List AOper :=
  [.mk (some 18) (.mv (.tmp 3)) none [],.mk (some 19) (.mv (.tmp 0)) none [],.mk (some 20) (.mv (.tmp 4)) none [],.mk (some 21) (.idxA 1 (.tmp 19) (.tmp 20)) none [1,2],.mk (some 22) (.load false 1 (.tmp 21)) none [3],.mk (some 23) (.minmax true (.tmp 18) (.tmp 22)) none [0,4],.mk (some 3) (.mv (.tmp 23)) none [5,0,1,2,3,4,5]]
def l39r7 : List AOper :=
  [.mk (some 16) (.mv (.tmp 4)) none [],.mk (some 17) (.bin .add (.tmp 16) (.const (.int .i64 1))) none [0],.mk (some 4) (.mv (.tmp 17)) none [1,0,1]]
def l39r8 : List AOper :=
  [.mk (some 24) (.mv (.tmp 3)) none [],.mk (some 2) (.mv (.tmp 24)) none [0,0]]
def l39 : AFn :=
  (AFn.mk 25 1 (.seq (.reg l39r0) (.seq (.seq (.reg l39r1) (.cond (.tmp 7) (.reg l39r2) .skip)) (.seq (.reg l39r3) (.seq (.seq (.reg l39r4) (.block 0 (.loop (.seq (.seq (.reg l39r5) (.cond (.tmp 15) .skip (.exit 0))) (.seq (.block 1 (.reg l39r6)) (.reg l39r7)))))) (.seq (.reg l39r8) .ret))))) [.tmp 2])
theorem l39_eq : lowFn Tryd.prog 39 = some l39 := by kernel_rfl
def l40r0 : List AOper :=
  [.mk (some 2) (.mv (.const (.bool false))) none []]
def l40r1 : List AOper :=
  [.mk (some 5) (.mv (.tmp 0)) none [],.mk (some 6) (.len (.tmp 5)) none [0],.mk (some 7) (.bin .gtr (.tmp 6) (.const (.int .i64 4))) none [1]]
def l40r2 : List AOper :=
  [.mk (some 2) (.mv (.const (.bool false))) none []]
def l40r3 : List AOper :=
  [.mk (some 8) (.mv (.tmp 0)) none [],.mk (some 9) (.len (.tmp 8)) none [0],.mk (some 10) (.mv (.const (.int .i64 0))) none []]
def l40r4 : List AOper :=
  [.mk (some 11) (.bin .lss (.tmp 10) (.tmp 9)) none []]
def l40r5 : List AOper :=
  [.mk (some 12) (.idxA 1 (.tmp 8) (.tmp 10)) none [],.mk (some 13) (.load false 1 (.tmp 12)) none [0],.mk (some 4) (.mv (.tmp 13)) none [1,0,1]]
def l40r6 : List AOper :=
  [.mk (some 14) (.mv (.tmp 4)) none [],.mk (some 15) (.call 20 [.tmp 14,.const (.int .i64 60)]) none [0],.mk (some 16) (.un .not (.tmp 15)) none [1]]
def l40r7 : List AOper :=
  [.mk (some 2) (.mv (.const (.bool false))) none []]
def l40r8 : List AOper :=
  [.mk (some 17) (.bin .add (.tmp 10) (.const (.int .i64 1))) none [],.mk (some 10) (.mv (.tmp 17)) none [0]]
def l40r9 : List AOper :=
  [.mk (some 18) (.mv (.tmp 0)) none [],.mk (some 19) (.call 49 [.tmp 18]) none [0],.mk (some 20) (.bin .leq (.tmp 19) (.const (.int .i64 60))) none [1],.mk (some 2) (.mv (.tmp 20)) none [2,1,0,1,2]]
def l40 : AFn :=
  (AFn.mk 21 1 (.seq (.reg l40r0) (.seq (.seq (.reg l40r1) (.cond (.tmp 7) (.seq (.reg l40r2) .ret) .skip)) (.seq (.seq (.reg l40r3) (.block 0 (.loop (.seq (.reg l40r4) (.seq (.cond (.tmp 11) .skip (.exit 0)) (.seq (.block 1 (.seq (.reg l40r5) (.seq (.reg l40r6) (.cond (.tmp 16) (.seq (.reg l40r7) .ret) .skip)))) (.reg l40r8))))))) (.seq (.reg l40r9) .ret)))) [.tmp 2])
theorem l40_eq : lowFn Tryd.prog 40 = some l40 := by kernel_rfl
def l41r0 : List AOper :=
  [.mk (some 4) (.mv (.const (.bool false))) none []]
def l41r1 : List AOper :=
  [.mk (some 7) (.mv (.tmp 0)) none [],.mk (some 8) (.len (.tmp 7)) none [0],.mk (some 9) (.mv (.tmp 1)) none [],.mk (some 10) (.bin .neq (.tmp 8) (.tmp 9)) none [1,2]]
def l41r2 : List AOper :=
  [.mk (some 4) (.mv (.const (.bool false))) none []]
def l41r3 : List AOper :=
  [.mk (some 11) (.mv (.tmp 0)) none [],.mk (some 12) (.len (.tmp 11)) none [0],.mk (some 13) (.mv (.const (.int .i64 0))) none []]
def l41r4 : List AOper :=
  [.mk (some 14) (.bin .lss (.tmp 13) (.tmp 12)) none []]
def l41r5 : List AOper :=
  [.mk (some 15) (.idxA 1 (.tmp 11) (.tmp 13)) none [],.mk (some 16) (.load false 1 (.tmp 15)) none [0],.mk (some 6) (.mv (.tmp 16)) none [1,0,1]]
def l41r6 : List AOper :=
  [.mk (some 17) (.mv (.tmp 6)) none [],.mk (some 18) (.call 50 [.tmp 17,.const (.int .i64 60)]) none [0],.mk (some 19) (.un .not (.tmp 18)) none [1]]
def l41r7 : List AOper :=
  [.mk (some 4) (.mv (.const (.bool false))) none []]
def l41r8 : List AOper :=
  [.mk (some 20) (.bin .add (.tmp 13) (.const (.int .i64 1))) none [],.mk (some 13) (.mv (.tmp 20)) none [0]]
def l41r9 : List AOper :=
  [.mk (some 4) (.mv (.const (.bool true))) none []]
def l41 : AFn :=
  (AFn.mk 21 2 (.seq (.reg l41r0) (.seq (.seq (.reg l41r1) (.cond (.tmp 10) (.seq (.reg l41r2) .ret) .skip)) (.seq (.seq (.reg l41r3) (.block 0 (.loop (.seq (.reg l41r4) (.seq (.cond (.tmp 14) .skip (.exit 0)) (.seq (.block 1 (.seq (.reg l41r5) (.seq (.reg l41r6) (.cond (.tmp 19) (.seq (.reg l41r7) .ret) .skip)))) (.reg l41r8))))))) (.seq (.reg l41r9) .ret)))) [.tmp 4])
theorem l41_eq : lowFn Tryd.prog 41 = some l41 := by kernel_rfl
def l42r0 : List AOper :=
  [.mk (some 1) (.box (.tmp 0)) none [],.mk (some 2) (.mv (.const (.int .i64 0))) none [],.mk (some 3) (.mv (.const (.int .i64 0))) none [1]]
def l42r1 : List AOper :=
  [.mk (some 9) (.load true 3 (.tmp 1)) none [],.mk (some 10) (.call 43 [.tmp 9]) none [0],.mk (some 11) (.bin .eql (.tmp 10) (.const (.int .i64 0))) none [1]]
def l42r2 : List AOper :=
  [.mk (some 2) (.mv (.const (.int .i64 (-1)))) none [],.mk (some 3) (.mv (.const (.int .i64 (-1)))) none [0,0]]
def l42r3a : List AOper :=
  [.mk (some 12) (.fld 0 (.tmp 1)) none [],.mk (some 13) (.load false 1 (.tmp 12)) none [0],.mk (some 14) (.fld 0 (.tmp 1)) none [],.mk (some 15) (.load false 1 (.tmp 14)) none [2],.mk (some 4) (.mv (.tmp 13)) none [1,0,1]]
def l42r3b : List AOper :=
  [.mk (some 5) (.mv (.tmp 15)) none [3,4,0,1,2,3,4]]
def l42r3 : List AOper := l42r3a ++ l42r3b
def l42r4 : List AOper :=
  [.mk (some 16) (.fld 2 (.tmp 1)) none [],.mk (some 17) (.load false 1 (.tmp 16)) none [0],.mk (some 18) (.len (.tmp 17)) none [1],.mk (some 19) (.mv (.const (.int .i64 0))) none []]
def l42r5 : List AOper :=
  [.mk (some 20) (.bin .lss (.tmp 19) (.tmp 18)) none []]
def l42r6 : List AOper :=
  [.mk (some 21) (.mv (.tmp 19)) none [],.mk (some 22) (.idxA 1 (.tmp 17) (.tmp 19)) none [],.mk (some 23) (.load false 1 (.tmp 22)) none [1],.mk (some 6) (.mv (.tmp 21)) none [0,0,1,2],.mk (some 7) (.mv (.tmp 23)) none [2,3,0,1,2,3]]
def l42r7 : List AOper :=
  [.mk (some 24) (.fld 1 (.tmp 1)) none [],.mk (some 25) (.load false 1 (.tmp 24)) none [0],.mk (some 26) (.mv (.tmp 6)) none [],.mk (some 27) (.idxA 1 (.tmp 25) (.tmp 26)) none [1,2],.mk (some 28) (.load false 1 (.tmp 27)) none [3],.mk (some 29) (.bin .sub (.tmp 28) (.const (.int .i64 1))) none [4],.mk (some 30) (.mv (.tmp 7)) none [],.mk (some 31) (.bin .mul (.tmp 29) (.tmp 30)) none [5,6],.mk (some 8) (.mv (.tmp 31)) none [7,0,1,2,3,4,5,6,7]]
def l42r8 : List AOper :=
  [.mk (some 32) (.mv (.tmp 4)) none [],.mk (some 33) (.mv (.tmp 8)) none [],.mk (some 34) (.minmax false (.tmp 33) (.const (.int .i64 0))) none [1],.mk (some 35) (.bin .add (.tmp 32) (.tmp 34)) none [0,2],.mk (some 4) (.mv (.tmp 35)) none [3,0,1,2,3]]
def l42r9 : List AOper :=
  [.mk (some 36) (.mv (.tmp 5)) none [],.mk (some 37) (.mv (.tmp 8)) none [],.mk (some 38) (.minmax true (.tmp 37) (.const (.int .i64 0))) none [1],.mk (some 39) (.bin .add (.tmp 36) (.tmp 38)) none [0,2],.mk (some 5) (.mv (.tmp 39)) none [3,0,1,2,3]]
def l42r10 : List AOper :=
  [.mk (some 40) (.bin .add (.tmp 19) (.const (.int .i64 1))) none [],.mk (some 19) (.mv (.tmp 40)) none [0]]
def l42r11 : List AOper :=
  [.mk (some 41) (.mv (.tmp 4)) none [],.mk (some 42) (.mv (.tmp 5)) none [],.mk (some 2) (.mv (.tmp 41)) none [0,0],.mk (some 3) (.mv (.tmp 42)) none [1,2,0,1,2]]
def l42 : AFn :=
  (AFn.mk 43 1 (.seq (.reg l42r0) (.seq (.seq (.reg l42r1) (.cond (.tmp 11) (.seq (.reg l42r2) .ret) .skip)) (.seq (.draw l42r3) (.seq (.seq (.reg l42r4) (.block 0 (.loop (.seq (.reg l42r5) (.seq (.cond (.tmp 20) .skip (.exit 0)) (.seq (.block 1 (.seq (.reg l42r6) (.seq (.reg l42r7) (.seq (.reg l42r8) (.reg l42r9))))) (.reg l42r10))))))) (.seq (.reg l42r11) .ret))))) [.tmp 2,.tmp 3])
theorem l42_eq : lowFn Tryd.prog 42 = some l42 := by kernel_rfl
def l43r0 : List AOper :=
  [.mk (some 1) (.box (.tmp 0)) none [],.mk (some 2) (.mv (.const (.int .i64 0))) none []]
def l43r1 : List AOper :=
  [.mk (some 3) (.fld 1 (.tmp 1)) none [],.mk (some 4) (.load false 1 (.tmp 3)) none [0],.mk (some 5) (.call 49 [.tmp 4]) none [1],.mk (some 2) (.mv (.tmp 5)) none [2,2,0,1,2]]
def l43 : AFn :=
  (AFn.mk 6 1 (.seq (.reg l43r0) (.seq (.reg l43r1) .ret)) [.tmp 2])
theorem l43_eq : lowFn Tryd.prog 43 = some l43 := by kernel_rfl
def l44r0 : List AOper :=
  [.mk (some 2) (.mv (.const (.bool false))) none []]
def l44r1 : List AOper :=
  [.mk (some 3) (.mv (.tmp 0)) none [],.mk (some 4) (.len (.tmp 3)) none [0],.mk (some 5) (.bin .leq (.tmp 4) (.const (.int .i64 4))) none [1],.mk (some 6) (.mv (.tmp 5)) none [2],.mk (some 7) (.mv (.tmp 0)) (some (6,true)) [3],.mk (some 8) (.call 45 [.tmp 7,.const (.int .i64 0),.const (.int .i64 60)]) (some (6,true)) [4,3,3],.mk (some 9) (.pick (.tmp 6) (.tmp 8) (.const (.bool false))) none [3,5],.mk (some 10) (.mv (.tmp 9)) none [6,5],.mk (some 11) (.mv (.tmp 0)) (some (10,true)) [7],.mk (some 12) (.call 46 [.tmp 11]) (some (10,true)) [8,7,7],.mk (some 13) (.bin .leq (.tmp 12) (.const (.int .i64 60))) (some (10,true)) [9,7],.mk (some 14) (.pick (.tmp 10) (.tmp 13) (.const (.bool false))) none [7,10],.mk (some 2) (.mv (.tmp 14)) none [11,9,0,1,2,3,4,5,6,7,8,9,10,11]]
def l44 : AFn :=
  (AFn.mk 15 1 (.seq (.reg l44r0) (.seq (.reg l44r1) .ret)) [.tmp 2])
theorem l44_eq : lowFn Tryd.prog 44 = some l44 := by kernel_rfl
def l45r0 : List AOper :=
  [.mk (some 6) (.mv (.const (.bool false))) none []]
def l45r1 : List AOper :=
  [.mk (some 7) (.mv (.const (.int .i64 0))) none []]
def l45r2 : List AOper :=
  [.mk (some 8) (.mv (.tmp 7)) none [],.mk (some 9) (.mv (.tmp 0)) none [],.mk (some 10) (.len (.tmp 9)) none [1],.mk (some 11) (.bin .lss (.tmp 8) (.tmp 10)) none [0,2]]
def l45r3 : List AOper :=
  [.mk (some 14) (.mv (.tmp 0)) none [],.mk (some 15) (.mv (.tmp 7)) none [],.mk (some 16) (.idxA 1 (.tmp 14) (.tmp 15)) none [0,1],.mk (some 17) (.load false 1 (.tmp 16)) none [2],.mk (some 18) (.mv (.tmp 1)) none [],.mk (some 19) (.mv (.tmp 2)) none [],.mk (some 20) (.call 15 [.tmp 17,.tmp 18,.tmp 19]) none [3,4,5],.mk (some 21) (.un .not (.tmp 20)) none [6]]
def l45r4 : List AOper :=
  [.mk (some 6) (.mv (.const (.bool false))) none []]
def l45r5 : List AOper :=
  [.mk (some 12) (.mv (.tmp 7)) none [],.mk (some 13) (.bin .add (.tmp 12) (.const (.int .i64 1))) none [0],.mk (some 7) (.mv (.tmp 13)) none [1,0,1]]
def l45r6 : List AOper :=
  [.mk (some 6) (.mv (.const (.bool true))) none []]
def l45 : AFn :=
  (AFn.mk 22 3 (.seq (.reg l45r0) (.seq (.seq (.reg l45r1) (.block 0 (.loop (.seq (.seq (.reg l45r2) (.cond (.tmp 11) .skip (.exit 0))) (.seq (.block 1 (.seq (.reg l45r3) (.cond (.tmp 21) (.seq (.reg l45r4) .ret) .skip))) (.reg l45r5)))))) (.seq (.reg l45r6) .ret))) [.tmp 6])
theorem l45_eq : lowFn Tryd.prog 45 = some l45 := by kernel_rfl
def l46r0 : List AOper :=
  [.mk (some 2) (.mv (.const (.int .i64 0))) none []]
def l46r1 : List AOper :=
  [.mk (some 3) (.mv (.const (.int .i64 1))) none []]
def l46r2 : List AOper :=
  [.mk (some 4) (.mv (.const (.int .i64 0))) none []]
def l46r3 : List AOper :=
  [.mk (some 5) (.mv (.tmp 4)) none [],.mk (some 6) (.mv (.tmp 0)) none [],.mk (some 7) (.len (.tmp 6)) none [1],.mk (some 8) (.bin .lss (.tmp 5) (.tmp 7)) none [0,2]]
def l46r4 : List AOper :=
  [.mk (some 11) (.mv (.tmp 3)) none [],.mk (some 12) (.mv (.tmp 0)) none [],.mk (some 13) (.mv (.tmp 4)) none [],.mk (some 14) (.idxA 1 (.tmp 12) (.tmp 13)) none [1,2],.mk (some 15) (.load false 1 (.tmp 14)) none [3],.mk (some 16) (.bin .mul (.tmp 11) (.tmp 15)) none [0,4],.mk (some 3) (.mv (.tmp 16)) none [5,0,1,2,3,4,5]]
def l46r5 : List AOper :=
  [.mk (some 9) (.mv (.tmp 4)) none [],.mk (some 10) (.bin .add (.tmp 9) (.const (.int .i64 1))) none [0],.mk (some 4) (.mv (.tmp 10)) none [1,0,1]]
def l46r6 : List AOper :=
  [.mk (some 17) (.mv (.tmp 3)) none [],.mk (some 2) (.mv (.tmp 17)) none [0,0]]
def l46 : AFn :=
  (AFn.mk 18 1 (.seq (.reg l46r0) (.seq (.reg l46r1) (.seq (.seq (.reg l46r2) (.block 0 (.loop (.seq (.seq (.reg l46r3) (.cond (.tmp 8) .skip (.exit 0))) (.seq (.block 1 (.reg l46r4)) (.reg l46r5)))))) (.seq (.reg l46r6) .ret)))) [.tmp 2])
theorem l46_eq : lowFn Tryd.prog 46 = some l46 := by kernel_rfl
def l47r0 : List AOper :=
  [.mk (some 1) (.box (.tmp 0)) none [],.mk (some 2) (.mv (.const (.slice none 0 0))) none []]
def l47r1 : List AOper :=
  [.mk (some 5) (.bslice 1 [.int .i64 0] [] 0) none [],.mk (some 3) (.mv (.tmp 5)) none [0,0]]
def l47r2 : List AOper :=
  [.mk (some 4) (.mv (.const (.int .i64 0))) none []]
def l47r3 : List AOper :=
  [.mk (some 6) (.mv (.tmp 4)) none [],.mk (some 7) (.fld 1 (.tmp 1)) none [],.mk (some 8) (.load false 1 (.tmp 7)) none [1],.mk (some 9) (.call 46 [.tmp 8]) none [2],.mk (some 10) (.bin .lss (.tmp 6) (.tmp 9)) none [0,3]]
def l47r4a : List AOper :=
  [.mk (some 13) (.mv (.tmp 3)) none [],.mk (some 14) (.load true 3 (.tmp 1)) none [],.mk (some 15) (.fld 1 (.tmp 1)) none [],.mk (some 16) (.load false 1 (.tmp 15)) none [2],.mk (some 17) (.mv (.tmp 4)) none [],.mk (some 18) (.call 52 [.tmp 16,.tmp 17]) none [3,4],.mk (some 19) (.call 51 [.tmp 14,.tmp 18]) none [1,5,5],.mk (some 20) (.bslice 1 [.int .i64 0] [(0,.tmp 19)] 1) none [6]]
def l47r4b : List AOper :=
  [.mk (some 21) (.append 1 (.tmp 13) (.tmp 20)) none [0,7,6],.mk (some 3) (.mv (.tmp 21)) none [8,8,0,1,2,3,4,5,6,7,8]]
def l47r4 : List AOper := l47r4a ++ l47r4b
def l47r5 : List AOper :=
  [.mk (some 11) (.mv (.tmp 4)) none [],.mk (some 12) (.bin .add (.tmp 11) (.const (.int .i64 1))) none [0],.mk (some 4) (.mv (.tmp 12)) none [1,0,1]]
def l47r6 : List AOper :=
  [.mk (some 22) (.mv (.tmp 3)) none [],.mk (some 2) (.mv (.tmp 22)) none [0,0]]
def l47 : AFn :=
  (AFn.mk 23 1 (.seq (.reg l47r0) (.seq (.reg l47r1) (.seq (.seq (.reg l47r2) (.block 0 (.loop (.seq (.seq (.reg l47r3) (.cond (.tmp 10) .skip (.exit 0))) (.seq (.block 1 (.draw l47r4)) (.reg l47r5)))))) (.seq (.reg l47r6) .ret)))) [.tmp 2])
theorem l47_eq : lowFn Tryd.prog 47 = some l47 := by kernel_rfl
def l48r0 : List AOper :=
  [.mk (some 2) (.mv (.const (.slice none 0 0))) none []]
def l48r1 : List AOper :=
  [.mk (some 3) (.bslice 1 [.int .i64 0] [] 0) none [],.mk (some 4) (.mv (.tmp 0)) none [],.mk (some 5) (.append 1 (.tmp 3) (.tmp 4)) none [0,1],.mk (some 2) (.mv (.tmp 5)) none [2,2,0,1,2]]
def l48 : AFn :=
  (AFn.mk 6 1 (.seq (.reg l48r0) (.seq (.reg l48r1) .ret)) [.tmp 2])
theorem l48_eq : lowFn Tryd.prog 48 = some l48 := by kernel_rfl
def l49r0 : List AOper :=
  [.mk (some 2) (.mv (.const (.int .i64 0))) none []]
def l49r1 : List AOper :=
  [.mk (some 3) (.mv (.const (.int .i64 1))) none []]
def l49r2 : List AOper :=
  [.mk (some 6) (.mv (.tmp 0)) none [],.mk (some 7) (.len (.tmp 6)) none [0],.mk (some 8) (.mv (.const (.int .i64 0))) none []]
def l49r3 : List AOper :=
  [.mk (some 9) (.bin .lss (.tmp 8) (.tmp 7)) none []]
def l49r4 : List AOper :=
  [.mk (some 10) (.idxA 1 (.tmp 6) (.tmp 8)) none [],.mk (some 11) (.load false 1 (.tmp 10)) none [0],.mk (some 5) (.mv (.tmp 11)) none [1,0,1]]
def l49r5 : List AOper :=
  [.mk (some 12) (.mv (.tmp 3)) none [],.mk (some 13) (.mv (.tmp 5)) none [],.mk (some 14) (.bin .mul (.tmp 12) (.tmp 13)) none [0,1],.mk (some 3) (.mv (.tmp 14)) none [2,0,1,2]]
def l49r6 : List AOper :=
  [.mk (some 15) (.bin .add (.tmp 8) (.const (.int .i64 1))) none [],.mk (some 8) (.mv (.tmp 15)) none [0]]
def l49r7 : List AOper :=
  [.mk (some 16) (.mv (.tmp 3)) none [],.mk (some 2) (.mv (.tmp 16)) none [0,0]]
def l49 : AFn :=
  (AFn.mk 17 1 (.seq (.reg l49r0) (.seq (.reg l49r1) (.seq (.seq (.reg l49r2) (.block 0 (.loop (.seq (.reg l49r3) (.seq (.cond (.tmp 9) .skip (.exit 0)) (.seq (.block 1 (.seq (.reg l49r4) (.reg l49r5))) (.reg l49r6))))))) (.seq (.reg l49r7) .ret)))) [.tmp 2])
theorem l49_eq : lowFn Tryd.prog 49 = some l49 := by kernel_rfl
def l50r0 : List AOper :=
  [.mk (some 4) (.mv (.const (.bool false))) none []]
def l50r1 : List AOper :=
  [.mk (some 5) (.mv (.tmp 1)) none [],.mk (some 6) (.un .neg (.tmp 5)) none [0],.mk (some 7) (.mv (.tmp 0)) none [],.mk (some 8) (.bin .leq (.tmp 6) (.tmp 7)) none [1,2],.mk (some 9) (.mv (.tmp 8)) none [3],.mk (some 10) (.mv (.tmp 0)) (some (9,true)) [4],.mk (some 11) (.mv (.tmp 1)) (some (9,true)) [4],.mk (some 12) (.bin .leq (.tmp 10) (.tmp 11)) (some (9,true)) [5,6,4],.mk (some 13) (.pick (.tmp 9) (.tmp 12) (.const (.bool false))) none [4,7],.mk (some 4) (.mv (.tmp 13)) none [8,4,0,1,2,3,4,5,6,7,8]]
def l50 : AFn :=
  (AFn.mk 14 2 (.seq (.reg l50r0) (.seq (.reg l50r1) .ret)) [.tmp 4])
theorem l50_eq : lowFn Tryd.prog 50 = some l50 := by kernel_rfl
def l51r0 : List AOper :=
  [.mk (some 2) (.box (.tmp 0)) none [],.mk (some 4) (.mv (.const (.int .i64 0))) none []]
def l51r1 : List AOper :=
  [.mk (some 7) (.fld 0 (.tmp 2)) none [],.mk (some 8) (.load false 1 (.tmp 7)) none [0],.mk (some 5) (.mv (.tmp 8)) none [1,0,1]]
def l51r2 : List AOper :=
  [.mk (some 6) (.mv (.const (.int .i64 0))) none []]
def l51r3 : List AOper :=
  [.mk (some 9) (.mv (.tmp 6)) none [],.mk (some 10) (.mv (.tmp 1)) none [],.mk (some 11) (.len (.tmp 10)) none [1],.mk (some 12) (.bin .lss (.tmp 9) (.tmp 11)) none [0,2]]
def l51r4a : List AOper :=
  [.mk (some 15) (.mv (.tmp 5)) none [],.mk (some 16) (.mv (.tmp 1)) none [],.mk (some 17) (.mv (.tmp 6)) none [],.mk (some 18) (.idxA 1 (.tmp 16) (.tmp 17)) none [1,2],.mk (some 19) (.load false 1 (.tmp 18)) none [3],.mk (some 20) (.fld 2 (.tmp 2)) none [],.mk (some 21) (.load false 1 (.tmp 20)) none [5],.mk (some 22) (.mv (.tmp 6)) none [],.mk (some 23) (.idxA 1 (.tmp 21) (.tmp 22)) none [6,7],.mk (some 24) (.load false 1 (.tmp 23)) none [8],.mk (some 25) (.bin .mul (.tmp 19) (.tmp 24)) none [4,9]]
def l51r4b : List AOper :=
  [.mk (some 26) (.bin .add (.tmp 15) (.tmp 25)) none [0,10],.mk (some 5) (.mv (.tmp 26)) none [11,0,1,2,3,4,5,6,7,8,9,10,11]]
def l51r4 : List AOper := l51r4a ++ l51r4b
def l51r5 : List AOper :=
  [.mk (some 13) (.mv (.tmp 6)) none [],.mk (some 14) (.bin .add (.tmp 13) (.const (.int .i64 1))) none [0],.mk (some 6) (.mv (.tmp 14)) none [1,0,1]]
def l51r6 : List AOper :=
  [.mk (some 27) (.mv (.tmp 5)) none [],.mk (some 4) (.mv (.tmp 27)) none [0,0]]
def l51 : AFn :=
  (AFn.mk 28 2 (.seq (.reg l51r0) (.seq (.reg l51r1) (.seq (.seq (.reg l51r2) (.block 0 (.loop (.seq (.seq (.reg l51r3) (.cond (.tmp 12) .skip (.exit 0))) (.seq (.block 1 (.draw l51r4)) (.reg l51r5)))))) (.seq (.reg l51r6) .ret)))) [.tmp 4])
theorem l51_eq : lowFn Tryd.prog 51 = some l51 := by kernel_rfl
def l52r0 : List AOper :=
  [.mk (some 4) (.mv (.const (.slice none 0 0))) none []]
def l52r1 : List AOper :=
  [.mk (some 7) (.mv (.tmp 0)) none [],.mk (some 8) (.len (.tmp 7)) none [0],.mk (some 9) (.mkslice 1 [.int .i64 0] (.tmp 8) (.tmp 8)) none [1,1],.mk (some 5) (.mv (.tmp 9)) none [2,0,1,2]]
def l52r2 : List AOper :=
  [.mk (some 10) (.mv (.tmp 0)) none [],.mk (some 11) (.len (.tmp 10)) none [0],.mk (some 12) (.bin .sub (.tmp 11) (.const (.int .i64 1))) none [1],.mk (some 6) (.mv (.tmp 12)) none [2,0,1,2]]
def l52r3 : List AOper :=
  [.mk (some 13) (.mv (.tmp 6)) none [],.mk (some 14) (.bin .geq (.tmp 13) (.const (.int .i64 0))) none [0]]
def l52r4 : List AOper :=
  [.mk (some 17) (.mv (.tmp 5)) none [],.mk (some 18) (.mv (.tmp 6)) none [],.mk (some 19) (.mv (.tmp 1)) none [],.mk (some 20) (.mv (.tmp 0)) none [],.mk (some 21) (.mv (.tmp 6)) none [],.mk (some 22) (.idxA 1 (.tmp 20) (.tmp 21)) none [3,4],.mk (some 23) (.load false 1 (.tmp 22)) none [5],.mk (some 24) (.bin .rem (.tmp 19) (.tmp 23)) none [2,6],.mk (some 25) (.idxA 1 (.tmp 17) (.tmp 18)) none [0,1,0,1,2,3,4,5,6,7],.mk none (.store 1 (.tmp 25) (.tmp 24)) none [8,7,0,1,2,3,4,5,6,7]]
def l52r5 : List AOper :=
  [.mk (some 26) (.mv (.tmp 1)) none [],.mk (some 27) (.mv (.tmp 0)) none [],.mk (some 28) (.mv (.tmp 6)) none [],.mk (some 29) (.idxA 1 (.tmp 27) (.tmp 28)) none [1,2],.mk (some 30) (.load false 1 (.tmp 29)) none [3],.mk (some 31) (.bin .quo (.tmp 26) (.tmp 30)) none [0,4],.mk (some 1) (.mv (.tmp 31)) none [5,0,1,2,3,4,5]]
def l52r6 : List AOper :=
  [.mk (some 15) (.mv (.tmp 6)) none [],.mk (some 16) (.bin .sub (.tmp 15) (.const (.int .i64 1))) none [0],.mk (some 6) (.mv (.tmp 16)) none [1,0,1]]
def l52r7 : List AOper :=
  [.mk (some 32) (.mv (.tmp 5)) none [],.mk (some 4) (.mv (.tmp 32)) none [0,0]]
def l52 : AFn :=
  (AFn.mk 33 2 (.seq (.reg l52r0) (.seq (.reg l52r1) (.seq (.seq (.reg l52r2) (.block 0 (.loop (.seq (.seq (.reg l52r3) (.cond (.tmp 14) .skip (.exit 0))) (.seq (.block 1 (.seq (.reg l52r4) (.reg l52r5))) (.reg l52r6)))))) (.seq (.reg l52r7) .ret)))) [.tmp 4])
theorem l52_eq : lowFn Tryd.prog 52 = some l52 := by kernel_rfl
end Go.Proofs.YtmoepaingfjojaaDoor
