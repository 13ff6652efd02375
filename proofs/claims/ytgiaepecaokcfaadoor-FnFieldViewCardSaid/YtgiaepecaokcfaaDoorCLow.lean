import Derived.Test.YtgiaepecaokcfaaDoorCW3
import Derived.Test.YtgiaepecaokcfaaDoorProg
import Derived.KernelRfl
set_option maxRecDepth 100000
namespace Go.Proofs.YtgiaepecaokcfaaDoor
open Vw Go
instance globs:Inhabited GlobT:=⟨⟨[(0,[.int .i64 1,.int .i64 2,.int .i64 4])]⟩⟩
attribute [push_cast] Bool.false_eq_true List.length_replicate
attribute [bitvec_to_nat] decide_eq_true_eq decide_eq_false_iff_not Bool.not_eq_true' Bool.not_eq_false' Bool.and_eq_true Bool.or_eq_true Bool.and_eq_false_iff Bool.or_eq_false_iff Int.not_le Int.not_lt bne_iff_ne ne_eq beq_iff_eq Bool.not_eq_true Bool.not_eq_false
theorem sd {P:Prop} (h:P:=by first|assumption|rfl|omega|(simp<;>omega)|(simp_all<;>omega)):P:=h
def l3r0:List AOper :=
  [.mk (some 2) (.mv (.const (.bool false))) none []]
def l3r1:List AOper :=
  [.mk (some 13) (.mv (.tmp 0)) none [],.mk (some 14) (.len (.tmp 13)) none [0],.mk (some 15) (.bin .gtr (.tmp 14) (.const (.int .i64 1048576))) none [1]]
def l3r2:List AOper :=
  [.mk (some 2) (.mv (.const (.bool true))) none []]
def l3r3:List AOper :=
  [.mk (some 17) (.mv (.tmp 0)) none [],.mk (some 18) (.call 4 [.tmp 17]) none [0],.mk (some 16) (.mv (.tmp 18)) none [1],.mk (some 19) (.extract (.tmp 16) 0) none [2],.mk (some 20) (.extract (.tmp 16) 1) none [2],.mk (some 21) (.extract (.tmp 16) 2) none [2],.mk (some 3) (.alloc [.slice none 0 0,.bool false,.bool false]) none [],.mk none (.store 3 (.tmp 3) (.tmp 19)) none [6,3,1,0,1,2,3,6],.mk (some 4) (.mv (.tmp 20)) none [4,7,0,1,2,3,4,6,7],.mk (some 5) (.mv (.tmp 21)) none [5,8,0,1,2,3,4,5,6,7,8]]
def l3r4:List AOper :=
  [.mk (some 23) (.load true 3 (.tmp 3)) none [],.mk (some 24) (.mv (.tmp 4)) none [],.mk (some 25) (.mv (.tmp 5)) none [],.mk (some 26) (.call 5 [.tmp 23,.tmp 24,.tmp 25]) none [0,1,2],.mk (some 22) (.mv (.tmp 26)) none [3],.mk (some 27) (.extract (.tmp 22) 0) none [4],.mk (some 28) (.extract (.tmp 22) 1) none [4],.mk (some 6) (.alloc [.int .i64 0,.slice none 0 0,.slice none 0 0]) none [],.mk none (.store 3 (.tmp 6) (.tmp 27)) none [7,5,3,0,1,2,3,4,5,7],.mk (some 7) (.mv (.tmp 28)) none [6,8,0,1,2,3,4,5,6,7,8]]
def l3r5:List AOper :=
  [.mk (some 30) (.load true 3 (.tmp 3)) none [],.mk (some 31) (.mv (.tmp 4)) none [],.mk (some 32) (.mv (.tmp 5)) none [],.mk (some 33) (.call 6 [.tmp 30,.tmp 31,.tmp 32]) none [0,1,2],.mk (some 29) (.mv (.tmp 33)) none [3],.mk (some 34) (.extract (.tmp 29) 0) none [4],.mk (some 35) (.extract (.tmp 29) 1) none [4],.mk (some 8) (.alloc [.int .i64 0,.slice none 0 0,.slice none 0 0]) none [],.mk none (.store 3 (.tmp 8) (.tmp 34)) none [7,5,3,0,1,2,3,4,5,7],.mk (some 9) (.mv (.tmp 35)) none [6,8,0,1,2,3,4,5,6,7,8]]
def l3r6:List AOper :=
  [.mk (some 36) (.load true 3 (.tmp 6)) none [],.mk (some 37) (.load true 3 (.tmp 8)) none [],.mk (some 38) (.call 7 [.tmp 36,.tmp 37]) none [0,1],.mk (some 39) (.un .not (.tmp 38)) none [2],.mk (some 40) (.mv (.tmp 39)) none [3,2],.mk (some 41) (.mv (.tmp 7)) (some (40,false)) [4],.mk (some 42) (.mv (.tmp 9)) (some (40,false)) [4],.mk (some 43) (.binB .neq (.tmp 41) (.tmp 42)) (some (40,false)) [5,6,4],.mk (some 44) (.pick (.tmp 40) (.const (.bool true)) (.tmp 43)) none [4,7],.mk (some 45) (.mv (.tmp 44)) none [8,4],.mk (some 46) (.mv (.tmp 7)) (some (45,false)) [9],.mk (some 47) (.un .not (.tmp 46)) (some (45,false)) [10,9],.mk (some 48) (.pick (.tmp 45) (.const (.bool true)) (.tmp 47)) none [9,11]]
def l3r7:List AOper :=
  [.mk (some 49) (.load true 3 (.tmp 6)) none [],.mk (some 50) (.load true 3 (.tmp 8)) none [],.mk (some 51) (.call 7 [.tmp 49,.tmp 50]) none [0,1],.mk (some 52) (.mv (.tmp 51)) none [2,2],.mk (some 53) (.mv (.tmp 7)) (some (52,true)) [3],.mk (some 54) (.mv (.tmp 9)) (some (52,true)) [3],.mk (some 55) (.binB .eql (.tmp 53) (.tmp 54)) (some (52,true)) [4,5,3],.mk (some 56) (.pick (.tmp 52) (.tmp 55) (.const (.bool false))) none [3,6],.mk (some 2) (.mv (.tmp 56)) none [7,3,0,1,2,3,4,5,6,7]]
def l3r8:List AOper :=
  [.mk (some 10) (.mv (.const (.int .i64 0))) none []]
def l3r9:List AOper :=
  [.mk (some 57) (.mv (.tmp 10)) none [],.mk (some 58) (.fld 0 (.tmp 3)) none [],.mk (some 59) (.load false 1 (.tmp 58)) none [1],.mk (some 60) (.len (.tmp 59)) none [2],.mk (some 61) (.bin .lss (.tmp 57) (.tmp 60)) none [0,3]]
def l3r10:List AOper :=
  [.mk (some 65) (.load true 3 (.tmp 3)) none [],.mk (some 66) (.mv (.tmp 10)) none [],.mk (some 67) (.mv (.tmp 5)) none [],.mk (some 68) (.call 5 [.tmp 65,.tmp 66,.tmp 67]) none [0,1,2],.mk (some 64) (.mv (.tmp 68)) none [3],.mk (some 69) (.extract (.tmp 64) 0) none [4],.mk (some 70) (.extract (.tmp 64) 1) none [4],.mk (some 11) (.alloc [.int .i64 0,.slice none 0 0,.slice none 0 0]) none [],.mk none (.store 3 (.tmp 11) (.tmp 69)) none [7,5,3,0,1,2,3,4,5,7],.mk (some 12) (.mv (.tmp 70)) none [6,8,0,1,2,3,4,5,6,7,8]]
def l3r11:List AOper :=
  [.mk (some 71) (.mv (.tmp 10)) none [],.mk (some 72) (.mv (.tmp 4)) none [],.mk (some 73) (.bin .neq (.tmp 71) (.tmp 72)) none [0,1],.mk (some 74) (.mv (.tmp 73)) none [2],.mk (some 75) (.mv (.tmp 12)) (some (74,true)) [3],.mk (some 76) (.pick (.tmp 74) (.tmp 75) (.const (.bool false))) none [3,4],.mk (some 77) (.mv (.tmp 76)) none [5,3],.mk (some 78) (.load true 3 (.tmp 6)) (some (77,true)) [6],.mk (some 79) (.load true 3 (.tmp 11)) (some (77,true)) [6],.mk (some 80) (.call 8 [.tmp 78,.tmp 79]) (some (77,true)) [7,8,6,6],.mk (some 81) (.pick (.tmp 77) (.tmp 80) (.const (.bool false))) none [6,9]]
def l3r12:List AOper :=
  [.mk (some 2) (.mv (.const (.bool false))) none []]
def l3r13:List AOper :=
  [.mk (some 62) (.mv (.tmp 10)) none [],.mk (some 63) (.bin .add (.tmp 62) (.const (.int .i64 1))) none [0],.mk (some 10) (.mv (.tmp 63)) none [1,0,1]]
def l3r14a:List AOper :=
  [.mk (some 82) (.load true 3 (.tmp 6)) none [],.mk (some 83) (.call 9 [.tmp 82]) none [0],.mk (some 84) (.mv (.tmp 83)) none [1,1],.mk (some 85) (.fld 1 (.tmp 6)) (some (84,true)) [2],.mk (some 86) (.load false 1 (.tmp 85)) (some (84,true)) [3,2],.mk (some 87) (.call 10 [.tmp 86]) (some (84,true)) [4,2,2],.mk (some 88) (.mv (.tmp 5)) (some (84,true)) [2],.mk (some 89) (.fld 0 (.tmp 3)) (some (84,true)) [2],.mk (some 90) (.load false 1 (.tmp 89)) (some (84,true)) [7,2],.mk (some 91) (.mv (.tmp 4)) (some (84,true)) [2],.mk (some 92) (.idxA 1 (.tmp 90) (.tmp 91)) (some (84,true)) [8,9,2],.mk (some 93) (.load false 1 (.tmp 92)) (some (84,true)) [10,2],.mk (some 94) (.bin .mul (.tmp 88) (.tmp 93)) (some (84,true)) [6,11,2]]
def l3r14b:List AOper :=
  [.mk (some 95) (.bin .eql (.tmp 87) (.tmp 94)) (some (84,true)) [5,12,2],.mk (some 96) (.pick (.tmp 84) (.tmp 95) (.const (.bool false))) none [2,13],.mk (some 2) (.mv (.tmp 96)) none [14,5,0,1,2,3,4,5,6,7,8,9,10,11,12,13,14]]
def l3r14:List AOper:=l3r14a ++ l3r14b
def l3:AFn :=
  (AFn.mk 97 1 (.seq (.reg l3r0) (.seq (.seq (.reg l3r1) (.cond (.tmp 15) (.seq (.reg l3r2) .ret) .skip)) (.seq (.reg l3r3) (.seq (.reg l3r4) (.seq (.reg l3r5) (.seq (.seq (.reg l3r6) (.cond (.tmp 48) (.seq (.reg l3r7) .ret) .skip)) (.seq (.seq (.reg l3r8) (.block 0 (.loop (.seq (.seq (.reg l3r9) (.cond (.tmp 61) .skip (.exit 0))) (.seq (.block 1 (.seq (.reg l3r10) (.seq (.reg l3r11) (.cond (.tmp 81) (.seq (.reg l3r12) .ret) .skip)))) (.reg l3r13)))))) (.seq (.draw l3r14) .ret)))))))) [.tmp 2])
theorem l3_eq:lowFn Tryd.prog 3=some l3:=by kernel_rfl
def l4r0:List AOper :=
  [.mk (some 2) (.alloc [.slice none 0 0,.bool false,.bool false]) none [],.mk (some 3) (.mv (.const (.int .i64 0))) none [],.mk (some 4) (.mv (.const (.int .i64 0))) none [1]]
def l4r1:List AOper :=
  [.mk (some 7) (.mv (.tmp 0)) none [],.mk (some 8) (.call 11 [.tmp 7]) none [0],.mk (some 5) (.mv (.tmp 8)) none [1,1,0,1]]
def l4r2:List AOper :=
  [.mk (some 9) (.mv (.tmp 5)) none [],.mk (some 10) (.call 12 [.tmp 9]) none [0],.mk (some 6) (.alloc [.slice none 0 0,.bool false,.bool false]) none [],.mk none (.store 3 (.tmp 6) (.tmp 10)) none [2,1,1,0,1,2]]
def l4r3a:List AOper :=
  [.mk (some 11) (.load true 3 (.tmp 6)) none [],.mk (some 12) (.mv (.tmp 5)) none [],.mk (some 13) (.mv (.tmp 5)) none [],.mk (some 14) (.fld 0 (.tmp 6)) none [],.mk (some 15) (.load false 1 (.tmp 14)) none [3],.mk (some 16) (.len (.tmp 15)) none [4],.mk (some 17) (.bin .add (.tmp 16) (.const (.int .i64 1))) none [5],.mk (some 18) (.call 14 [.tmp 13,.tmp 17]) none [2,6],.mk (some 19) (.bslice 1 [.int .i64 0] [(0,.const (.int .i64 0)),(1,.const (.int .i64 1)),(2,.tmp 18),(3,.const (.int .i64 (-1)))] 4) none [7],.mk (some 20) (.call 13 [.tmp 12,.tmp 19]) none [1,8,7],.mk (some 21) (.mv (.tmp 5)) none [],.mk (some 22) (.bslice 1 [.int .i64 0] [(0,.const (.int .i64 2)),(1,.const (.int .i64 3)),(2,.const (.int .i64 1)),(3,.const (.int .i64 0)),(4,.const (.int .i64 20))] 5) none [],.mk (some 23) (.call 13 [.tmp 21,.tmp 22]) none [10,11,9]]
def l4r3b:List AOper :=
  [.mk none (.store 3 (.tmp 2) (.tmp 11)) none [0,12,0],.mk (some 3) (.mv (.tmp 20)) none [9,13,0,1,2,3,4,5,6,7,8,9,13],.mk (some 4) (.mv (.tmp 23)) none [12,14,0,1,2,3,4,5,6,7,8,9,10,11,12,13,14]]
def l4r3:List AOper:=l4r3a ++ l4r3b
def l4:AFn :=
  (AFn.mk 24 1 (.seq (.reg l4r0) (.seq (.reg l4r1) (.seq (.reg l4r2) (.seq (.draw l4r3) .ret)))) [.cell 2 true 3,.tmp 3,.tmp 4])
theorem l4_eq:lowFn Tryd.prog 4=some l4:=by kernel_rfl
def l5r0:List AOper :=
  [.mk (some 3) (.box (.tmp 0)) none [],.mk (some 6) (.alloc [.int .i64 0,.slice none 0 0,.slice none 0 0]) none [],.mk (some 7) (.mv (.const (.bool false))) none []]
def l5r1:List AOper :=
  [.mk (some 12) (.load true 3 (.tmp 3)) none [],.mk (some 13) (.call 15 [.tmp 12]) none [0],.mk (some 14) (.un .not (.tmp 13)) none [1],.mk (some 15) (.mv (.tmp 14)) none [2,1],.mk (some 16) (.mv (.tmp 1)) (some (15,false)) [3],.mk (some 17) (.fld 0 (.tmp 3)) (some (15,false)) [3],.mk (some 18) (.load false 1 (.tmp 17)) (some (15,false)) [5,3],.mk (some 19) (.len (.tmp 18)) (some (15,false)) [6,3],.mk (some 20) (.bin .sub (.tmp 19) (.const (.int .i64 1))) (some (15,false)) [7,3],.mk (some 21) (.call 16 [.tmp 16,.tmp 20]) (some (15,false)) [4,8,3,3],.mk (some 22) (.un .not (.tmp 21)) (some (15,false)) [9,3],.mk (some 23) (.pick (.tmp 15) (.const (.bool true)) (.tmp 22)) none [3,10],.mk (some 24) (.mv (.tmp 23)) none [11,9],.mk (some 25) (.mv (.tmp 2)) (some (24,false)) [12],.mk (some 26) (.bin .lss (.tmp 25) (.const (.int .i64 1))) (some (24,false)) [13,12],.mk (some 27) (.pick (.tmp 24) (.const (.bool true)) (.tmp 26)) none [12,14]]
def l5r2:List AOper :=
  [.mk (some 28) (.build [.int .i64 0,.slice none 0 0,.slice none 0 0] []) none [],.mk none (.store 3 (.tmp 6) (.tmp 28)) none [0,0],.mk (some 7) (.mv (.const (.bool false))) none [1,0,1]]
def l5r3a:List AOper :=
  [.mk (some 29) (.load true 3 (.tmp 3)) none [],.mk (some 30) (.call 17 [.tmp 29]) none [0],.mk (some 31) (.mv (.tmp 1)) none [],.mk (some 32) (.idxA 2 (.tmp 30) (.tmp 31)) none [1,2],.mk (some 33) (.load true 2 (.tmp 32)) none [3],.mk (some 34) (.load true 3 (.tmp 3)) none [],.mk (some 35) (.call 18 [.tmp 34]) none [5,1],.mk (some 8) (.alloc [.int .i64 0,.int .i64 0]) none [],.mk (some 9) (.alloc [.nilFunc]) none []]
def l5r3b:List AOper :=
  [.mk none (.store 2 (.tmp 8) (.tmp 33)) none [7,4,6,0,1,2,3,4,7,8],.mk none (.store 1 (.tmp 9) (.tmp 35)) none [8,6,9,0,1,2,3,4,5,6,7,8,9]]
def l5r3:List AOper:=l5r3a ++ l5r3b
def l5r4:List AOper :=
  [.mk (some 36) (.load true 1 (.tmp 9)) none [],.mk (some 37) (.load true 2 (.tmp 8)) none [],.mk (some 38) (.call 19 [.tmp 36,.tmp 37,.const (.int .i64 0)]) none [0,1],.mk (some 10) (.mv (.tmp 38)) none [2,2,0,1,2]]
def l5r5a:List AOper :=
  [.mk (some 39) (.mv (.tmp 10)) none [],.mk (some 40) (.mv (.tmp 2)) none [],.mk (some 41) (.fld 1 (.tmp 8)) none [],.mk (some 42) (.load false 1 (.tmp 41)) none [2],.mk (some 43) (.bslice 1 [.int .i64 0] [(0,.tmp 40),(1,.tmp 42)] 2) none [1,3],.mk (some 44) (.call 20 [.tmp 43]) none [4],.mk (some 45) (.load true 3 (.tmp 3)) none [],.mk (some 46) (.call 21 [.tmp 45]) none [6,5],.mk (some 47) (.load true 1 (.tmp 9)) none [],.mk (some 48) (.load true 2 (.tmp 8)) none [],.mk (some 49) (.call 19 [.tmp 47,.tmp 48,.const (.int .i64 1)]) none [8,9,7],.mk (some 50) (.mv (.tmp 10)) none [],.mk (some 51) (.bin .sub (.tmp 49) (.tmp 50)) none [10,11],.mk (some 52) (.bslice 1 [.int .i64 0] [(0,.tmp 46),(1,.tmp 51)] 2) none [7,12],.mk (some 53) (.build [.int .i64 0,.slice none 0 0,.slice none 0 0] [(0,1,.tmp 39),(1,1,.tmp 44),(2,1,.tmp 52)]) none [0,5,13],.mk (some 11) (.alloc [.int .i64 0,.slice none 0 0,.slice none 0 0]) none []]
def l5r5b:List AOper :=
  [.mk none (.store 3 (.tmp 11) (.tmp 53)) none [15,14,10,0,1,2,3,4,5,6,7,8,9,10,11,12,13,14,15]]
def l5r5:List AOper:=l5r5a ++ l5r5b
def l5r6:List AOper :=
  [.mk (some 54) (.load true 3 (.tmp 11)) none [],.mk (some 55) (.call 22 [.tmp 54]) none [0],.mk (some 56) (.un .not (.tmp 55)) none [1]]
def l5r7:List AOper :=
  [.mk (some 57) (.build [.int .i64 0,.slice none 0 0,.slice none 0 0] []) none [],.mk none (.store 3 (.tmp 6) (.tmp 57)) none [0,0],.mk (some 7) (.mv (.const (.bool false))) none [1,0,1]]
def l5r8:List AOper :=
  [.mk (some 58) (.load true 3 (.tmp 11)) none [],.mk none (.store 3 (.tmp 6) (.tmp 58)) none [0,0],.mk (some 7) (.mv (.const (.bool true))) none [1,0,1]]
def l5:AFn :=
  (AFn.mk 59 3 (.seq (.reg l5r0) (.seq (.seq (.reg l5r1) (.cond (.tmp 27) (.seq (.reg l5r2) .ret) .skip)) (.seq (.draw l5r3) (.seq (.reg l5r4) (.seq (.draw l5r5) (.seq (.seq (.reg l5r6) (.cond (.tmp 56) (.seq (.reg l5r7) .ret) .skip)) (.seq (.reg l5r8) .ret))))))) [.cell 6 true 3,.tmp 7])
theorem l5_eq:lowFn Tryd.prog 5=some l5:=by kernel_rfl
def l6r0:List AOper :=
  [.mk (some 3) (.box (.tmp 0)) none [],.mk (some 6) (.alloc [.int .i64 0,.slice none 0 0,.slice none 0 0]) none [],.mk (some 7) (.mv (.const (.bool false))) none []]
def l6r1:List AOper :=
  [.mk (some 11) (.load true 3 (.tmp 3)) none [],.mk (some 12) (.call 23 [.tmp 11]) none [0],.mk (some 13) (.un .not (.tmp 12)) none [1],.mk (some 14) (.mv (.tmp 13)) none [2,1],.mk (some 15) (.mv (.tmp 1)) (some (14,false)) [3],.mk (some 16) (.fld 0 (.tmp 3)) (some (14,false)) [3],.mk (some 17) (.load false 1 (.tmp 16)) (some (14,false)) [5,3],.mk (some 18) (.len (.tmp 17)) (some (14,false)) [6,3],.mk (some 19) (.bin .sub (.tmp 18) (.const (.int .i64 1))) (some (14,false)) [7,3],.mk (some 20) (.call 24 [.tmp 15,.const (.int .i64 0),.tmp 19]) (some (14,false)) [4,8,3,3],.mk (some 21) (.un .not (.tmp 20)) (some (14,false)) [9,3],.mk (some 22) (.pick (.tmp 14) (.const (.bool true)) (.tmp 21)) none [3,10],.mk (some 23) (.mv (.tmp 22)) none [11,9],.mk (some 24) (.mv (.tmp 2)) (some (23,false)) [12],.mk (some 25) (.call 24 [.tmp 24,.const (.int .i64 1),.const (.int .i64 60)]) (some (23,false)) [13,12,12],.mk (some 26) (.un .not (.tmp 25)) (some (23,false)) [14,12],.mk (some 27) (.pick (.tmp 23) (.const (.bool true)) (.tmp 26)) none [12,15]]
def l6r2:List AOper :=
  [.mk (some 28) (.build [.int .i64 0,.slice none 0 0,.slice none 0 0] []) none [],.mk none (.store 3 (.tmp 6) (.tmp 28)) none [0,0],.mk (some 7) (.mv (.const (.bool false))) none [1,0,1]]
def l6r3:List AOper :=
  [.mk (some 30) (.load true 3 (.tmp 3)) none [],.mk (some 31) (.call 25 [.tmp 30]) none [0],.mk (some 29) (.mv (.tmp 31)) none [1],.mk (some 32) (.extract (.tmp 29) 0) none [2],.mk (some 33) (.extract (.tmp 29) 1) none [2],.mk (some 8) (.mv (.tmp 32)) none [3,1,0,1,2,3],.mk (some 9) (.mv (.tmp 33)) none [4,5,0,1,2,3,4,5]]
def l6r4a:List AOper :=
  [.mk (some 34) (.mv (.tmp 8)) none [],.mk (some 35) (.mv (.tmp 1)) none [],.mk (some 36) (.idxA 1 (.tmp 34) (.tmp 35)) none [0,1],.mk (some 37) (.load false 1 (.tmp 36)) none [2],.mk (some 38) (.mv (.tmp 2)) none [],.mk (some 39) (.fld 0 (.tmp 3)) none [],.mk (some 40) (.load false 1 (.tmp 39)) none [5],.mk (some 41) (.mv (.tmp 1)) none [],.mk (some 42) (.idxA 1 (.tmp 40) (.tmp 41)) none [6,7],.mk (some 43) (.load false 1 (.tmp 42)) none [8],.mk (some 44) (.bslice 1 [.int .i64 0] [(0,.tmp 38),(1,.tmp 43)] 2) none [4,9],.mk (some 45) (.mv (.tmp 9)) none [],.mk (some 46) (.bslice 1 [.int .i64 0] [(0,.tmp 45),(1,.const (.int .i64 1))] 2) none [11],.mk (some 47) (.build [.int .i64 0,.slice none 0 0,.slice none 0 0] [(0,1,.tmp 37),(1,1,.tmp 44),(2,1,.tmp 46)]) none [3,10,12],.mk (some 10) (.alloc [.int .i64 0,.slice none 0 0,.slice none 0 0]) none []]
def l6r4b:List AOper :=
  [.mk none (.store 3 (.tmp 10) (.tmp 47)) none [14,13,0,1,2,3,4,5,6,7,8,9,10,11,12,13,14]]
def l6r4:List AOper:=l6r4a ++ l6r4b
def l6r5:List AOper :=
  [.mk (some 48) (.fld 1 (.tmp 3)) none [],.mk (some 49) (.load false 1 (.tmp 48)) none [0]]
def l6r6a:List AOper :=
  [.mk (some 50) (.mv (.tmp 8)) none [],.mk (some 51) (.mv (.tmp 1)) none [],.mk (some 52) (.idxA 1 (.tmp 50) (.tmp 51)) none [0,1],.mk (some 53) (.load false 1 (.tmp 52)) none [2],.mk (some 54) (.fld 0 (.tmp 3)) none [],.mk (some 55) (.load false 1 (.tmp 54)) none [4],.mk (some 56) (.mv (.tmp 1)) none [],.mk (some 57) (.idxA 1 (.tmp 55) (.tmp 56)) none [5,6],.mk (some 58) (.load false 1 (.tmp 57)) none [7]]
def l6r6b:List AOper :=
  [.mk (some 59) (.bin .add (.tmp 53) (.tmp 58)) none [3,8],.mk (some 60) (.bin .sub (.tmp 59) (.const (.int .i64 1))) none [9],.mk (some 61) (.fld 0 (.tmp 10)) none [0,1,2,3,4,5,6,7,8,9,10],.mk none (.store 1 (.tmp 61) (.tmp 60)) none [11,10,0,1,2,3,4,5,6,7,8,9,10]]
def l6r6:List AOper:=l6r6a ++ l6r6b
def l6r7:List AOper :=
  [.mk (some 62) (.fld 2 (.tmp 10)) none [],.mk (some 63) (.load false 1 (.tmp 62)) none [0],.mk (some 64) (.idxA 1 (.tmp 63) (.const (.int .i64 1))) none [1,0,1],.mk none (.store 1 (.tmp 64) (.const (.int .i64 (-1)))) none [2,0,1]]
def l6r8:List AOper :=
  [.mk (some 65) (.load true 3 (.tmp 10)) none [],.mk (some 66) (.call 26 [.tmp 65]) none [0],.mk (some 67) (.extract (.tmp 66) 0) none [1],.mk (some 68) (.extract (.tmp 66) 1) none [1],.mk none (.store 3 (.tmp 6) (.tmp 67)) none [2,1,0,1,2,3],.mk (some 7) (.mv (.tmp 68)) none [3,4,0,1,2,3,4]]
def l6:AFn :=
  (AFn.mk 69 3 (.seq (.reg l6r0) (.seq (.seq (.reg l6r1) (.cond (.tmp 27) (.seq (.reg l6r2) .ret) .skip)) (.seq (.reg l6r3) (.seq (.draw l6r4) (.seq (.seq (.reg l6r5) (.cond (.tmp 49) (.seq (.draw l6r6) (.reg l6r7)) .skip)) (.seq (.reg l6r8) .ret)))))) [.cell 6 true 3,.tmp 7])
theorem l6_eq:lowFn Tryd.prog 6=some l6:=by kernel_rfl
def l7r0:List AOper :=
  [.mk (some 2) (.box (.tmp 0)) none [],.mk (some 3) (.box (.tmp 1)) none [],.mk (some 4) (.mv (.const (.bool false))) none []]
def l7r1:List AOper :=
  [.mk (some 5) (.fld 0 (.tmp 2)) none [],.mk (some 6) (.load false 1 (.tmp 5)) none [0],.mk (some 7) (.fld 0 (.tmp 3)) none [],.mk (some 8) (.load false 1 (.tmp 7)) none [2],.mk (some 9) (.bin .eql (.tmp 6) (.tmp 8)) none [1,3],.mk (some 10) (.mv (.tmp 9)) none [4],.mk (some 11) (.fld 1 (.tmp 2)) (some (10,true)) [5],.mk (some 12) (.load false 1 (.tmp 11)) (some (10,true)) [6,5],.mk (some 13) (.fld 1 (.tmp 3)) (some (10,true)) [5],.mk (some 14) (.load false 1 (.tmp 13)) (some (10,true)) [8,5],.mk (some 15) (.call 27 [.tmp 12,.tmp 14]) (some (10,true)) [7,9,5,5],.mk (some 16) (.pick (.tmp 10) (.tmp 15) (.const (.bool false))) none [5,10],.mk (some 17) (.mv (.tmp 16)) none [11,10],.mk (some 18) (.fld 2 (.tmp 2)) (some (17,true)) [12],.mk (some 19) (.load false 1 (.tmp 18)) (some (17,true)) [13,12],.mk (some 20) (.fld 2 (.tmp 3)) (some (17,true)) [12],.mk (some 21) (.load false 1 (.tmp 20)) (some (17,true)) [15,12],.mk (some 22) (.call 27 [.tmp 19,.tmp 21]) (some (17,true)) [14,16,12,12],.mk (some 23) (.pick (.tmp 17) (.tmp 22) (.const (.bool false))) none [12,17],.mk (some 4) (.mv (.tmp 23)) none [18,17,0,1,2,3,4,5,6,7,8,9,10,11,12,13,14,15,16,17,18]]
def l7:AFn :=
  (AFn.mk 24 2 (.seq (.reg l7r0) (.seq (.reg l7r1) .ret)) [.tmp 4])
theorem l7_eq:lowFn Tryd.prog 7=some l7:=by kernel_rfl
def l8r0:List AOper :=
  [.mk (some 2) (.box (.tmp 0)) none [],.mk (some 3) (.box (.tmp 1)) none [],.mk (some 4) (.mv (.const (.bool false))) none []]
def l8r1:List AOper :=
  [.mk (some 5) (.load true 3 (.tmp 2)) none [],.mk (some 6) (.load true 3 (.tmp 3)) none [],.mk (some 7) (.call 28 [.tmp 5,.tmp 6]) none [0,1],.mk (some 8) (.len (.tmp 7)) none [2],.mk (some 9) (.bin .gtr (.tmp 8) (.const (.int .i64 0))) none [3],.mk (some 4) (.mv (.tmp 9)) none [4,2,0,1,2,3,4]]
def l8:AFn :=
  (AFn.mk 10 2 (.seq (.reg l8r0) (.seq (.reg l8r1) .ret)) [.tmp 4])
theorem l8_eq:lowFn Tryd.prog 8=some l8:=by kernel_rfl
def l9r0:List AOper :=
  [.mk (some 1) (.box (.tmp 0)) none [],.mk (some 2) (.mv (.const (.bool false))) none []]
def l9r1:List AOper :=
  [.mk (some 6) (.load true 3 (.tmp 1)) none [],.mk (some 7) (.call 22 [.tmp 6]) none [0],.mk (some 8) (.un .not (.tmp 7)) none [1]]
def l9r2:List AOper :=
  [.mk (some 2) (.mv (.const (.bool false))) none []]
def l9r3:List AOper :=
  [.mk (some 3) (.alloc [.bool false,.bool false,.bool false,.bool false,.bool false,.bool false,.bool false,.bool false,.bool false,.bool false,.bool false,.bool false,.bool false,.bool false,.bool false,.bool false,.bool false,.bool false,.bool false,.bool false,.bool false,.bool false,.bool false,.bool false,.bool false,.bool false,.bool false,.bool false,.bool false,.bool false,.bool false,.bool false,.bool false,.bool false,.bool false,.bool false,.bool false,.bool false,.bool false,.bool false,.bool false,.bool false,.bool false,.bool false,.bool false,.bool false,.bool false,.bool false,.bool false,.bool false,.bool false,.bool false,.bool false,.bool false,.bool false,.bool false,.bool false,.bool false,.bool false,.bool false]) none []]
def l9r4:List AOper :=
  [.mk (some 9) (.load true 3 (.tmp 1)) none [],.mk (some 10) (.call 29 [.tmp 9]) none [0],.mk (some 11) (.len (.tmp 10)) none [1],.mk (some 12) (.mv (.const (.int .i64 0))) none []]
def l9r5:List AOper :=
  [.mk (some 13) (.bin .lss (.tmp 12) (.tmp 11)) none []]
def l9r6:List AOper :=
  [.mk (some 14) (.idxA 1 (.tmp 10) (.tmp 12)) none [],.mk (some 15) (.load false 1 (.tmp 14)) none [0],.mk (some 5) (.mv (.tmp 15)) none [1,0,1]]
def l9r7:List AOper :=
  [.mk (some 16) (.mv (.tmp 5)) none [],.mk (some 17) (.idxP 1 60 (.tmp 3) (.tmp 16)) none [0],.mk (some 18) (.load false 1 (.tmp 17)) none [1]]
def l9r8:List AOper :=
  [.mk (some 2) (.mv (.const (.bool false))) none []]
def l9r9:List AOper :=
  [.mk (some 19) (.mv (.tmp 5)) none [],.mk (some 20) (.idxP 1 60 (.tmp 3) (.tmp 19)) none [0,0],.mk none (.store 1 (.tmp 20) (.const (.bool true))) none [1,0]]
def l9r10:List AOper :=
  [.mk (some 21) (.bin .add (.tmp 12) (.const (.int .i64 1))) none [],.mk (some 12) (.mv (.tmp 21)) none [0]]
def l9r11:List AOper :=
  [.mk (some 2) (.mv (.const (.bool true))) none []]
def l9:AFn :=
  (AFn.mk 22 1 (.seq (.reg l9r0) (.seq (.seq (.reg l9r1) (.cond (.tmp 8) (.seq (.reg l9r2) .ret) .skip)) (.seq (.reg l9r3) (.seq (.seq (.reg l9r4) (.block 0 (.loop (.seq (.reg l9r5) (.seq (.cond (.tmp 13) .skip (.exit 0)) (.seq (.block 1 (.seq (.reg l9r6) (.seq (.seq (.reg l9r7) (.cond (.tmp 18) (.seq (.reg l9r8) .ret) .skip)) (.reg l9r9)))) (.reg l9r10))))))) (.seq (.reg l9r11) .ret))))) [.tmp 2])
theorem l9_eq:lowFn Tryd.prog 9=some l9:=by kernel_rfl
def l10r0:List AOper :=
  [.mk (some 2) (.mv (.const (.int .i64 0))) none []]
def l10r1:List AOper :=
  [.mk (some 3) (.mv (.tmp 0)) none [],.mk (some 4) (.call 30 [.tmp 3]) none [0],.mk (some 5) (.un .not (.tmp 4)) none [1]]
def l10r2:List AOper :=
  [.mk (some 2) (.mv (.const (.int .i64 (-1)))) none []]
def l10r3:List AOper :=
  [.mk (some 6) (.mv (.tmp 0)) none [],.mk (some 7) (.call 31 [.tmp 6]) none [0],.mk (some 2) (.mv (.tmp 7)) none [1,1,0,1]]
def l10:AFn :=
  (AFn.mk 8 1 (.seq (.reg l10r0) (.seq (.seq (.reg l10r1) (.cond (.tmp 5) (.seq (.reg l10r2) .ret) .skip)) (.seq (.reg l10r3) .ret))) [.tmp 2])
theorem l10_eq:lowFn Tryd.prog 10=some l10:=by kernel_rfl
def l11r0:List AOper :=
  [.mk (some 2) (.mv (.const (.pointer none))) none []]
def l11r1:List AOper :=
  [.mk (some 3) (.mv (.tmp 0)) none [],.mk (some 4) (.len (.tmp 3)) none [0],.mk (some 5) (.bin .gtr (.tmp 4) (.const (.int .i64 2000))) none [1]]
def l11r2:List AOper :=
  [.mk (some 6) (.mv (.tmp 0)) none [],.mk (some 7) (.slice 1 (.tmp 6) none (some (.const (.int .i64 2000)))) none [0],.mk (some 0) (.mv (.tmp 7)) none [1,0,1]]
def l11r3:List AOper :=
  [.mk (some 8) (.mv (.tmp 0)) none [],.mk (some 9) (.build [.slice none 0 0,.int .i64 0] [(0,1,.tmp 8)]) none [0],.mk (some 10) (.box (.tmp 9)) none [1],.mk (some 2) (.mv (.tmp 10)) none [2,0,1,2]]
def l11:AFn :=
  (AFn.mk 11 1 (.seq (.reg l11r0) (.seq (.seq (.reg l11r1) (.cond (.tmp 5) (.reg l11r2) .skip)) (.seq (.reg l11r3) .ret))) [.tmp 2])
theorem l11_eq:lowFn Tryd.prog 11=some l11:=by kernel_rfl
def l12r0:List AOper :=
  [.mk (some 2) (.alloc [.slice none 0 0,.bool false,.bool false]) none []]
def l12r1:List AOper :=
  [.mk (some 5) (.mv (.tmp 0)) none [],.mk (some 6) (.call 14 [.tmp 5,.const (.int .i64 2)]) none [0],.mk (some 7) (.bin .eql (.tmp 6) (.const (.int .i64 0))) none [1],.mk (some 8) (.mv (.tmp 0)) none [],.mk (some 9) (.call 14 [.tmp 8,.const (.int .i64 2)]) none [3,1],.mk (some 10) (.bin .eql (.tmp 9) (.const (.int .i64 0))) none [4],.mk (some 11) (.build [.slice none 0 0,.bool false,.bool false] [(1,1,.tmp 7),(2,1,.tmp 10)]) none [2,5],.mk (some 3) (.alloc [.slice none 0 0,.bool false,.bool false]) none [],.mk none (.store 3 (.tmp 3) (.tmp 11)) none [7,6,4,0,1,2,3,4,5,6,7]]
def l12r2:List AOper :=
  [.mk (some 12) (.mv (.tmp 0)) none [],.mk (some 13) (.bslice 1 [.int .i64 0] [(0,.const (.int .i64 2)),(1,.const (.int .i64 3)),(2,.const (.int .i64 1)),(3,.const (.int .i64 4)),(4,.const (.int .i64 5))] 5) none [],.mk (some 14) (.call 13 [.tmp 12,.tmp 13]) none [0,1],.mk (some 4) (.mv (.tmp 14)) none [2,2,0,1,2]]
def l12r3:List AOper :=
  [.mk (some 15) (.mv (.tmp 4)) none [],.mk (some 16) (.bin .gtr (.tmp 15) (.const (.int .i64 0))) none [0]]
def l12r4a:List AOper :=
  [.mk (some 19) (.fld 0 (.tmp 3)) none [],.mk (some 20) (.load false 1 (.tmp 19)) none [0],.mk (some 21) (.mv (.tmp 0)) none [],.mk (some 22) (.bslice 1 [.int .i64 0] [(0,.const (.int .i64 1)),(1,.const (.int .i64 2)),(2,.const (.int .i64 4)),(3,.const (.int .i64 1)),(4,.const (.int .i64 2))] 5) none [],.mk (some 23) (.call 13 [.tmp 21,.tmp 22]) none [2,3],.mk (some 24) (.bslice 1 [.int .i64 0] [(0,.tmp 23)] 1) none [4]]
def l12r4b:List AOper :=
  [.mk (some 25) (.append 1 (.tmp 20) (.tmp 24)) none [1,5,4],.mk (some 26) (.fld 0 (.tmp 3)) none [0,1,2,3,4,5,6],.mk none (.store 1 (.tmp 26) (.tmp 25)) none [7,6,6,0,1,2,3,4,5,6]]
def l12r4:List AOper:=l12r4a ++ l12r4b
def l12r5:List AOper :=
  [.mk (some 17) (.mv (.tmp 4)) none [],.mk (some 18) (.bin .sub (.tmp 17) (.const (.int .i64 1))) none [0],.mk (some 4) (.mv (.tmp 18)) none [1,0,1]]
def l12r6:List AOper :=
  [.mk (some 27) (.mv (.tmp 0)) none [],.mk (some 28) (.call 14 [.tmp 27,.const (.int .i64 20)]) none [0]]
def l12r7:List AOper :=
  [.mk (some 30) (.bin .eql (.tmp 28) (.const (.int .i64 0))) none [],.mk (some 29) (.mv (.tmp 30)) none [0]]
def l12r8a:List AOper :=
  [.mk (some 31) (.fld 0 (.tmp 3)) none [],.mk (some 32) (.load false 1 (.tmp 31)) none [0],.mk (some 33) (.mv (.tmp 0)) none [],.mk (some 34) (.bslice 1 [.int .i64 0] [(0,.const (.int .i64 3)),(1,.const (.int .i64 0)),(2,.const (.int .i64 8))] 3) none [],.mk (some 35) (.call 13 [.tmp 33,.tmp 34]) none [2,3]]
def l12r8b:List AOper :=
  [.mk (some 36) (.idxA 1 (.tmp 32) (.const (.int .i64 0))) none [1,0,1,2,3,4],.mk none (.store 1 (.tmp 36) (.tmp 35)) none [5,4,4,0,1,2,3,4]]
def l12r8:List AOper:=l12r8a ++ l12r8b
def l12r9:List AOper :=
  [.mk (some 38) (.bin .eql (.tmp 28) (.const (.int .i64 1))) none [],.mk (some 37) (.mv (.tmp 38)) none [0]]
def l12r10:List AOper :=
  [.mk (some 39) (.fld 0 (.tmp 3)) none [],.mk none (.store 1 (.tmp 39) (.const (.slice none 0 0))) none [0]]
def l12r11:List AOper :=
  [.mk (some 40) (.load true 3 (.tmp 3)) none [],.mk none (.store 3 (.tmp 2) (.tmp 40)) none [0,0]]
def l12:AFn :=
  (AFn.mk 41 1 (.seq (.reg l12r0) (.seq (.reg l12r1) (.seq (.seq (.reg l12r2) (.block 0 (.loop (.seq (.seq (.reg l12r3) (.cond (.tmp 16) .skip (.exit 0))) (.seq (.block 1 (.draw l12r4)) (.reg l12r5)))))) (.seq (.seq (.reg l12r6) (.block 2 (.seq (.reg l12r7) (.cond (.tmp 29) (.draw l12r8) (.seq (.reg l12r9) (.cond (.tmp 37) (.reg l12r10) .skip)))))) (.seq (.reg l12r11) .ret))))) [.cell 2 true 3])
theorem l12_eq:lowFn Tryd.prog 12=some l12:=by kernel_rfl
def l13r0:List AOper :=
  [.mk (some 4) (.mv (.const (.int .i64 0))) none []]
def l13r1:List AOper :=
  [.mk (some 5) (.mv (.tmp 1)) none [],.mk (some 6) (.mv (.tmp 0)) none [],.mk (some 7) (.mv (.tmp 1)) none [],.mk (some 8) (.len (.tmp 7)) none [2],.mk (some 9) (.call 14 [.tmp 6,.tmp 8]) none [1,3],.mk (some 10) (.idxA 1 (.tmp 5) (.tmp 9)) none [0,4],.mk (some 11) (.load false 1 (.tmp 10)) none [5],.mk (some 4) (.mv (.tmp 11)) none [6,4,0,1,2,3,4,5,6]]
def l13:AFn :=
  (AFn.mk 12 2 (.seq (.reg l13r0) (.seq (.reg l13r1) .ret)) [.tmp 4])
theorem l13_eq:lowFn Tryd.prog 13=some l13:=by kernel_rfl
def l14r0:List AOper :=
  [.mk (some 4) (.mv (.const (.int .i64 0))) none []]
def l14r1:List AOper :=
  [.mk (some 7) (.mv (.tmp 0)) none [],.mk (some 8) (.mv (.tmp 0)) none [],.mk (some 9) (.nilck (.tmp 8)) none [1],.mk (some 10) (.fld 1 (.tmp 9)) none [2],.mk (some 11) (.load false 1 (.tmp 10)) none [3],.mk (some 12) (.bin .add (.tmp 11) (.const (.int .i64 1))) none [4],.mk (some 13) (.nilck (.tmp 7)) none [0,0,1,2,3,4,5],.mk (some 14) (.fld 1 (.tmp 13)) none [6,0,1,2,3,4,5],.mk none (.store 1 (.tmp 14) (.tmp 12)) none [7,5,0,1,2,3,4,5]]
def l14r2:List AOper :=
  [.mk (some 15) (.mv (.tmp 1)) none [],.mk (some 16) (.bin .lss (.tmp 15) (.const (.int .i64 1))) none [0],.mk (some 17) (.mv (.tmp 16)) none [1],.mk (some 18) (.mv (.tmp 0)) (some (17,false)) [2],.mk (some 19) (.nilck (.tmp 18)) (some (17,false)) [3,2],.mk (some 20) (.fld 0 (.tmp 19)) (some (17,false)) [4,2],.mk (some 21) (.load false 1 (.tmp 20)) (some (17,false)) [5,2],.mk (some 22) (.len (.tmp 21)) (some (17,false)) [6,2],.mk (some 23) (.bin .eql (.tmp 22) (.const (.int .i64 0))) (some (17,false)) [7,2],.mk (some 24) (.pick (.tmp 17) (.const (.bool true)) (.tmp 23)) none [2,8]]
def l14r3:List AOper :=
  [.mk (some 4) (.mv (.const (.int .i64 0))) none []]
def l14r4:List AOper :=
  [.mk (some 25) (.mv (.tmp 0)) none [],.mk (some 26) (.nilck (.tmp 25)) none [0],.mk (some 27) (.fld 1 (.tmp 26)) none [1],.mk (some 28) (.load false 1 (.tmp 27)) none [2],.mk (some 29) (.bin .sub (.tmp 28) (.const (.int .i64 1))) none [3],.mk (some 5) (.mv (.tmp 29)) none [4,0,1,2,3,4]]
def l14r5:List AOper :=
  [.mk (some 30) (.mv (.tmp 5)) none [],.mk (some 31) (.mv (.tmp 0)) none [],.mk (some 32) (.nilck (.tmp 31)) none [1],.mk (some 33) (.fld 0 (.tmp 32)) none [2],.mk (some 34) (.load false 1 (.tmp 33)) none [3],.mk (some 35) (.len (.tmp 34)) none [4],.mk (some 36) (.bin .lss (.tmp 30) (.tmp 35)) none [0,5]]
def l14r6:List AOper :=
  [.mk (some 37) (.mv (.tmp 0)) none [],.mk (some 38) (.nilck (.tmp 37)) none [0],.mk (some 39) (.fld 0 (.tmp 38)) none [1],.mk (some 40) (.load false 1 (.tmp 39)) none [2],.mk (some 41) (.mv (.tmp 5)) none [],.mk (some 42) (.idxA 1 (.tmp 40) (.tmp 41)) none [3,4],.mk (some 43) (.load false 1 (.tmp 42)) none [5],.mk (some 44) (.conv .i64 (.tmp 43)) none [6],.mk (some 45) (.mv (.tmp 1)) none [],.mk (some 46) (.bin .rem (.tmp 44) (.tmp 45)) none [7,8],.mk (some 4) (.mv (.tmp 46)) none [9,0,1,2,3,4,5,6,7,8,9]]
def l14r7a:List AOper :=
  [.mk (some 47) (.mv (.tmp 0)) none [],.mk (some 48) (.nilck (.tmp 47)) none [0],.mk (some 49) (.fld 0 (.tmp 48)) none [1],.mk (some 50) (.load false 1 (.tmp 49)) none [2],.mk (some 51) (.mv (.tmp 5)) none [],.mk (some 52) (.mv (.tmp 0)) none [],.mk (some 53) (.nilck (.tmp 52)) none [5],.mk (some 54) (.fld 0 (.tmp 53)) none [6],.mk (some 55) (.load false 1 (.tmp 54)) none [7],.mk (some 56) (.len (.tmp 55)) none [8],.mk (some 57) (.bin .rem (.tmp 51) (.tmp 56)) none [4,9],.mk (some 58) (.idxA 1 (.tmp 50) (.tmp 57)) none [3,10],.mk (some 59) (.load false 1 (.tmp 58)) none [11],.mk (some 60) (.conv .i64 (.tmp 59)) none [12],.mk (some 61) (.bin .mul (.tmp 60) (.const (.int .i64 131))) none [13],.mk (some 62) (.mv (.tmp 0)) none [],.mk (some 63) (.nilck (.tmp 62)) none [15],.mk (some 64) (.fld 0 (.tmp 63)) none [16],.mk (some 65) (.load false 1 (.tmp 64)) none [17],.mk (some 66) (.mv (.tmp 5)) none [],.mk (some 67) (.bin .mul (.tmp 66) (.const (.int .i64 7))) none [19],.mk (some 68) (.bin .add (.tmp 67) (.const (.int .i64 3))) none [20],.mk (some 69) (.mv (.tmp 0)) none [],.mk (some 70) (.nilck (.tmp 69)) none [22],.mk (some 71) (.fld 0 (.tmp 70)) none [23],.mk (some 72) (.load false 1 (.tmp 71)) none [24],.mk (some 73) (.len (.tmp 72)) none [25],.mk (some 74) (.bin .rem (.tmp 68) (.tmp 73)) none [21,26],.mk (some 75) (.idxA 1 (.tmp 65) (.tmp 74)) none [18,27],.mk (some 76) (.load false 1 (.tmp 75)) none [28],.mk (some 77) (.conv .i64 (.tmp 76)) none [29],.mk (some 78) (.bin .mul (.tmp 77) (.const (.int .i64 1117))) none [30],.mk (some 79) (.bin .add (.tmp 61) (.tmp 78)) none [14,31],.mk (some 80) (.mv (.tmp 5)) none [],.mk (some 81) (.bin .mul (.tmp 80) (.const (.int .i64 29))) none [33],.mk (some 82) (.bin .add (.tmp 79) (.tmp 81)) none [32,34],.mk (some 83) (.mv (.tmp 5)) none [],.mk (some 84) (.mv (.tmp 0)) none [],.mk (some 85) (.nilck (.tmp 84)) none [37],.mk (some 86) (.fld 0 (.tmp 85)) none [38],.mk (some 87) (.load false 1 (.tmp 86)) none [39],.mk (some 88) (.len (.tmp 87)) none [40],.mk (some 89) (.bin .quo (.tmp 83) (.tmp 88)) none [36,41],.mk (some 90) (.bin .mul (.tmp 89) (.const (.int .i64 53))) none [42]]
def l14r7b:List AOper :=
  [.mk (some 91) (.bin .add (.tmp 82) (.tmp 90)) none [35,43],.mk (some 6) (.mv (.tmp 91)) none [44,0,1,2,3,4,5,6,7,8,9,10,11,12,13,14,15,16,17,18,19,20,21,22,23,24,25,26,27,28,29,30,31,32,33,34,35,36,37,38,39,40,41,42,43,44]]
def l14r7:List AOper:=l14r7a ++ l14r7b
def l14r8:List AOper :=
  [.mk (some 92) (.mv (.tmp 6)) none [],.mk (some 93) (.mv (.tmp 6)) none [],.mk (some 94) (.bin .quo (.tmp 93) (.const (.int .i64 64))) none [1],.mk (some 95) (.bin .xor (.tmp 92) (.tmp 94)) none [0,2],.mk (some 6) (.mv (.tmp 95)) none [3,0,1,2,3]]
def l14r9:List AOper :=
  [.mk (some 96) (.mv (.tmp 6)) none [],.mk (some 97) (.mv (.tmp 1)) none [],.mk (some 98) (.bin .rem (.tmp 96) (.tmp 97)) none [0,1],.mk (some 4) (.mv (.tmp 98)) none [2,0,1,2]]
def l14:AFn :=
  (AFn.mk 99 2 (.seq (.reg l14r0) (.seq (.reg l14r1) (.seq (.seq (.reg l14r2) (.cond (.tmp 24) (.seq (.reg l14r3) .ret) .skip)) (.seq (.reg l14r4) (.seq (.seq (.reg l14r5) (.cond (.tmp 36) (.seq (.reg l14r6) .ret) .skip)) (.seq (.draw l14r7) (.seq (.reg l14r8) (.seq (.reg l14r9) .ret)))))))) [.tmp 4])
theorem l14_eq:lowFn Tryd.prog 14=some l14:=by kernel_rfl
def l15r0:List AOper :=
  [.mk (some 1) (.box (.tmp 0)) none [],.mk (some 2) (.mv (.const (.bool false))) none []]
def l15r1:List AOper :=
  [.mk (some 5) (.fld 0 (.tmp 1)) none [],.mk (some 6) (.load false 1 (.tmp 5)) none [0],.mk (some 7) (.len (.tmp 6)) none [1],.mk (some 8) (.bin .lss (.tmp 7) (.const (.int .i64 1))) none [2],.mk (some 9) (.mv (.tmp 8)) none [3],.mk (some 10) (.fld 0 (.tmp 1)) (some (9,false)) [4],.mk (some 11) (.load false 1 (.tmp 10)) (some (9,false)) [5,4],.mk (some 12) (.len (.tmp 11)) (some (9,false)) [6,4],.mk (some 13) (.bin .gtr (.tmp 12) (.const (.int .i64 5))) (some (9,false)) [7,4],.mk (some 14) (.pick (.tmp 9) (.const (.bool true)) (.tmp 13)) none [4,8]]
def l15r2:List AOper :=
  [.mk (some 2) (.mv (.const (.bool false))) none []]
def l15r3:List AOper :=
  [.mk (some 15) (.fld 0 (.tmp 1)) none [],.mk (some 16) (.load false 1 (.tmp 15)) none [0],.mk (some 17) (.len (.tmp 16)) none [1],.mk (some 18) (.mv (.const (.int .i64 0))) none []]
def l15r4:List AOper :=
  [.mk (some 19) (.bin .lss (.tmp 18) (.tmp 17)) none []]
def l15r5:List AOper :=
  [.mk (some 20) (.idxA 1 (.tmp 16) (.tmp 18)) none [],.mk (some 21) (.load false 1 (.tmp 20)) none [0],.mk (some 4) (.mv (.tmp 21)) none [1,0,1]]
def l15r6:List AOper :=
  [.mk (some 22) (.mv (.tmp 4)) none [],.mk (some 23) (.call 32 [.tmp 22]) none [0],.mk (some 24) (.un .not (.tmp 23)) none [1]]
def l15r7:List AOper :=
  [.mk (some 2) (.mv (.const (.bool false))) none []]
def l15r8:List AOper :=
  [.mk (some 25) (.bin .add (.tmp 18) (.const (.int .i64 1))) none [],.mk (some 18) (.mv (.tmp 25)) none [0]]
def l15r9:List AOper :=
  [.mk (some 2) (.mv (.const (.bool true))) none []]
def l15:AFn :=
  (AFn.mk 26 1 (.seq (.reg l15r0) (.seq (.seq (.reg l15r1) (.cond (.tmp 14) (.seq (.reg l15r2) .ret) .skip)) (.seq (.seq (.reg l15r3) (.block 0 (.loop (.seq (.reg l15r4) (.seq (.cond (.tmp 19) .skip (.exit 0)) (.seq (.block 1 (.seq (.reg l15r5) (.seq (.reg l15r6) (.cond (.tmp 24) (.seq (.reg l15r7) .ret) .skip)))) (.reg l15r8))))))) (.seq (.reg l15r9) .ret)))) [.tmp 2])
theorem l15_eq:lowFn Tryd.prog 15=some l15:=by kernel_rfl
def l16r0:List AOper :=
  [.mk (some 4) (.mv (.const (.bool false))) none []]
def l16r1:List AOper :=
  [.mk (some 5) (.mv (.tmp 0)) none [],.mk (some 6) (.bin .leq (.const (.int .i64 0)) (.tmp 5)) none [0],.mk (some 7) (.mv (.tmp 6)) none [1],.mk (some 8) (.mv (.tmp 0)) (some (7,true)) [2],.mk (some 9) (.mv (.tmp 1)) (some (7,true)) [2],.mk (some 10) (.bin .leq (.tmp 8) (.tmp 9)) (some (7,true)) [3,4,2],.mk (some 11) (.pick (.tmp 7) (.tmp 10) (.const (.bool false))) none [2,5],.mk (some 4) (.mv (.tmp 11)) none [6,2,0,1,2,3,4,5,6]]
def l16:AFn :=
  (AFn.mk 12 2 (.seq (.reg l16r0) (.seq (.reg l16r1) .ret)) [.tmp 4])
theorem l16_eq:lowFn Tryd.prog 16=some l16:=by kernel_rfl
def l17r0:List AOper :=
  [.mk (some 1) (.box (.tmp 0)) none [],.mk (some 2) (.mv (.const (.slice none 0 0))) none []]
def l17r1:List AOper :=
  [.mk (some 7) (.fld 0 (.tmp 1)) none [],.mk (some 8) (.load false 1 (.tmp 7)) none [0],.mk (some 9) (.len (.tmp 8)) none [1],.mk (some 10) (.mkslice 2 [.int .i64 0,.int .i64 0] (.tmp 9) (.tmp 9)) none [2,2],.mk (some 3) (.mv (.tmp 10)) none [3,0,1,2,3]]
def l17r2:List AOper :=
  [.mk (some 4) (.mv (.const (.int .i64 0))) none []]
def l17r3:List AOper :=
  [.mk (some 11) (.fld 0 (.tmp 1)) none [],.mk (some 12) (.load false 1 (.tmp 11)) none [0],.mk (some 13) (.len (.tmp 12)) none [1],.mk (some 14) (.mv (.const (.int .i64 0))) none []]
def l17r4:List AOper :=
  [.mk (some 15) (.bin .lss (.tmp 14) (.tmp 13)) none []]
def l17r5:List AOper :=
  [.mk (some 16) (.mv (.tmp 14)) none [],.mk (some 17) (.idxA 1 (.tmp 12) (.tmp 14)) none [],.mk (some 18) (.load false 1 (.tmp 17)) none [1],.mk (some 5) (.mv (.tmp 16)) none [0,0,1,2],.mk (some 6) (.mv (.tmp 18)) none [2,3,0,1,2,3]]
def l17r6:List AOper :=
  [.mk (some 19) (.mv (.tmp 3)) none [],.mk (some 20) (.mv (.tmp 5)) none [],.mk (some 21) (.load true 3 (.tmp 1)) none [],.mk (some 22) (.mv (.tmp 4)) none [],.mk (some 23) (.mv (.tmp 6)) none [],.mk (some 24) (.call 33 [.tmp 21,.tmp 22,.tmp 23]) none [2,3,4],.mk (some 25) (.mv (.tmp 6)) none [],.mk (some 26) (.build [.int .i64 0,.int .i64 0] [(0,1,.tmp 24),(1,1,.tmp 25)]) none [5,6],.mk (some 27) (.idxA 2 (.tmp 19) (.tmp 20)) none [0,1,0,1,2,3,4,5,6,7],.mk none (.store 2 (.tmp 27) (.tmp 26)) none [8,7,5,0,1,2,3,4,5,6,7]]
def l17r7:List AOper :=
  [.mk (some 28) (.mv (.tmp 3)) none [],.mk (some 29) (.mv (.tmp 5)) none [],.mk (some 30) (.idxA 2 (.tmp 28) (.tmp 29)) none [0,1],.mk (some 31) (.load true 2 (.tmp 30)) none [2],.mk (some 32) (.call 34 [.tmp 31]) none [3],.mk (some 4) (.mv (.tmp 32)) none [4,4,0,1,2,3,4]]
def l17r8:List AOper :=
  [.mk (some 33) (.bin .add (.tmp 14) (.const (.int .i64 1))) none [],.mk (some 14) (.mv (.tmp 33)) none [0]]
def l17r9:List AOper :=
  [.mk (some 34) (.mv (.tmp 3)) none [],.mk (some 2) (.mv (.tmp 34)) none [0,0]]
def l17:AFn :=
  (AFn.mk 35 1 (.seq (.reg l17r0) (.seq (.reg l17r1) (.seq (.reg l17r2) (.seq (.seq (.reg l17r3) (.block 0 (.loop (.seq (.reg l17r4) (.seq (.cond (.tmp 15) .skip (.exit 0)) (.seq (.block 1 (.seq (.reg l17r5) (.seq (.reg l17r6) (.reg l17r7)))) (.reg l17r8))))))) (.seq (.reg l17r9) .ret))))) [.tmp 2])
theorem l17_eq:lowFn Tryd.prog 17=some l17:=by kernel_rfl
def l18r0:List AOper :=
  [.mk (some 1) (.box (.tmp 0)) none [],.mk (some 2) (.alloc [.nilFunc]) none []]
def l18r1:List AOper :=
  [.mk (some 3) (.fld 1 (.tmp 1)) none [],.mk (some 4) (.load false 1 (.tmp 3)) none [0]]
def l18r2:List AOper :=
  [.mk (some 5) (.build [.nilFunc] [(0,1,.func 35)]) none [],.mk none (.store 1 (.tmp 2) (.tmp 5)) none [0,0]]
def l18r3:List AOper :=
  [.mk (some 6) (.build [.nilFunc] [(0,1,.func 36)]) none [],.mk none (.store 1 (.tmp 2) (.tmp 6)) none [0,0]]
def l18:AFn :=
  (AFn.mk 7 1 (.seq (.reg l18r0) (.seq (.seq (.reg l18r1) (.cond (.tmp 4) (.seq (.reg l18r2) .ret) .skip)) (.seq (.reg l18r3) .ret))) [.cell 2 true 1])
theorem l18_eq:lowFn Tryd.prog 18=some l18:=by kernel_rfl
def l19r0:List AOper :=
  [.mk (some 3) (.box (.tmp 0)) none [],.mk (some 4) (.box (.tmp 1)) none [],.mk (some 6) (.mv (.const (.int .i64 0))) none []]
def l19r1a:List AOper :=
  [.mk (some 7) (.fld 0 (.tmp 4)) none [],.mk (some 8) (.load false 1 (.tmp 7)) none [0],.mk (some 9) (.fld 0 (.tmp 3)) none [],.mk (some 10) (.load false 1 (.tmp 9)) none [2],.mk (some 11) (.fld 1 (.tmp 4)) none [],.mk (some 12) (.load false 1 (.tmp 11)) none [4],.mk (some 13) (.mv (.tmp 2)) none [],.mk (some 14) (.raw (Op.call (Call.mk (Callee.value (.tmp 10)) (Array.mk [.tmp 12,.tmp 13]) (Array.mk [3,3])))) none [3,5,6]]
def l19r1b:List AOper :=
  [.mk (some 15) (.bin .add (.tmp 8) (.tmp 14)) none [1,7],.mk (some 6) (.mv (.tmp 15)) none [8,7,0,1,2,3,4,5,6,7,8]]
def l19r1:List AOper:=l19r1a ++ l19r1b
def l19:AFn :=
  (AFn.mk 16 3 (.seq (.reg l19r0) (.seq (.draw l19r1) .ret)) [.tmp 6])
theorem l19_eq:lowFn Tryd.prog 19=some l19:=by kernel_rfl
def l20r0:List AOper :=
  [.mk (some 2) (.mv (.const (.slice none 0 0))) none []]
def l20r1:List AOper :=
  [.mk (some 3) (.mv (.tmp 0)) none [],.mk (some 4) (.call 37 [.tmp 3]) none [0],.mk (some 2) (.mv (.tmp 4)) none [1,1,0,1]]
def l20:AFn :=
  (AFn.mk 5 1 (.seq (.reg l20r0) (.seq (.reg l20r1) .ret)) [.tmp 2])
theorem l20_eq:lowFn Tryd.prog 20=some l20:=by kernel_rfl
def l21r0:List AOper :=
  [.mk (some 1) (.box (.tmp 0)) none [],.mk (some 2) (.mv (.const (.int .i64 0))) none []]
def l21r1a:List AOper :=
  [.mk (some 4) (.load true 3 (.tmp 1)) none [],.mk (some 5) (.call 17 [.tmp 4]) none [0],.mk (some 6) (.fld 0 (.tmp 1)) none [],.mk (some 7) (.load false 1 (.tmp 6)) none [2],.mk (some 8) (.len (.tmp 7)) none [3],.mk (some 9) (.bin .sub (.tmp 8) (.const (.int .i64 1))) none [4],.mk (some 10) (.idxA 2 (.tmp 5) (.tmp 9)) none [1,5],.mk (some 11) (.load true 2 (.tmp 10)) none [6],.mk (some 3) (.alloc [.int .i64 0,.int .i64 0]) none []]
def l21r1b:List AOper :=
  [.mk none (.store 2 (.tmp 3) (.tmp 11)) none [8,7,1,0,1,2,3,4,5,6,7,8]]
def l21r1:List AOper:=l21r1a ++ l21r1b
def l21r2a:List AOper :=
  [.mk (some 12) (.load true 3 (.tmp 1)) none [],.mk (some 13) (.load true 2 (.tmp 3)) none [],.mk (some 14) (.call 34 [.tmp 13]) none [1],.mk (some 15) (.fld 0 (.tmp 1)) none [],.mk (some 16) (.load false 1 (.tmp 15)) none [3],.mk (some 17) (.call 38 [.tmp 16]) none [4,2]]
def l21r2b:List AOper :=
  [.mk (some 18) (.call 33 [.tmp 12,.tmp 14,.tmp 17]) none [0,2,5,5],.mk (some 2) (.mv (.tmp 18)) none [6,6,0,1,2,3,4,5,6]]
def l21r2:List AOper:=l21r2a ++ l21r2b
def l21:AFn :=
  (AFn.mk 19 1 (.seq (.reg l21r0) (.seq (.draw l21r1) (.seq (.draw l21r2) .ret))) [.tmp 2])
theorem l21_eq:lowFn Tryd.prog 21=some l21:=by kernel_rfl
def l22r0:List AOper :=
  [.mk (some 1) (.box (.tmp 0)) none [],.mk (some 2) (.mv (.const (.bool false))) none []]
def l22r1:List AOper :=
  [.mk (some 5) (.fld 1 (.tmp 1)) none [],.mk (some 6) (.load false 1 (.tmp 5)) none [0],.mk (some 7) (.call 30 [.tmp 6]) none [1],.mk (some 8) (.un .not (.tmp 7)) none [2],.mk (some 9) (.mv (.tmp 8)) none [3,2],.mk (some 10) (.fld 2 (.tmp 1)) (some (9,false)) [4],.mk (some 11) (.load false 1 (.tmp 10)) (some (9,false)) [5,4],.mk (some 12) (.fld 1 (.tmp 1)) (some (9,false)) [4],.mk (some 13) (.load false 1 (.tmp 12)) (some (9,false)) [7,4],.mk (some 14) (.len (.tmp 13)) (some (9,false)) [8,4],.mk (some 15) (.call 39 [.tmp 11,.tmp 14]) (some (9,false)) [6,9,4,4],.mk (some 16) (.un .not (.tmp 15)) (some (9,false)) [10,4],.mk (some 17) (.pick (.tmp 9) (.const (.bool true)) (.tmp 16)) none [4,11],.mk (some 18) (.mv (.tmp 17)) none [12,10],.mk (some 19) (.fld 0 (.tmp 1)) (some (18,false)) [13],.mk (some 20) (.load false 1 (.tmp 19)) (some (18,false)) [14,13],.mk (some 21) (.call 16 [.tmp 20,.const (.int .i64 60)]) (some (18,false)) [15,13,13],.mk (some 22) (.un .not (.tmp 21)) (some (18,false)) [16,13],.mk (some 23) (.pick (.tmp 18) (.const (.bool true)) (.tmp 22)) none [13,17]]
def l22r2:List AOper :=
  [.mk (some 2) (.mv (.const (.bool false))) none []]
def l22r3:List AOper :=
  [.mk (some 25) (.load true 3 (.tmp 1)) none [],.mk (some 26) (.call 40 [.tmp 25]) none [0],.mk (some 24) (.mv (.tmp 26)) none [1],.mk (some 27) (.extract (.tmp 24) 0) none [2],.mk (some 28) (.extract (.tmp 24) 1) none [2],.mk (some 3) (.mv (.tmp 27)) none [3,1,0,1,2,3],.mk (some 4) (.mv (.tmp 28)) none [4,5,0,1,2,3,4,5]]
def l22r4:List AOper :=
  [.mk (some 29) (.load true 3 (.tmp 1)) none [],.mk (some 30) (.call 41 [.tmp 29]) none [0],.mk (some 31) (.bin .eql (.tmp 30) (.const (.int .i64 0))) none [1],.mk (some 32) (.mv (.tmp 31)) none [2,1],.mk (some 33) (.mv (.tmp 3)) (some (32,false)) [3],.mk (some 34) (.bin .geq (.tmp 33) (.const (.int .i64 0))) (some (32,false)) [4,3],.mk (some 35) (.mv (.tmp 34)) (some (32,false)) [5,3,3],.mk (some 36) (.mv (.tmp 4)) (some (35,true)) [6],.mk (some 37) (.bin .lss (.tmp 36) (.const (.int .i64 60))) (some (35,true)) [7,6],.mk (some 38) (.pick (.tmp 35) (.tmp 37) (.const (.bool false))) (some (32,false)) [6,8,3],.mk (some 39) (.pick (.tmp 32) (.const (.bool true)) (.tmp 38)) none [3,9],.mk (some 2) (.mv (.tmp 39)) none [10,6,0,1,2,3,4,5,6,7,8,9,10]]
def l22:AFn :=
  (AFn.mk 40 1 (.seq (.reg l22r0) (.seq (.seq (.reg l22r1) (.cond (.tmp 23) (.seq (.reg l22r2) .ret) .skip)) (.seq (.reg l22r3) (.seq (.reg l22r4) .ret)))) [.tmp 2])
theorem l22_eq:lowFn Tryd.prog 22=some l22:=by kernel_rfl
def l23r0:List AOper :=
  [.mk (some 1) (.box (.tmp 0)) none [],.mk (some 2) (.mv (.const (.bool false))) none []]
def l23r1:List AOper :=
  [.mk (some 3) (.mv (.const (.int .i64 0))) none []]
def l23r2:List AOper :=
  [.mk (some 4) (.mv (.tmp 3)) none [],.mk (some 5) (.fld 0 (.tmp 1)) none [],.mk (some 6) (.load false 1 (.tmp 5)) none [1],.mk (some 7) (.len (.tmp 6)) none [2],.mk (some 8) (.bin .lss (.tmp 4) (.tmp 7)) none [0,3]]
def l23r3:List AOper :=
  [.mk (some 11) (.fld 0 (.tmp 1)) none [],.mk (some 12) (.load false 1 (.tmp 11)) none [0],.mk (some 13) (.mv (.tmp 3)) none [],.mk (some 14) (.idxA 1 (.tmp 12) (.tmp 13)) none [1,2],.mk (some 15) (.load false 1 (.tmp 14)) none [3],.mk (some 16) (.bin .neq (.tmp 15) (.const (.int .i64 1))) none [4],.mk (some 17) (.mv (.tmp 16)) none [5],.mk (some 18) (.fld 0 (.tmp 1)) (some (17,true)) [6],.mk (some 19) (.load false 1 (.tmp 18)) (some (17,true)) [7,6],.mk (some 20) (.mv (.tmp 3)) (some (17,true)) [6],.mk (some 21) (.idxA 1 (.tmp 19) (.tmp 20)) (some (17,true)) [8,9,6],.mk (some 22) (.load false 1 (.tmp 21)) (some (17,true)) [10,6],.mk (some 23) (.bin .neq (.tmp 22) (.const (.int .i64 2))) (some (17,true)) [11,6],.mk (some 24) (.pick (.tmp 17) (.tmp 23) (.const (.bool false))) none [6,12],.mk (some 25) (.mv (.tmp 24)) none [13,6],.mk (some 26) (.fld 0 (.tmp 1)) (some (25,true)) [14],.mk (some 27) (.load false 1 (.tmp 26)) (some (25,true)) [15,14],.mk (some 28) (.mv (.tmp 3)) (some (25,true)) [14],.mk (some 29) (.idxA 1 (.tmp 27) (.tmp 28)) (some (25,true)) [16,17,14],.mk (some 30) (.load false 1 (.tmp 29)) (some (25,true)) [18,14],.mk (some 31) (.bin .neq (.tmp 30) (.const (.int .i64 4))) (some (25,true)) [19,14],.mk (some 32) (.pick (.tmp 25) (.tmp 31) (.const (.bool false))) none [14,20]]
def l23r4:List AOper :=
  [.mk (some 2) (.mv (.const (.bool false))) none []]
def l23r5:List AOper :=
  [.mk (some 9) (.mv (.tmp 3)) none [],.mk (some 10) (.bin .add (.tmp 9) (.const (.int .i64 1))) none [0],.mk (some 3) (.mv (.tmp 10)) none [1,0,1]]
def l23r6:List AOper :=
  [.mk (some 33) (.fld 0 (.tmp 1)) none [],.mk (some 34) (.load false 1 (.tmp 33)) none [0],.mk (some 35) (.len (.tmp 34)) none [1],.mk (some 36) (.call 24 [.tmp 35,.const (.int .i64 1),.const (.int .i64 5)]) none [2],.mk (some 2) (.mv (.tmp 36)) none [3,3,0,1,2,3]]
def l23:AFn :=
  (AFn.mk 37 1 (.seq (.reg l23r0) (.seq (.seq (.reg l23r1) (.block 0 (.loop (.seq (.seq (.reg l23r2) (.cond (.tmp 8) .skip (.exit 0))) (.seq (.block 1 (.seq (.reg l23r3) (.cond (.tmp 32) (.seq (.reg l23r4) .ret) .skip))) (.reg l23r5)))))) (.seq (.reg l23r6) .ret))) [.tmp 2])
theorem l23_eq:lowFn Tryd.prog 23=some l23:=by kernel_rfl
def l24r0:List AOper :=
  [.mk (some 6) (.mv (.const (.bool false))) none []]
def l24r1:List AOper :=
  [.mk (some 7) (.mv (.tmp 1)) none [],.mk (some 8) (.mv (.tmp 0)) none [],.mk (some 9) (.bin .leq (.tmp 7) (.tmp 8)) none [0,1],.mk (some 10) (.mv (.tmp 9)) none [2],.mk (some 11) (.mv (.tmp 0)) (some (10,true)) [3],.mk (some 12) (.mv (.tmp 2)) (some (10,true)) [3],.mk (some 13) (.bin .leq (.tmp 11) (.tmp 12)) (some (10,true)) [4,5,3],.mk (some 14) (.pick (.tmp 10) (.tmp 13) (.const (.bool false))) none [3,6],.mk (some 6) (.mv (.tmp 14)) none [7,3,0,1,2,3,4,5,6,7]]
def l24:AFn :=
  (AFn.mk 15 3 (.seq (.reg l24r0) (.seq (.reg l24r1) .ret)) [.tmp 6])
theorem l24_eq:lowFn Tryd.prog 24=some l24:=by kernel_rfl
def l25r0:List AOper :=
  [.mk (some 1) (.box (.tmp 0)) none [],.mk (some 2) (.mv (.const (.slice none 0 0))) none [],.mk (some 3) (.mv (.const (.int .i64 0))) none [1]]
def l25r1:List AOper :=
  [.mk (some 8) (.bslice 1 [.int .i64 0] [] 0) none [],.mk (some 4) (.mv (.tmp 8)) none [0,0]]
def l25r2:List AOper :=
  [.mk (some 5) (.mv (.const (.int .i64 0))) none []]
def l25r3:List AOper :=
  [.mk (some 6) (.mv (.const (.int .i64 1))) none []]
def l25r4:List AOper :=
  [.mk (some 7) (.mv (.const (.int .i64 0))) none []]
def l25r5:List AOper :=
  [.mk (some 9) (.mv (.tmp 7)) none [],.mk (some 10) (.fld 0 (.tmp 1)) none [],.mk (some 11) (.load false 1 (.tmp 10)) none [1],.mk (some 12) (.len (.tmp 11)) none [2],.mk (some 13) (.bin .lss (.tmp 9) (.tmp 12)) none [0,3]]
def l25r6:List AOper :=
  [.mk (some 16) (.fld 2 (.tmp 1)) none [],.mk (some 17) (.load false 1 (.tmp 16)) none [0]]
def l25r7:List AOper :=
  [.mk (some 18) (.mv (.tmp 5)) none [],.mk (some 19) (.fld 0 (.tmp 1)) none [],.mk (some 20) (.load false 1 (.tmp 19)) none [1],.mk (some 21) (.mv (.tmp 7)) none [],.mk (some 22) (.idxA 1 (.tmp 20) (.tmp 21)) none [2,3],.mk (some 23) (.load false 1 (.tmp 22)) none [4],.mk (some 24) (.call 42 [.tmp 18,.tmp 23]) none [0,5],.mk (some 5) (.mv (.tmp 24)) none [6,6,0,1,2,3,4,5,6]]
def l25r8:List AOper :=
  [.mk (some 25) (.mv (.tmp 6)) none [],.mk (some 26) (.fld 0 (.tmp 1)) none [],.mk (some 27) (.load false 1 (.tmp 26)) none [1],.mk (some 28) (.mv (.tmp 7)) none [],.mk (some 29) (.idxA 1 (.tmp 27) (.tmp 28)) none [2,3],.mk (some 30) (.load false 1 (.tmp 29)) none [4],.mk (some 31) (.minmax true (.tmp 25) (.tmp 30)) none [0,5],.mk (some 6) (.mv (.tmp 31)) none [6,0,1,2,3,4,5,6]]
def l25r9:List AOper :=
  [.mk (some 32) (.mv (.tmp 4)) none [],.mk (some 33) (.mv (.tmp 5)) none [],.mk (some 34) (.bslice 1 [.int .i64 0] [(0,.tmp 33)] 1) none [1],.mk (some 35) (.append 1 (.tmp 32) (.tmp 34)) none [0,2],.mk (some 4) (.mv (.tmp 35)) none [3,3,0,1,2,3]]
def l25r10:List AOper :=
  [.mk (some 36) (.mv (.tmp 5)) none [],.mk (some 37) (.fld 0 (.tmp 1)) none [],.mk (some 38) (.load false 1 (.tmp 37)) none [1],.mk (some 39) (.mv (.tmp 7)) none [],.mk (some 40) (.idxA 1 (.tmp 38) (.tmp 39)) none [2,3],.mk (some 41) (.load false 1 (.tmp 40)) none [4],.mk (some 42) (.bin .add (.tmp 36) (.tmp 41)) none [0,5],.mk (some 5) (.mv (.tmp 42)) none [6,0,1,2,3,4,5,6]]
def l25r11:List AOper :=
  [.mk (some 14) (.mv (.tmp 7)) none [],.mk (some 15) (.bin .add (.tmp 14) (.const (.int .i64 1))) none [0],.mk (some 7) (.mv (.tmp 15)) none [1,0,1]]
def l25r12:List AOper :=
  [.mk (some 43) (.mv (.tmp 4)) none [],.mk (some 44) (.mv (.tmp 5)) none [],.mk (some 45) (.mv (.tmp 6)) none [],.mk (some 46) (.call 42 [.tmp 44,.tmp 45]) none [1,2],.mk (some 2) (.mv (.tmp 43)) none [0,3,0],.mk (some 3) (.mv (.tmp 46)) none [3,4,0,1,2,3,4]]
def l25:AFn :=
  (AFn.mk 47 1 (.seq (.reg l25r0) (.seq (.reg l25r1) (.seq (.reg l25r2) (.seq (.reg l25r3) (.seq (.seq (.reg l25r4) (.block 0 (.loop (.seq (.seq (.reg l25r5) (.cond (.tmp 13) .skip (.exit 0))) (.seq (.block 1 (.seq (.seq (.reg l25r6) (.cond (.tmp 17) (.seq (.reg l25r7) (.reg l25r8)) .skip)) (.seq (.reg l25r9) (.reg l25r10)))) (.reg l25r11)))))) (.seq (.reg l25r12) .ret)))))) [.tmp 2,.tmp 3])
theorem l25_eq:lowFn Tryd.prog 25=some l25:=by kernel_rfl
def l26r0:List AOper :=
  [.mk (some 1) (.box (.tmp 0)) none [],.mk (some 2) (.alloc [.int .i64 0,.slice none 0 0,.slice none 0 0]) none [],.mk (some 3) (.mv (.const (.bool false))) none []]
def l26r1:List AOper :=
  [.mk (some 4) (.load true 3 (.tmp 1)) none [],.mk (some 5) (.call 43 [.tmp 4]) none [0],.mk (some 6) (.un .not (.tmp 5)) none [1]]
def l26r2:List AOper :=
  [.mk (some 7) (.build [.int .i64 0,.slice none 0 0,.slice none 0 0] []) none [],.mk none (.store 3 (.tmp 2) (.tmp 7)) none [0,0],.mk (some 3) (.mv (.const (.bool false))) none [1,0,1]]
def l26r3:List AOper :=
  [.mk (some 8) (.load true 3 (.tmp 1)) none [],.mk (some 9) (.call 44 [.tmp 8]) none [0],.mk none (.store 3 (.tmp 2) (.tmp 9)) none [1,1,0,1],.mk (some 3) (.mv (.const (.bool true))) none [2,0,1,2]]
def l26:AFn :=
  (AFn.mk 10 1 (.seq (.reg l26r0) (.seq (.seq (.reg l26r1) (.cond (.tmp 6) (.seq (.reg l26r2) .ret) .skip)) (.seq (.reg l26r3) .ret))) [.cell 2 true 3,.tmp 3])
theorem l26_eq:lowFn Tryd.prog 26=some l26:=by kernel_rfl
def l27r0:List AOper :=
  [.mk (some 4) (.mv (.const (.bool false))) none []]
def l27r1:List AOper :=
  [.mk (some 6) (.mv (.tmp 0)) none [],.mk (some 7) (.len (.tmp 6)) none [0],.mk (some 8) (.mv (.tmp 1)) none [],.mk (some 9) (.len (.tmp 8)) none [2],.mk (some 10) (.bin .neq (.tmp 7) (.tmp 9)) none [1,3]]
def l27r2:List AOper :=
  [.mk (some 4) (.mv (.const (.bool false))) none []]
def l27r3:List AOper :=
  [.mk (some 5) (.mv (.const (.int .i64 0))) none []]
def l27r4:List AOper :=
  [.mk (some 11) (.mv (.tmp 5)) none [],.mk (some 12) (.mv (.tmp 0)) none [],.mk (some 13) (.len (.tmp 12)) none [1],.mk (some 14) (.bin .lss (.tmp 11) (.tmp 13)) none [0,2]]
def l27r5a:List AOper :=
  [.mk (some 17) (.mv (.tmp 0)) none [],.mk (some 18) (.mv (.tmp 5)) none [],.mk (some 19) (.idxA 1 (.tmp 17) (.tmp 18)) none [0,1],.mk (some 20) (.load false 1 (.tmp 19)) none [2],.mk (some 21) (.mv (.tmp 1)) none [],.mk (some 22) (.mv (.tmp 5)) none [],.mk (some 23) (.idxA 1 (.tmp 21) (.tmp 22)) none [4,5],.mk (some 24) (.load false 1 (.tmp 23)) none [6]]
def l27r5b:List AOper :=
  [.mk (some 25) (.bin .neq (.tmp 20) (.tmp 24)) none [3,7]]
def l27r5:List AOper:=l27r5a ++ l27r5b
def l27r6:List AOper :=
  [.mk (some 4) (.mv (.const (.bool false))) none []]
def l27r7:List AOper :=
  [.mk (some 15) (.mv (.tmp 5)) none [],.mk (some 16) (.bin .add (.tmp 15) (.const (.int .i64 1))) none [0],.mk (some 5) (.mv (.tmp 16)) none [1,0,1]]
def l27r8:List AOper :=
  [.mk (some 4) (.mv (.const (.bool true))) none []]
def l27:AFn :=
  (AFn.mk 26 2 (.seq (.reg l27r0) (.seq (.seq (.reg l27r1) (.cond (.tmp 10) (.seq (.reg l27r2) .ret) .skip)) (.seq (.seq (.reg l27r3) (.block 0 (.loop (.seq (.seq (.reg l27r4) (.cond (.tmp 14) .skip (.exit 0))) (.seq (.block 1 (.seq (.draw l27r5) (.cond (.tmp 25) (.seq (.reg l27r6) .ret) .skip))) (.reg l27r7)))))) (.seq (.reg l27r8) .ret)))) [.tmp 4])
theorem l27_eq:lowFn Tryd.prog 27=some l27:=by kernel_rfl
def l28r0:List AOper :=
  [.mk (some 2) (.box (.tmp 0)) none [],.mk (some 3) (.box (.tmp 1)) none [],.mk (some 4) (.mv (.const (.slice none 0 0))) none []]
def l28r1:List AOper :=
  [.mk (some 5) (.load true 3 (.tmp 2)) none [],.mk (some 6) (.call 22 [.tmp 5]) none [0],.mk (some 7) (.un .not (.tmp 6)) none [1],.mk (some 8) (.mv (.tmp 7)) none [2,1],.mk (some 9) (.load true 3 (.tmp 3)) (some (8,false)) [3],.mk (some 10) (.call 22 [.tmp 9]) (some (8,false)) [4,3,3],.mk (some 11) (.un .not (.tmp 10)) (some (8,false)) [5,3],.mk (some 12) (.pick (.tmp 8) (.const (.bool true)) (.tmp 11)) none [3,6]]
def l28r2:List AOper :=
  [.mk (some 4) (.mv (.const (.slice none 0 0))) none []]
def l28r3:List AOper :=
  [.mk (some 13) (.load true 3 (.tmp 2)) none [],.mk (some 14) (.load true 3 (.tmp 3)) none [],.mk (some 15) (.call 45 [.tmp 13,.tmp 14]) none [0,1],.mk (some 4) (.mv (.tmp 15)) none [2,2,0,1,2]]
def l28:AFn :=
  (AFn.mk 16 2 (.seq (.reg l28r0) (.seq (.seq (.reg l28r1) (.cond (.tmp 12) (.seq (.reg l28r2) .ret) .skip)) (.seq (.reg l28r3) .ret))) [.tmp 4])
theorem l28_eq:lowFn Tryd.prog 28=some l28:=by kernel_rfl
def l29r0:List AOper :=
  [.mk (some 1) (.box (.tmp 0)) none [],.mk (some 2) (.mv (.const (.slice none 0 0))) none []]
def l29r1:List AOper :=
  [.mk (some 5) (.load true 3 (.tmp 1)) none [],.mk (some 6) (.call 41 [.tmp 5]) none [0],.mk (some 7) (.mkslice 1 [.int .i64 0] (.tmp 6) (.tmp 6)) none [1,1],.mk (some 3) (.mv (.tmp 7)) none [2,1,0,1,2]]
def l29r2:List AOper :=
  [.mk (some 8) (.mv (.tmp 3)) none [],.mk (some 9) (.len (.tmp 8)) none [0],.mk (some 10) (.mv (.const (.int .i64 0))) none []]
def l29r3:List AOper :=
  [.mk (some 11) (.bin .lss (.tmp 10) (.tmp 9)) none []]
def l29r4:List AOper :=
  [.mk (some 12) (.mv (.tmp 10)) none [],.mk (some 4) (.mv (.tmp 12)) none [0,0]]
def l29r5a:List AOper :=
  [.mk (some 13) (.mv (.tmp 3)) none [],.mk (some 14) (.mv (.tmp 4)) none [],.mk (some 15) (.load true 3 (.tmp 1)) none [],.mk (some 16) (.fld 1 (.tmp 1)) none [],.mk (some 17) (.load false 1 (.tmp 16)) none [3],.mk (some 18) (.mv (.tmp 4)) none [],.mk (some 19) (.call 47 [.tmp 17,.tmp 18]) none [4,5],.mk (some 20) (.call 46 [.tmp 15,.tmp 19]) none [2,6,6]]
def l29r5b:List AOper :=
  [.mk (some 21) (.idxA 1 (.tmp 13) (.tmp 14)) none [0,1,0,1,2,3,4,5,6,7],.mk none (.store 1 (.tmp 21) (.tmp 20)) none [8,7,7,0,1,2,3,4,5,6,7]]
def l29r5:List AOper:=l29r5a ++ l29r5b
def l29r6:List AOper :=
  [.mk (some 22) (.bin .add (.tmp 10) (.const (.int .i64 1))) none [],.mk (some 10) (.mv (.tmp 22)) none [0]]
def l29r7:List AOper :=
  [.mk (some 23) (.mv (.tmp 3)) none [],.mk (some 2) (.mv (.tmp 23)) none [0,0]]
def l29:AFn :=
  (AFn.mk 24 1 (.seq (.reg l29r0) (.seq (.reg l29r1) (.seq (.seq (.reg l29r2) (.block 0 (.loop (.seq (.reg l29r3) (.seq (.cond (.tmp 11) .skip (.exit 0)) (.seq (.block 1 (.seq (.reg l29r4) (.draw l29r5))) (.reg l29r6))))))) (.seq (.reg l29r7) .ret)))) [.tmp 2])
theorem l29_eq:lowFn Tryd.prog 29=some l29:=by kernel_rfl
def l30r0:List AOper :=
  [.mk (some 2) (.mv (.const (.bool false))) none []]
def l30r1:List AOper :=
  [.mk (some 5) (.mv (.tmp 0)) none [],.mk (some 6) (.len (.tmp 5)) none [0],.mk (some 7) (.bin .gtr (.tmp 6) (.const (.int .i64 4))) none [1]]
def l30r2:List AOper :=
  [.mk (some 2) (.mv (.const (.bool false))) none []]
def l30r3:List AOper :=
  [.mk (some 8) (.mv (.tmp 0)) none [],.mk (some 9) (.len (.tmp 8)) none [0],.mk (some 10) (.mv (.const (.int .i64 0))) none []]
def l30r4:List AOper :=
  [.mk (some 11) (.bin .lss (.tmp 10) (.tmp 9)) none []]
def l30r5:List AOper :=
  [.mk (some 12) (.idxA 1 (.tmp 8) (.tmp 10)) none [],.mk (some 13) (.load false 1 (.tmp 12)) none [0],.mk (some 4) (.mv (.tmp 13)) none [1,0,1]]
def l30r6:List AOper :=
  [.mk (some 14) (.mv (.tmp 4)) none [],.mk (some 15) (.call 16 [.tmp 14,.const (.int .i64 60)]) none [0],.mk (some 16) (.un .not (.tmp 15)) none [1]]
def l30r7:List AOper :=
  [.mk (some 2) (.mv (.const (.bool false))) none []]
def l30r8:List AOper :=
  [.mk (some 17) (.bin .add (.tmp 10) (.const (.int .i64 1))) none [],.mk (some 10) (.mv (.tmp 17)) none [0]]
def l30r9:List AOper :=
  [.mk (some 18) (.mv (.tmp 0)) none [],.mk (some 19) (.call 31 [.tmp 18]) none [0],.mk (some 20) (.bin .leq (.tmp 19) (.const (.int .i64 60))) none [1],.mk (some 2) (.mv (.tmp 20)) none [2,1,0,1,2]]
def l30:AFn :=
  (AFn.mk 21 1 (.seq (.reg l30r0) (.seq (.seq (.reg l30r1) (.cond (.tmp 7) (.seq (.reg l30r2) .ret) .skip)) (.seq (.seq (.reg l30r3) (.block 0 (.loop (.seq (.reg l30r4) (.seq (.cond (.tmp 11) .skip (.exit 0)) (.seq (.block 1 (.seq (.reg l30r5) (.seq (.reg l30r6) (.cond (.tmp 16) (.seq (.reg l30r7) .ret) .skip)))) (.reg l30r8))))))) (.seq (.reg l30r9) .ret)))) [.tmp 2])
theorem l30_eq:lowFn Tryd.prog 30=some l30:=by kernel_rfl
def l31r0:List AOper :=
  [.mk (some 2) (.mv (.const (.int .i64 0))) none []]
def l31r1:List AOper :=
  [.mk (some 3) (.mv (.const (.int .i64 1))) none []]
def l31r2:List AOper :=
  [.mk (some 6) (.mv (.tmp 0)) none [],.mk (some 7) (.len (.tmp 6)) none [0],.mk (some 8) (.mv (.const (.int .i64 0))) none []]
def l31r3:List AOper :=
  [.mk (some 9) (.bin .lss (.tmp 8) (.tmp 7)) none []]
def l31r4:List AOper :=
  [.mk (some 10) (.idxA 1 (.tmp 6) (.tmp 8)) none [],.mk (some 11) (.load false 1 (.tmp 10)) none [0],.mk (some 5) (.mv (.tmp 11)) none [1,0,1]]
def l31r5:List AOper :=
  [.mk (some 12) (.mv (.tmp 3)) none [],.mk (some 13) (.mv (.tmp 5)) none [],.mk (some 14) (.bin .mul (.tmp 12) (.tmp 13)) none [0,1],.mk (some 3) (.mv (.tmp 14)) none [2,0,1,2]]
def l31r6:List AOper :=
  [.mk (some 15) (.bin .add (.tmp 8) (.const (.int .i64 1))) none [],.mk (some 8) (.mv (.tmp 15)) none [0]]
def l31r7:List AOper :=
  [.mk (some 16) (.mv (.tmp 3)) none [],.mk (some 2) (.mv (.tmp 16)) none [0,0]]
def l31:AFn :=
  (AFn.mk 17 1 (.seq (.reg l31r0) (.seq (.reg l31r1) (.seq (.seq (.reg l31r2) (.block 0 (.loop (.seq (.reg l31r3) (.seq (.cond (.tmp 9) .skip (.exit 0)) (.seq (.block 1 (.seq (.reg l31r4) (.reg l31r5))) (.reg l31r6))))))) (.seq (.reg l31r7) .ret)))) [.tmp 2])
theorem l31_eq:lowFn Tryd.prog 31=some l31:=by kernel_rfl
def l32r0:List AOper :=
  [.mk (some 2) (.mv (.const (.bool false))) none []]
def l32r1:List AOper :=
  [.mk (some 5) (.load true 3 (.global 0)) none [],.mk (some 6) (.mv (.const (.int .i64 0))) none []]
def l32r2:List AOper :=
  [.mk (some 7) (.bin .lss (.tmp 6) (.const (.int .i64 3))) none []]
def l32r3:List AOper :=
  [.mk (some 8) (.raw (Op.index 76 (.tmp 5) (.tmp 6))) none [],.mk (some 4) (.mv (.tmp 8)) none [0,0]]
def l32r4:List AOper :=
  [.mk (some 9) (.mv (.tmp 0)) none [],.mk (some 10) (.mv (.tmp 4)) none [],.mk (some 11) (.bin .eql (.tmp 9) (.tmp 10)) none [0,1]]
def l32r5:List AOper :=
  [.mk (some 2) (.mv (.const (.bool true))) none []]
def l32r6:List AOper :=
  [.mk (some 12) (.bin .add (.tmp 6) (.const (.int .i64 1))) none [],.mk (some 6) (.mv (.tmp 12)) none [0]]
def l32r7:List AOper :=
  [.mk (some 2) (.mv (.const (.bool false))) none []]
def l32:AFn :=
  (AFn.mk 13 1 (.seq (.reg l32r0) (.seq (.seq (.reg l32r1) (.block 0 (.loop (.seq (.reg l32r2) (.seq (.cond (.tmp 7) .skip (.exit 0)) (.seq (.block 1 (.seq (.reg l32r3) (.seq (.reg l32r4) (.cond (.tmp 11) (.seq (.reg l32r5) .ret) .skip)))) (.reg l32r6))))))) (.seq (.reg l32r7) .ret))) [.tmp 2])
theorem l32_eq:lowFn Tryd.prog 32=some l32:=by kernel_rfl
def l33r0:List AOper :=
  [.mk (some 3) (.box (.tmp 0)) none [],.mk (some 6) (.mv (.const (.int .i64 0))) none []]
def l33r1:List AOper :=
  [.mk (some 7) (.fld 2 (.tmp 3)) none [],.mk (some 8) (.load false 1 (.tmp 7)) none [0],.mk (some 9) (.un .not (.tmp 8)) none [1]]
def l33r2:List AOper :=
  [.mk (some 10) (.mv (.tmp 1)) none [],.mk (some 6) (.mv (.tmp 10)) none [0,0]]
def l33r3:List AOper :=
  [.mk (some 11) (.mv (.tmp 1)) none [],.mk (some 12) (.mv (.tmp 2)) none [],.mk (some 13) (.bin .add (.tmp 11) (.tmp 12)) none [0,1],.mk (some 14) (.bin .sub (.tmp 13) (.const (.int .i64 1))) none [2],.mk (some 15) (.mv (.tmp 2)) none [],.mk (some 16) (.bin .quo (.tmp 14) (.tmp 15)) none [3,4],.mk (some 17) (.mv (.tmp 2)) none [],.mk (some 18) (.bin .mul (.tmp 16) (.tmp 17)) none [5,6],.mk (some 6) (.mv (.tmp 18)) none [7,0,1,2,3,4,5,6,7]]
def l33:AFn :=
  (AFn.mk 19 3 (.seq (.reg l33r0) (.seq (.seq (.reg l33r1) (.cond (.tmp 9) (.seq (.reg l33r2) .ret) .skip)) (.seq (.reg l33r3) .ret))) [.tmp 6])
theorem l33_eq:lowFn Tryd.prog 33=some l33:=by kernel_rfl
def l34r0:List AOper :=
  [.mk (some 1) (.box (.tmp 0)) none [],.mk (some 2) (.mv (.const (.int .i64 0))) none []]
def l34r1:List AOper :=
  [.mk (some 3) (.fld 0 (.tmp 1)) none [],.mk (some 4) (.load false 1 (.tmp 3)) none [0],.mk (some 5) (.fld 1 (.tmp 1)) none [],.mk (some 6) (.load false 1 (.tmp 5)) none [2],.mk (some 7) (.bin .add (.tmp 4) (.tmp 6)) none [1,3],.mk (some 2) (.mv (.tmp 7)) none [4,0,1,2,3,4]]
def l34:AFn :=
  (AFn.mk 8 1 (.seq (.reg l34r0) (.seq (.reg l34r1) .ret)) [.tmp 2])
theorem l34_eq:lowFn Tryd.prog 34=some l34:=by kernel_rfl
def l35r0:List AOper :=
  [.mk (some 4) (.mv (.const (.int .i64 0))) none []]
def l35r1:List AOper :=
  [.mk (some 5) (.mv (.tmp 0)) none [],.mk (some 6) (.bin .sub (.tmp 5) (.const (.int .i64 1))) none [0],.mk (some 7) (.mv (.tmp 1)) none [],.mk (some 8) (.bin .sub (.tmp 6) (.tmp 7)) none [1,2],.mk (some 4) (.mv (.tmp 8)) none [3,0,1,2,3]]
def l35:AFn :=
  (AFn.mk 9 2 (.seq (.reg l35r0) (.seq (.reg l35r1) .ret)) [.tmp 4])
theorem l35_eq:lowFn Tryd.prog 35=some l35:=by kernel_rfl
def l36r0:List AOper :=
  [.mk (some 4) (.mv (.const (.int .i64 0))) none []]
def l36r1:List AOper :=
  [.mk (some 5) (.mv (.tmp 1)) none [],.mk (some 4) (.mv (.tmp 5)) none [0,0]]
def l36:AFn :=
  (AFn.mk 6 2 (.seq (.reg l36r0) (.seq (.reg l36r1) .ret)) [.tmp 4])
theorem l36_eq:lowFn Tryd.prog 36=some l36:=by kernel_rfl
def l37r0:List AOper :=
  [.mk (some 2) (.mv (.const (.slice none 0 0))) none []]
def l37r1:List AOper :=
  [.mk (some 3) (.mv (.tmp 0)) none [],.mk (some 4) (.isnil false (.tmp 3)) none [0]]
def l37r2:List AOper :=
  [.mk (some 2) (.mv (.const (.slice none 0 0))) none []]
def l37r3:List AOper :=
  [.mk (some 5) (.bslice 1 [.int .i64 0] [] 0) none [],.mk (some 6) (.mv (.tmp 0)) none [],.mk (some 7) (.append 1 (.tmp 5) (.tmp 6)) none [0,1],.mk (some 2) (.mv (.tmp 7)) none [2,2,0,1,2]]
def l37:AFn :=
  (AFn.mk 8 1 (.seq (.reg l37r0) (.seq (.seq (.reg l37r1) (.cond (.tmp 4) (.seq (.reg l37r2) .ret) .skip)) (.seq (.reg l37r3) .ret))) [.tmp 2])
theorem l37_eq:lowFn Tryd.prog 37=some l37:=by kernel_rfl
def l38r0:List AOper :=
  [.mk (some 2) (.mv (.const (.int .i64 0))) none []]
def l38r1:List AOper :=
  [.mk (some 5) (.mv (.tmp 0)) none [],.mk (some 6) (.len (.tmp 5)) none [0],.mk (some 7) (.bin .lss (.tmp 6) (.const (.int .i64 1))) none [1]]
def l38r2:List AOper :=
  [.mk (some 8) (.raw (Op.makeInterface 9 (.const (.string (ByteArray.mk (Array.mk [(115:UInt8),(108:UInt8),(105:UInt8),(99:UInt8),(101:UInt8),(115:UInt8),(46:UInt8),(77:UInt8),(97:UInt8),(120:UInt8),(58:UInt8),(32:UInt8),(101:UInt8),(109:UInt8),(112:UInt8),(116:UInt8),(121:UInt8),(32:UInt8),(108:UInt8),(105:UInt8),(115:UInt8),(116:UInt8)])))))) none [],.mk none (.raw (Op.panic (.tmp 8))) none [0]]
def l38r3:List AOper :=
  [.mk (some 9) (.mv (.tmp 0)) none [],.mk (some 10) (.idxA 1 (.tmp 9) (.const (.int .i64 0))) none [0],.mk (some 11) (.load false 1 (.tmp 10)) none [1],.mk (some 3) (.mv (.tmp 11)) none [2,0,1,2]]
def l38r4:List AOper :=
  [.mk (some 4) (.mv (.const (.int .i64 1))) none []]
def l38r5:List AOper :=
  [.mk (some 12) (.mv (.tmp 4)) none [],.mk (some 13) (.mv (.tmp 0)) none [],.mk (some 14) (.len (.tmp 13)) none [1],.mk (some 15) (.bin .lss (.tmp 12) (.tmp 14)) none [0,2]]
def l38r6:List AOper :=
  [.mk (some 18) (.mv (.tmp 3)) none [],.mk (some 19) (.mv (.tmp 0)) none [],.mk (some 20) (.mv (.tmp 4)) none [],.mk (some 21) (.idxA 1 (.tmp 19) (.tmp 20)) none [1,2],.mk (some 22) (.load false 1 (.tmp 21)) none [3],.mk (some 23) (.minmax true (.tmp 18) (.tmp 22)) none [0,4],.mk (some 3) (.mv (.tmp 23)) none [5,0,1,2,3,4,5]]
def l38r7:List AOper :=
  [.mk (some 16) (.mv (.tmp 4)) none [],.mk (some 17) (.bin .add (.tmp 16) (.const (.int .i64 1))) none [0],.mk (some 4) (.mv (.tmp 17)) none [1,0,1]]
def l38r8:List AOper :=
  [.mk (some 24) (.mv (.tmp 3)) none [],.mk (some 2) (.mv (.tmp 24)) none [0,0]]
def l38:AFn :=
  (AFn.mk 25 1 (.seq (.reg l38r0) (.seq (.seq (.reg l38r1) (.cond (.tmp 7) (.reg l38r2) .skip)) (.seq (.reg l38r3) (.seq (.seq (.reg l38r4) (.block 0 (.loop (.seq (.seq (.reg l38r5) (.cond (.tmp 15) .skip (.exit 0))) (.seq (.block 1 (.reg l38r6)) (.reg l38r7)))))) (.seq (.reg l38r8) .ret))))) [.tmp 2])
theorem l38_eq:lowFn Tryd.prog 38=some l38:=by kernel_rfl
def l39r0:List AOper :=
  [.mk (some 4) (.mv (.const (.bool false))) none []]
def l39r1:List AOper :=
  [.mk (some 7) (.mv (.tmp 0)) none [],.mk (some 8) (.len (.tmp 7)) none [0],.mk (some 9) (.mv (.tmp 1)) none [],.mk (some 10) (.bin .neq (.tmp 8) (.tmp 9)) none [1,2]]
def l39r2:List AOper :=
  [.mk (some 4) (.mv (.const (.bool false))) none []]
def l39r3:List AOper :=
  [.mk (some 11) (.mv (.tmp 0)) none [],.mk (some 12) (.len (.tmp 11)) none [0],.mk (some 13) (.mv (.const (.int .i64 0))) none []]
def l39r4:List AOper :=
  [.mk (some 14) (.bin .lss (.tmp 13) (.tmp 12)) none []]
def l39r5:List AOper :=
  [.mk (some 15) (.idxA 1 (.tmp 11) (.tmp 13)) none [],.mk (some 16) (.load false 1 (.tmp 15)) none [0],.mk (some 6) (.mv (.tmp 16)) none [1,0,1]]
def l39r6:List AOper :=
  [.mk (some 17) (.mv (.tmp 6)) none [],.mk (some 18) (.call 48 [.tmp 17,.const (.int .i64 60)]) none [0],.mk (some 19) (.un .not (.tmp 18)) none [1]]
def l39r7:List AOper :=
  [.mk (some 4) (.mv (.const (.bool false))) none []]
def l39r8:List AOper :=
  [.mk (some 20) (.bin .add (.tmp 13) (.const (.int .i64 1))) none [],.mk (some 13) (.mv (.tmp 20)) none [0]]
def l39r9:List AOper :=
  [.mk (some 4) (.mv (.const (.bool true))) none []]
def l39:AFn :=
  (AFn.mk 21 2 (.seq (.reg l39r0) (.seq (.seq (.reg l39r1) (.cond (.tmp 10) (.seq (.reg l39r2) .ret) .skip)) (.seq (.seq (.reg l39r3) (.block 0 (.loop (.seq (.reg l39r4) (.seq (.cond (.tmp 14) .skip (.exit 0)) (.seq (.block 1 (.seq (.reg l39r5) (.seq (.reg l39r6) (.cond (.tmp 19) (.seq (.reg l39r7) .ret) .skip)))) (.reg l39r8))))))) (.seq (.reg l39r9) .ret)))) [.tmp 4])
theorem l39_eq:lowFn Tryd.prog 39=some l39:=by kernel_rfl
def l40r0:List AOper :=
  [.mk (some 1) (.box (.tmp 0)) none [],.mk (some 2) (.mv (.const (.int .i64 0))) none [],.mk (some 3) (.mv (.const (.int .i64 0))) none [1]]
def l40r1:List AOper :=
  [.mk (some 9) (.load true 3 (.tmp 1)) none [],.mk (some 10) (.call 41 [.tmp 9]) none [0],.mk (some 11) (.bin .eql (.tmp 10) (.const (.int .i64 0))) none [1]]
def l40r2:List AOper :=
  [.mk (some 2) (.mv (.const (.int .i64 (-1)))) none [],.mk (some 3) (.mv (.const (.int .i64 (-1)))) none [0,0]]
def l40r3a:List AOper :=
  [.mk (some 12) (.fld 0 (.tmp 1)) none [],.mk (some 13) (.load false 1 (.tmp 12)) none [0],.mk (some 14) (.fld 0 (.tmp 1)) none [],.mk (some 15) (.load false 1 (.tmp 14)) none [2],.mk (some 4) (.mv (.tmp 13)) none [1,0,1]]
def l40r3b:List AOper :=
  [.mk (some 5) (.mv (.tmp 15)) none [3,4,0,1,2,3,4]]
def l40r3:List AOper:=l40r3a ++ l40r3b
def l40r4:List AOper :=
  [.mk (some 16) (.fld 2 (.tmp 1)) none [],.mk (some 17) (.load false 1 (.tmp 16)) none [0],.mk (some 18) (.len (.tmp 17)) none [1],.mk (some 19) (.mv (.const (.int .i64 0))) none []]
def l40r5:List AOper :=
  [.mk (some 20) (.bin .lss (.tmp 19) (.tmp 18)) none []]
def l40r6:List AOper :=
  [.mk (some 21) (.mv (.tmp 19)) none [],.mk (some 22) (.idxA 1 (.tmp 17) (.tmp 19)) none [],.mk (some 23) (.load false 1 (.tmp 22)) none [1],.mk (some 6) (.mv (.tmp 21)) none [0,0,1,2],.mk (some 7) (.mv (.tmp 23)) none [2,3,0,1,2,3]]
def l40r7:List AOper :=
  [.mk (some 24) (.fld 1 (.tmp 1)) none [],.mk (some 25) (.load false 1 (.tmp 24)) none [0],.mk (some 26) (.mv (.tmp 6)) none [],.mk (some 27) (.idxA 1 (.tmp 25) (.tmp 26)) none [1,2],.mk (some 28) (.load false 1 (.tmp 27)) none [3],.mk (some 29) (.bin .sub (.tmp 28) (.const (.int .i64 1))) none [4],.mk (some 30) (.mv (.tmp 7)) none [],.mk (some 31) (.bin .mul (.tmp 29) (.tmp 30)) none [5,6],.mk (some 8) (.mv (.tmp 31)) none [7,0,1,2,3,4,5,6,7]]
def l40r8:List AOper :=
  [.mk (some 32) (.mv (.tmp 4)) none [],.mk (some 33) (.mv (.tmp 8)) none [],.mk (some 34) (.minmax false (.tmp 33) (.const (.int .i64 0))) none [1],.mk (some 35) (.bin .add (.tmp 32) (.tmp 34)) none [0,2],.mk (some 4) (.mv (.tmp 35)) none [3,0,1,2,3]]
def l40r9:List AOper :=
  [.mk (some 36) (.mv (.tmp 5)) none [],.mk (some 37) (.mv (.tmp 8)) none [],.mk (some 38) (.minmax true (.tmp 37) (.const (.int .i64 0))) none [1],.mk (some 39) (.bin .add (.tmp 36) (.tmp 38)) none [0,2],.mk (some 5) (.mv (.tmp 39)) none [3,0,1,2,3]]
def l40r10:List AOper :=
  [.mk (some 40) (.bin .add (.tmp 19) (.const (.int .i64 1))) none [],.mk (some 19) (.mv (.tmp 40)) none [0]]
def l40r11:List AOper :=
  [.mk (some 41) (.mv (.tmp 4)) none [],.mk (some 42) (.mv (.tmp 5)) none [],.mk (some 2) (.mv (.tmp 41)) none [0,0],.mk (some 3) (.mv (.tmp 42)) none [1,2,0,1,2]]
def l40:AFn :=
  (AFn.mk 43 1 (.seq (.reg l40r0) (.seq (.seq (.reg l40r1) (.cond (.tmp 11) (.seq (.reg l40r2) .ret) .skip)) (.seq (.draw l40r3) (.seq (.seq (.reg l40r4) (.block 0 (.loop (.seq (.reg l40r5) (.seq (.cond (.tmp 20) .skip (.exit 0)) (.seq (.block 1 (.seq (.reg l40r6) (.seq (.reg l40r7) (.seq (.reg l40r8) (.reg l40r9))))) (.reg l40r10))))))) (.seq (.reg l40r11) .ret))))) [.tmp 2,.tmp 3])
theorem l40_eq:lowFn Tryd.prog 40=some l40:=by kernel_rfl
def l41r0:List AOper :=
  [.mk (some 1) (.box (.tmp 0)) none [],.mk (some 2) (.mv (.const (.int .i64 0))) none []]
def l41r1:List AOper :=
  [.mk (some 3) (.fld 1 (.tmp 1)) none [],.mk (some 4) (.load false 1 (.tmp 3)) none [0],.mk (some 5) (.call 31 [.tmp 4]) none [1],.mk (some 2) (.mv (.tmp 5)) none [2,2,0,1,2]]
def l41:AFn :=
  (AFn.mk 6 1 (.seq (.reg l41r0) (.seq (.reg l41r1) .ret)) [.tmp 2])
theorem l41_eq:lowFn Tryd.prog 41=some l41:=by kernel_rfl
def l42r0:List AOper :=
  [.mk (some 4) (.mv (.const (.int .i64 0))) none []]
def l42r1:List AOper :=
  [.mk (some 5) (.mv (.tmp 0)) none [],.mk (some 6) (.mv (.tmp 1)) none [],.mk (some 7) (.bin .add (.tmp 5) (.tmp 6)) none [0,1],.mk (some 8) (.bin .sub (.tmp 7) (.const (.int .i64 1))) none [2],.mk (some 9) (.mv (.tmp 1)) none [],.mk (some 10) (.bin .quo (.tmp 8) (.tmp 9)) none [3,4],.mk (some 11) (.mv (.tmp 1)) none [],.mk (some 12) (.bin .mul (.tmp 10) (.tmp 11)) none [5,6],.mk (some 4) (.mv (.tmp 12)) none [7,0,1,2,3,4,5,6,7]]
def l42:AFn :=
  (AFn.mk 13 2 (.seq (.reg l42r0) (.seq (.reg l42r1) .ret)) [.tmp 4])
theorem l42_eq:lowFn Tryd.prog 42=some l42:=by kernel_rfl
def l43r0:List AOper :=
  [.mk (some 1) (.box (.tmp 0)) none [],.mk (some 2) (.mv (.const (.bool false))) none []]
def l43r1:List AOper :=
  [.mk (some 3) (.fld 1 (.tmp 1)) none [],.mk (some 4) (.load false 1 (.tmp 3)) none [0],.mk (some 5) (.call 49 [.tmp 4]) none [1],.mk (some 6) (.mv (.tmp 5)) none [2,2],.mk (some 7) (.fld 2 (.tmp 1)) (some (6,true)) [3],.mk (some 8) (.load false 1 (.tmp 7)) (some (6,true)) [4,3],.mk (some 9) (.len (.tmp 8)) (some (6,true)) [5,3],.mk (some 10) (.fld 1 (.tmp 1)) (some (6,true)) [3],.mk (some 11) (.load false 1 (.tmp 10)) (some (6,true)) [7,3],.mk (some 12) (.len (.tmp 11)) (some (6,true)) [8,3],.mk (some 13) (.bin .eql (.tmp 9) (.tmp 12)) (some (6,true)) [6,9,3],.mk (some 14) (.pick (.tmp 6) (.tmp 13) (.const (.bool false))) none [3,10],.mk (some 15) (.mv (.tmp 14)) none [11,3],.mk (some 16) (.fld 2 (.tmp 1)) (some (15,true)) [12],.mk (some 17) (.load false 1 (.tmp 16)) (some (15,true)) [13,12],.mk (some 18) (.call 50 [.tmp 17,.const (.int .i64 (-60)),.const (.int .i64 60)]) (some (15,true)) [14,12,12],.mk (some 19) (.pick (.tmp 15) (.tmp 18) (.const (.bool false))) none [12,15],.mk (some 20) (.mv (.tmp 19)) none [16,15],.mk (some 21) (.fld 0 (.tmp 1)) (some (20,true)) [17],.mk (some 22) (.load false 1 (.tmp 21)) (some (20,true)) [18,17],.mk (some 23) (.call 24 [.tmp 22,.const (.int .i64 0),.const (.int .i64 60)]) (some (20,true)) [19,17,17],.mk (some 24) (.pick (.tmp 20) (.tmp 23) (.const (.bool false))) none [17,20],.mk (some 25) (.mv (.tmp 24)) none [21,20],.mk (some 26) (.fld 1 (.tmp 1)) (some (25,true)) [22],.mk (some 27) (.load false 1 (.tmp 26)) (some (25,true)) [23,22],.mk (some 28) (.call 51 [.tmp 27]) (some (25,true)) [24,22,22],.mk (some 29) (.bin .eql (.tmp 28) (.const (.int .i64 0))) (some (25,true)) [25,22],.mk (some 30) (.mv (.tmp 29)) (some (25,true)) [26,25,22],.mk (some 31) (.load true 3 (.tmp 1)) (some (30,false)) [27],.mk (some 32) (.call 52 [.tmp 31]) (some (30,false)) [28,27,27],.mk (some 33) (.call 50 [.tmp 32,.const (.int .i64 0),.const (.int .i64 59)]) (some (30,false)) [29,29,27],.mk (some 34) (.pick (.tmp 30) (.const (.bool true)) (.tmp 33)) (some (25,true)) [27,30,22],.mk (some 35) (.pick (.tmp 25) (.tmp 34) (.const (.bool false))) none [22,31],.mk (some 2) (.mv (.tmp 35)) none [32,30,0,1,2,3,4,5,6,7,8,9,10,11,12,13,14,15,16,17,18,19,20,21,22,23,24,25,26,27,28,29,30,31,32]]
def l43:AFn :=
  (AFn.mk 36 1 (.seq (.reg l43r0) (.seq (.reg l43r1) .ret)) [.tmp 2])
theorem l43_eq:lowFn Tryd.prog 43=some l43:=by kernel_rfl
def l44r0:List AOper :=
  [.mk (some 1) (.box (.tmp 0)) none [],.mk (some 2) (.alloc [.int .i64 0,.slice none 0 0,.slice none 0 0]) none []]
def l44r1a:List AOper :=
  [.mk (some 3) (.fld 0 (.tmp 1)) none [],.mk (some 4) (.load false 1 (.tmp 3)) none [0],.mk (some 5) (.fld 1 (.tmp 1)) none [],.mk (some 6) (.load false 1 (.tmp 5)) none [2],.mk (some 7) (.call 53 [.tmp 6]) none [3],.mk (some 8) (.fld 2 (.tmp 1)) none [],.mk (some 9) (.load false 1 (.tmp 8)) none [5],.mk (some 10) (.call 53 [.tmp 9]) none [6,4]]
def l44r1b:List AOper :=
  [.mk (some 11) (.build [.int .i64 0,.slice none 0 0,.slice none 0 0] [(0,1,.tmp 4),(1,1,.tmp 7),(2,1,.tmp 10)]) none [1,4,7],.mk none (.store 3 (.tmp 2) (.tmp 11)) none [8,7,0,1,2,3,4,5,6,7,8]]
def l44r1:List AOper:=l44r1a ++ l44r1b
def l44:AFn :=
  (AFn.mk 12 1 (.seq (.reg l44r0) (.seq (.draw l44r1) .ret)) [.cell 2 true 3])
theorem l44_eq:lowFn Tryd.prog 44=some l44:=by kernel_rfl
def l45r0:List AOper :=
  [.mk (some 2) (.box (.tmp 0)) none [],.mk (some 3) (.box (.tmp 1)) none [],.mk (some 4) (.mv (.const (.slice none 0 0))) none []]
def l45r1:List AOper :=
  [.mk (some 6) (.raw (Op.makeMap 79 none)) none [],.mk (some 5) (.mv (.tmp 6)) none [0,0]]
def l45r2:List AOper :=
  [.mk (some 7) (.mv (.tmp 5)) none [],.mk (some 8) (.load true 3 (.tmp 2)) none [],.mk (some 9) (.call 55 [.tmp 8]) none [1],.mk (some 10) (.call 54 [.tmp 7,.tmp 9]) none [0,2,2]]
def l45r3:List AOper :=
  [.mk (some 11) (.mv (.tmp 5)) none [],.mk (some 12) (.load true 3 (.tmp 3)) none [],.mk (some 13) (.call 55 [.tmp 12]) none [1],.mk (some 14) (.call 54 [.tmp 11,.tmp 13]) none [0,2,2]]
def l45r4:List AOper :=
  [.mk (some 15) (.mv (.tmp 5)) none [],.mk (some 16) (.call 56 [.tmp 15,.const (.int .i64 2)]) none [0],.mk (some 4) (.mv (.tmp 16)) none [1,1,0,1]]
def l45:AFn :=
  (AFn.mk 17 2 (.seq (.reg l45r0) (.seq (.reg l45r1) (.seq (.reg l45r2) (.seq (.reg l45r3) (.seq (.reg l45r4) .ret))))) [.tmp 4])
theorem l45_eq:lowFn Tryd.prog 45=some l45:=by kernel_rfl
def l46r0:List AOper :=
  [.mk (some 2) (.box (.tmp 0)) none [],.mk (some 3) (.box (.tmp 1)) none [],.mk (some 4) (.mv (.const (.int .i64 0))) none []]
def l46r1a:List AOper :=
  [.mk (some 5) (.fld 0 (.tmp 2)) none [],.mk (some 6) (.load false 1 (.tmp 5)) none [0],.mk (some 7) (.load true 4 (.tmp 3)) none [],.mk (some 8) (.fld 2 (.tmp 2)) none [],.mk (some 9) (.load false 1 (.tmp 8)) none [3],.mk (some 10) (.call 57 [.tmp 7,.tmp 9]) none [2,4]]
def l46r1b:List AOper :=
  [.mk (some 11) (.bin .add (.tmp 6) (.tmp 10)) none [1,5],.mk (some 4) (.mv (.tmp 11)) none [6,5,0,1,2,3,4,5,6]]
def l46r1:List AOper:=l46r1a ++ l46r1b
def l46:AFn :=
  (AFn.mk 12 2 (.seq (.reg l46r0) (.seq (.draw l46r1) .ret)) [.tmp 4])
theorem l46_eq:lowFn Tryd.prog 46=some l46:=by kernel_rfl
def l47r0:List AOper :=
  [.mk (some 4) (.alloc [.int .i64 0,.int .i64 0,.int .i64 0,.int .i64 0]) none []]
def l47r1:List AOper :=
  [.mk (some 5) (.alloc [.int .i64 0,.int .i64 0,.int .i64 0,.int .i64 0]) none []]
def l47r2:List AOper :=
  [.mk (some 7) (.mv (.tmp 0)) none [],.mk (some 8) (.len (.tmp 7)) none [0],.mk (some 9) (.bin .sub (.tmp 8) (.const (.int .i64 1))) none [1],.mk (some 6) (.mv (.tmp 9)) none [2,0,1,2]]
def l47r3:List AOper :=
  [.mk (some 10) (.mv (.tmp 6)) none [],.mk (some 11) (.bin .geq (.tmp 10) (.const (.int .i64 0))) none [0]]
def l47r4:List AOper :=
  [.mk (some 14) (.mv (.tmp 6)) none [],.mk (some 15) (.mv (.tmp 1)) none [],.mk (some 16) (.mv (.tmp 0)) none [],.mk (some 17) (.mv (.tmp 6)) none [],.mk (some 18) (.idxA 1 (.tmp 16) (.tmp 17)) none [2,3],.mk (some 19) (.load false 1 (.tmp 18)) none [4],.mk (some 20) (.bin .rem (.tmp 15) (.tmp 19)) none [1,5],.mk (some 21) (.idxP 1 4 (.tmp 5) (.tmp 14)) none [0,0,1,2,3,4,5,6],.mk none (.store 1 (.tmp 21) (.tmp 20)) none [7,6,0,1,2,3,4,5,6]]
def l47r5:List AOper :=
  [.mk (some 22) (.mv (.tmp 1)) none [],.mk (some 23) (.mv (.tmp 0)) none [],.mk (some 24) (.mv (.tmp 6)) none [],.mk (some 25) (.idxA 1 (.tmp 23) (.tmp 24)) none [1,2],.mk (some 26) (.load false 1 (.tmp 25)) none [3],.mk (some 27) (.bin .quo (.tmp 22) (.tmp 26)) none [0,4],.mk (some 1) (.mv (.tmp 27)) none [5,0,1,2,3,4,5]]
def l47r6:List AOper :=
  [.mk (some 12) (.mv (.tmp 6)) none [],.mk (some 13) (.bin .sub (.tmp 12) (.const (.int .i64 1))) none [0],.mk (some 6) (.mv (.tmp 13)) none [1,0,1]]
def l47r7:List AOper :=
  [.mk (some 28) (.load true 4 (.tmp 5)) none [],.mk none (.store 4 (.tmp 4) (.tmp 28)) none [0,0]]
def l47:AFn :=
  (AFn.mk 29 2 (.seq (.reg l47r0) (.seq (.reg l47r1) (.seq (.seq (.reg l47r2) (.block 0 (.loop (.seq (.seq (.reg l47r3) (.cond (.tmp 11) .skip (.exit 0))) (.seq (.block 1 (.seq (.reg l47r4) (.reg l47r5))) (.reg l47r6)))))) (.seq (.reg l47r7) .ret)))) [.cell 4 true 4])
theorem l47_eq:lowFn Tryd.prog 47=some l47:=by kernel_rfl
def l48r0:List AOper :=
  [.mk (some 4) (.mv (.const (.bool false))) none []]
def l48r1:List AOper :=
  [.mk (some 5) (.mv (.tmp 1)) none [],.mk (some 6) (.un .neg (.tmp 5)) none [0],.mk (some 7) (.mv (.tmp 0)) none [],.mk (some 8) (.bin .leq (.tmp 6) (.tmp 7)) none [1,2],.mk (some 9) (.mv (.tmp 8)) none [3],.mk (some 10) (.mv (.tmp 0)) (some (9,true)) [4],.mk (some 11) (.mv (.tmp 1)) (some (9,true)) [4],.mk (some 12) (.bin .leq (.tmp 10) (.tmp 11)) (some (9,true)) [5,6,4],.mk (some 13) (.pick (.tmp 9) (.tmp 12) (.const (.bool false))) none [4,7],.mk (some 4) (.mv (.tmp 13)) none [8,4,0,1,2,3,4,5,6,7,8]]
def l48:AFn :=
  (AFn.mk 14 2 (.seq (.reg l48r0) (.seq (.reg l48r1) .ret)) [.tmp 4])
theorem l48_eq:lowFn Tryd.prog 48=some l48:=by kernel_rfl
def l49r0:List AOper :=
  [.mk (some 2) (.mv (.const (.bool false))) none []]
def l49r1:List AOper :=
  [.mk (some 3) (.mv (.tmp 0)) none [],.mk (some 4) (.len (.tmp 3)) none [0],.mk (some 5) (.bin .leq (.tmp 4) (.const (.int .i64 4))) none [1],.mk (some 6) (.mv (.tmp 5)) none [2],.mk (some 7) (.mv (.tmp 0)) (some (6,true)) [3],.mk (some 8) (.call 50 [.tmp 7,.const (.int .i64 0),.const (.int .i64 60)]) (some (6,true)) [4,3,3],.mk (some 9) (.pick (.tmp 6) (.tmp 8) (.const (.bool false))) none [3,5],.mk (some 10) (.mv (.tmp 9)) none [6,5],.mk (some 11) (.mv (.tmp 0)) (some (10,true)) [7],.mk (some 12) (.call 51 [.tmp 11]) (some (10,true)) [8,7,7],.mk (some 13) (.bin .leq (.tmp 12) (.const (.int .i64 60))) (some (10,true)) [9,7],.mk (some 14) (.pick (.tmp 10) (.tmp 13) (.const (.bool false))) none [7,10],.mk (some 2) (.mv (.tmp 14)) none [11,9,0,1,2,3,4,5,6,7,8,9,10,11]]
def l49:AFn :=
  (AFn.mk 15 1 (.seq (.reg l49r0) (.seq (.reg l49r1) .ret)) [.tmp 2])
theorem l49_eq:lowFn Tryd.prog 49=some l49:=by kernel_rfl
def l50r0:List AOper :=
  [.mk (some 6) (.mv (.const (.bool false))) none []]
def l50r1:List AOper :=
  [.mk (some 7) (.mv (.const (.int .i64 0))) none []]
def l50r2:List AOper :=
  [.mk (some 8) (.mv (.tmp 7)) none [],.mk (some 9) (.mv (.tmp 0)) none [],.mk (some 10) (.len (.tmp 9)) none [1],.mk (some 11) (.bin .lss (.tmp 8) (.tmp 10)) none [0,2]]
def l50r3:List AOper :=
  [.mk (some 14) (.mv (.tmp 0)) none [],.mk (some 15) (.mv (.tmp 7)) none [],.mk (some 16) (.idxA 1 (.tmp 14) (.tmp 15)) none [0,1],.mk (some 17) (.load false 1 (.tmp 16)) none [2],.mk (some 18) (.mv (.tmp 1)) none [],.mk (some 19) (.mv (.tmp 2)) none [],.mk (some 20) (.call 24 [.tmp 17,.tmp 18,.tmp 19]) none [3,4,5],.mk (some 21) (.un .not (.tmp 20)) none [6]]
def l50r4:List AOper :=
  [.mk (some 6) (.mv (.const (.bool false))) none []]
def l50r5:List AOper :=
  [.mk (some 12) (.mv (.tmp 7)) none [],.mk (some 13) (.bin .add (.tmp 12) (.const (.int .i64 1))) none [0],.mk (some 7) (.mv (.tmp 13)) none [1,0,1]]
def l50r6:List AOper :=
  [.mk (some 6) (.mv (.const (.bool true))) none []]
def l50:AFn :=
  (AFn.mk 22 3 (.seq (.reg l50r0) (.seq (.seq (.reg l50r1) (.block 0 (.loop (.seq (.seq (.reg l50r2) (.cond (.tmp 11) .skip (.exit 0))) (.seq (.block 1 (.seq (.reg l50r3) (.cond (.tmp 21) (.seq (.reg l50r4) .ret) .skip))) (.reg l50r5)))))) (.seq (.reg l50r6) .ret))) [.tmp 6])
theorem l50_eq:lowFn Tryd.prog 50=some l50:=by kernel_rfl
def l51r0:List AOper :=
  [.mk (some 2) (.mv (.const (.int .i64 0))) none []]
def l51r1:List AOper :=
  [.mk (some 3) (.mv (.const (.int .i64 1))) none []]
def l51r2:List AOper :=
  [.mk (some 4) (.mv (.const (.int .i64 0))) none []]
def l51r3:List AOper :=
  [.mk (some 5) (.mv (.tmp 4)) none [],.mk (some 6) (.mv (.tmp 0)) none [],.mk (some 7) (.len (.tmp 6)) none [1],.mk (some 8) (.bin .lss (.tmp 5) (.tmp 7)) none [0,2]]
def l51r4:List AOper :=
  [.mk (some 11) (.mv (.tmp 3)) none [],.mk (some 12) (.mv (.tmp 0)) none [],.mk (some 13) (.mv (.tmp 4)) none [],.mk (some 14) (.idxA 1 (.tmp 12) (.tmp 13)) none [1,2],.mk (some 15) (.load false 1 (.tmp 14)) none [3],.mk (some 16) (.bin .mul (.tmp 11) (.tmp 15)) none [0,4],.mk (some 3) (.mv (.tmp 16)) none [5,0,1,2,3,4,5]]
def l51r5:List AOper :=
  [.mk (some 9) (.mv (.tmp 4)) none [],.mk (some 10) (.bin .add (.tmp 9) (.const (.int .i64 1))) none [0],.mk (some 4) (.mv (.tmp 10)) none [1,0,1]]
def l51r6:List AOper :=
  [.mk (some 17) (.mv (.tmp 3)) none [],.mk (some 2) (.mv (.tmp 17)) none [0,0]]
def l51:AFn :=
  (AFn.mk 18 1 (.seq (.reg l51r0) (.seq (.reg l51r1) (.seq (.seq (.reg l51r2) (.block 0 (.loop (.seq (.seq (.reg l51r3) (.cond (.tmp 8) .skip (.exit 0))) (.seq (.block 1 (.reg l51r4)) (.reg l51r5)))))) (.seq (.reg l51r6) .ret)))) [.tmp 2])
theorem l51_eq:lowFn Tryd.prog 51=some l51:=by kernel_rfl
def l52r0:List AOper :=
  [.mk (some 1) (.box (.tmp 0)) none [],.mk (some 2) (.mv (.const (.slice none 0 0))) none []]
def l52r1:List AOper :=
  [.mk (some 5) (.bslice 1 [.int .i64 0] [] 0) none [],.mk (some 3) (.mv (.tmp 5)) none [0,0]]
def l52r2:List AOper :=
  [.mk (some 4) (.mv (.const (.int .i64 0))) none []]
def l52r3:List AOper :=
  [.mk (some 6) (.mv (.tmp 4)) none [],.mk (some 7) (.fld 1 (.tmp 1)) none [],.mk (some 8) (.load false 1 (.tmp 7)) none [1],.mk (some 9) (.call 51 [.tmp 8]) none [2],.mk (some 10) (.bin .lss (.tmp 6) (.tmp 9)) none [0,3]]
def l52r4a:List AOper :=
  [.mk (some 13) (.mv (.tmp 3)) none [],.mk (some 14) (.load true 3 (.tmp 1)) none [],.mk (some 15) (.fld 1 (.tmp 1)) none [],.mk (some 16) (.load false 1 (.tmp 15)) none [2],.mk (some 17) (.mv (.tmp 4)) none [],.mk (some 18) (.call 59 [.tmp 16,.tmp 17]) none [3,4],.mk (some 19) (.call 58 [.tmp 14,.tmp 18]) none [1,5,5],.mk (some 20) (.bslice 1 [.int .i64 0] [(0,.tmp 19)] 1) none [6]]
def l52r4b:List AOper :=
  [.mk (some 21) (.append 1 (.tmp 13) (.tmp 20)) none [0,7,6],.mk (some 3) (.mv (.tmp 21)) none [8,8,0,1,2,3,4,5,6,7,8]]
def l52r4:List AOper:=l52r4a ++ l52r4b
def l52r5:List AOper :=
  [.mk (some 11) (.mv (.tmp 4)) none [],.mk (some 12) (.bin .add (.tmp 11) (.const (.int .i64 1))) none [0],.mk (some 4) (.mv (.tmp 12)) none [1,0,1]]
def l52r6:List AOper :=
  [.mk (some 22) (.mv (.tmp 3)) none [],.mk (some 2) (.mv (.tmp 22)) none [0,0]]
def l52:AFn :=
  (AFn.mk 23 1 (.seq (.reg l52r0) (.seq (.reg l52r1) (.seq (.seq (.reg l52r2) (.block 0 (.loop (.seq (.seq (.reg l52r3) (.cond (.tmp 10) .skip (.exit 0))) (.seq (.block 1 (.draw l52r4)) (.reg l52r5)))))) (.seq (.reg l52r6) .ret)))) [.tmp 2])
theorem l52_eq:lowFn Tryd.prog 52=some l52:=by kernel_rfl
def l53r0:List AOper :=
  [.mk (some 2) (.mv (.const (.slice none 0 0))) none []]
def l53r1:List AOper :=
  [.mk (some 3) (.bslice 1 [.int .i64 0] [] 0) none [],.mk (some 4) (.mv (.tmp 0)) none [],.mk (some 5) (.append 1 (.tmp 3) (.tmp 4)) none [0,1],.mk (some 2) (.mv (.tmp 5)) none [2,2,0,1,2]]
def l53:AFn :=
  (AFn.mk 6 1 (.seq (.reg l53r0) (.seq (.reg l53r1) .ret)) [.tmp 2])
theorem l53_eq:lowFn Tryd.prog 53=some l53:=by kernel_rfl
def l54r0:List AOper :=
  [.mk (some 6) (.mv (.tmp 1)) none [],.mk (some 7) (.len (.tmp 6)) none [0],.mk (some 8) (.mv (.const (.int .i64 0))) none []]
def l54r1:List AOper :=
  [.mk (some 9) (.bin .lss (.tmp 8) (.tmp 7)) none []]
def l54r2:List AOper :=
  [.mk (some 10) (.idxA 1 (.tmp 6) (.tmp 8)) none [],.mk (some 11) (.load false 1 (.tmp 10)) none [0],.mk (some 5) (.mv (.tmp 11)) none [1,0,1]]
def l54r3:List AOper :=
  [.mk (some 12) (.mv (.tmp 0)) none [],.mk (some 13) (.mv (.tmp 5)) none [],.mk (some 14) (.raw (Op.lookup 79 (.tmp 12) (.tmp 13) false)) none [0,1],.mk (some 15) (.bin .add (.tmp 14) (.const (.int .i64 1))) none [2],.mk none (.raw (Op.mapUpdate 79 (.tmp 12) (.tmp 13) (.tmp 15))) none [0,1,3,0,1,2,3]]
def l54r4:List AOper :=
  [.mk (some 16) (.bin .add (.tmp 8) (.const (.int .i64 1))) none [],.mk (some 8) (.mv (.tmp 16)) none [0]]
def l54:AFn :=
  (AFn.mk 17 2 (.seq (.reg l54r0) (.block 0 (.loop (.seq (.reg l54r1) (.seq (.cond (.tmp 9) .skip (.exit 0)) (.seq (.block 1 (.seq (.reg l54r2) (.reg l54r3))) (.reg l54r4))))))) [])
theorem l54_eq:lowFn Tryd.prog 54=some l54:=by kernel_rfl
def l55r0:List AOper :=
  [.mk (some 1) (.box (.tmp 0)) none [],.mk (some 2) (.mv (.const (.slice none 0 0))) none []]
def l55r1:List AOper :=
  [.mk (some 3) (.load true 3 (.tmp 1)) none [],.mk (some 4) (.bslice 3 [.int .i64 0,.slice none 0 0,.slice none 0 0] [(0,.tmp 3)] 1) none [0],.mk (some 5) (.call 60 [.tmp 4]) none [1],.mk (some 6) (.call 56 [.tmp 5,.const (.int .i64 1)]) none [2,2],.mk (some 2) (.mv (.tmp 6)) none [3,3,0,1,2,3]]
def l55:AFn :=
  (AFn.mk 7 1 (.seq (.reg l55r0) (.seq (.reg l55r1) .ret)) [.tmp 2])
theorem l55_eq:lowFn Tryd.prog 55=some l55:=by kernel_rfl
def l56r0:List AOper :=
  [.mk (some 4) (.mv (.const (.slice none 0 0))) none []]
def l56r1:List AOper :=
  [.mk (some 5) (.mv (.const (.slice none 0 0))) none []]
def l56r2:List AOper :=
  [.mk (some 8) (.mv (.tmp 0)) none [],.mk (some 9) (.raw (Op.range 79 (.tmp 8))) none [0]]
def l56r3:List AOper :=
  [.mk (some 10) (.raw (Op.next (.tmp 9) false)) none [],.mk (some 11) (.extract (.tmp 10) 0) none [0]]
def l56r4:List AOper :=
  [.mk (some 12) (.raw (Op.entry (.tmp 9))) none [],.mk (some 13) (.extract (.tmp 12) 0) none [0],.mk (some 14) (.extract (.tmp 12) 1) none [0],.mk (some 6) (.mv (.tmp 13)) none [1,0,1],.mk (some 7) (.mv (.tmp 14)) none [2,3,0,1,2,3]]
def l56r5:List AOper :=
  [.mk (some 15) (.mv (.tmp 7)) none [],.mk (some 16) (.mv (.tmp 1)) none [],.mk (some 17) (.bin .geq (.tmp 15) (.tmp 16)) none [0,1]]
def l56r6:List AOper :=
  [.mk (some 18) (.mv (.tmp 5)) none [],.mk (some 19) (.mv (.tmp 6)) none [],.mk (some 20) (.bslice 1 [.int .i64 0] [(0,.tmp 19)] 1) none [1],.mk (some 21) (.append 1 (.tmp 18) (.tmp 20)) none [0,2],.mk (some 5) (.mv (.tmp 21)) none [3,3,0,1,2,3]]
def l56r7:List AOper :=
  [.mk (some 22) (.mv (.tmp 5)) none [],.mk (some 23) (.call 61 [.tmp 22]) none [0]]
def l56r8:List AOper :=
  [.mk (some 24) (.mv (.tmp 5)) none [],.mk (some 4) (.mv (.tmp 24)) none [0,0]]
def l56:AFn :=
  (AFn.mk 25 2 (.seq (.reg l56r0) (.seq (.reg l56r1) (.seq (.seq (.reg l56r2) (.block 0 (.loop (.seq (.reg l56r3) (.seq (.cond (.tmp 11) .skip (.exit 0)) (.block 1 (.seq (.reg l56r4) (.seq (.reg l56r5) (.cond (.tmp 17) (.reg l56r6) .skip))))))))) (.seq (.reg l56r7) (.seq (.reg l56r8) .ret))))) [.tmp 4])
theorem l56_eq:lowFn Tryd.prog 56=some l56:=by kernel_rfl
def l57r0:List AOper :=
  [.mk (some 2) (.box (.tmp 0)) none [],.mk (some 4) (.mv (.const (.int .i64 0))) none []]
def l57r1:List AOper :=
  [.mk (some 5) (.mv (.const (.int .i64 0))) none []]
def l57r2:List AOper :=
  [.mk (some 8) (.mv (.tmp 1)) none [],.mk (some 9) (.len (.tmp 8)) none [0],.mk (some 10) (.mv (.const (.int .i64 0))) none []]
def l57r3:List AOper :=
  [.mk (some 11) (.bin .lss (.tmp 10) (.tmp 9)) none []]
def l57r4:List AOper :=
  [.mk (some 12) (.mv (.tmp 10)) none [],.mk (some 13) (.idxA 1 (.tmp 8) (.tmp 10)) none [],.mk (some 14) (.load false 1 (.tmp 13)) none [1],.mk (some 6) (.mv (.tmp 12)) none [0,0,1,2],.mk (some 7) (.mv (.tmp 14)) none [2,3,0,1,2,3]]
def l57r5:List AOper :=
  [.mk (some 15) (.mv (.tmp 5)) none [],.mk (some 16) (.mv (.tmp 6)) none [],.mk (some 17) (.idxP 1 4 (.tmp 2) (.tmp 16)) none [1],.mk (some 18) (.load false 1 (.tmp 17)) none [2],.mk (some 19) (.mv (.tmp 7)) none [],.mk (some 20) (.bin .mul (.tmp 18) (.tmp 19)) none [3,4],.mk (some 21) (.bin .add (.tmp 15) (.tmp 20)) none [0,5],.mk (some 5) (.mv (.tmp 21)) none [6,0,1,2,3,4,5,6]]
def l57r6:List AOper :=
  [.mk (some 22) (.bin .add (.tmp 10) (.const (.int .i64 1))) none [],.mk (some 10) (.mv (.tmp 22)) none [0]]
def l57r7:List AOper :=
  [.mk (some 23) (.mv (.tmp 5)) none [],.mk (some 4) (.mv (.tmp 23)) none [0,0]]
def l57:AFn :=
  (AFn.mk 24 2 (.seq (.reg l57r0) (.seq (.reg l57r1) (.seq (.seq (.reg l57r2) (.block 0 (.loop (.seq (.reg l57r3) (.seq (.cond (.tmp 11) .skip (.exit 0)) (.seq (.block 1 (.seq (.reg l57r4) (.reg l57r5))) (.reg l57r6))))))) (.seq (.reg l57r7) .ret)))) [.tmp 4])
theorem l57_eq:lowFn Tryd.prog 57=some l57:=by kernel_rfl
def l58r0:List AOper :=
  [.mk (some 2) (.box (.tmp 0)) none [],.mk (some 4) (.mv (.const (.int .i64 0))) none []]
def l58r1:List AOper :=
  [.mk (some 7) (.fld 0 (.tmp 2)) none [],.mk (some 8) (.load false 1 (.tmp 7)) none [0],.mk (some 5) (.mv (.tmp 8)) none [1,0,1]]
def l58r2:List AOper :=
  [.mk (some 6) (.mv (.const (.int .i64 0))) none []]
def l58r3:List AOper :=
  [.mk (some 9) (.mv (.tmp 6)) none [],.mk (some 10) (.mv (.tmp 1)) none [],.mk (some 11) (.len (.tmp 10)) none [1],.mk (some 12) (.bin .lss (.tmp 9) (.tmp 11)) none [0,2]]
def l58r4a:List AOper :=
  [.mk (some 15) (.mv (.tmp 5)) none [],.mk (some 16) (.mv (.tmp 1)) none [],.mk (some 17) (.mv (.tmp 6)) none [],.mk (some 18) (.idxA 1 (.tmp 16) (.tmp 17)) none [1,2],.mk (some 19) (.load false 1 (.tmp 18)) none [3],.mk (some 20) (.fld 2 (.tmp 2)) none [],.mk (some 21) (.load false 1 (.tmp 20)) none [5],.mk (some 22) (.mv (.tmp 6)) none [],.mk (some 23) (.idxA 1 (.tmp 21) (.tmp 22)) none [6,7],.mk (some 24) (.load false 1 (.tmp 23)) none [8],.mk (some 25) (.bin .mul (.tmp 19) (.tmp 24)) none [4,9]]
def l58r4b:List AOper :=
  [.mk (some 26) (.bin .add (.tmp 15) (.tmp 25)) none [0,10],.mk (some 5) (.mv (.tmp 26)) none [11,0,1,2,3,4,5,6,7,8,9,10,11]]
def l58r4:List AOper:=l58r4a ++ l58r4b
def l58r5:List AOper :=
  [.mk (some 13) (.mv (.tmp 6)) none [],.mk (some 14) (.bin .add (.tmp 13) (.const (.int .i64 1))) none [0],.mk (some 6) (.mv (.tmp 14)) none [1,0,1]]
def l58r6:List AOper :=
  [.mk (some 27) (.mv (.tmp 5)) none [],.mk (some 4) (.mv (.tmp 27)) none [0,0]]
def l58:AFn :=
  (AFn.mk 28 2 (.seq (.reg l58r0) (.seq (.reg l58r1) (.seq (.seq (.reg l58r2) (.block 0 (.loop (.seq (.seq (.reg l58r3) (.cond (.tmp 12) .skip (.exit 0))) (.seq (.block 1 (.draw l58r4)) (.reg l58r5)))))) (.seq (.reg l58r6) .ret)))) [.tmp 4])
theorem l58_eq:lowFn Tryd.prog 58=some l58:=by kernel_rfl
def l59r0:List AOper :=
  [.mk (some 4) (.mv (.const (.slice none 0 0))) none []]
def l59r1:List AOper :=
  [.mk (some 7) (.mv (.tmp 0)) none [],.mk (some 8) (.len (.tmp 7)) none [0],.mk (some 9) (.mkslice 1 [.int .i64 0] (.tmp 8) (.tmp 8)) none [1,1],.mk (some 5) (.mv (.tmp 9)) none [2,0,1,2]]
def l59r2:List AOper :=
  [.mk (some 10) (.mv (.tmp 0)) none [],.mk (some 11) (.len (.tmp 10)) none [0],.mk (some 12) (.bin .sub (.tmp 11) (.const (.int .i64 1))) none [1],.mk (some 6) (.mv (.tmp 12)) none [2,0,1,2]]
def l59r3:List AOper :=
  [.mk (some 13) (.mv (.tmp 6)) none [],.mk (some 14) (.bin .geq (.tmp 13) (.const (.int .i64 0))) none [0]]
def l59r4:List AOper :=
  [.mk (some 17) (.mv (.tmp 5)) none [],.mk (some 18) (.mv (.tmp 6)) none [],.mk (some 19) (.mv (.tmp 1)) none [],.mk (some 20) (.mv (.tmp 0)) none [],.mk (some 21) (.mv (.tmp 6)) none [],.mk (some 22) (.idxA 1 (.tmp 20) (.tmp 21)) none [3,4],.mk (some 23) (.load false 1 (.tmp 22)) none [5],.mk (some 24) (.bin .rem (.tmp 19) (.tmp 23)) none [2,6],.mk (some 25) (.idxA 1 (.tmp 17) (.tmp 18)) none [0,1,0,1,2,3,4,5,6,7],.mk none (.store 1 (.tmp 25) (.tmp 24)) none [8,7,0,1,2,3,4,5,6,7]]
def l59r5:List AOper :=
  [.mk (some 26) (.mv (.tmp 1)) none [],.mk (some 27) (.mv (.tmp 0)) none [],.mk (some 28) (.mv (.tmp 6)) none [],.mk (some 29) (.idxA 1 (.tmp 27) (.tmp 28)) none [1,2],.mk (some 30) (.load false 1 (.tmp 29)) none [3],.mk (some 31) (.bin .quo (.tmp 26) (.tmp 30)) none [0,4],.mk (some 1) (.mv (.tmp 31)) none [5,0,1,2,3,4,5]]
def l59r6:List AOper :=
  [.mk (some 15) (.mv (.tmp 6)) none [],.mk (some 16) (.bin .sub (.tmp 15) (.const (.int .i64 1))) none [0],.mk (some 6) (.mv (.tmp 16)) none [1,0,1]]
def l59r7:List AOper :=
  [.mk (some 32) (.mv (.tmp 5)) none [],.mk (some 4) (.mv (.tmp 32)) none [0,0]]
def l59:AFn :=
  (AFn.mk 33 2 (.seq (.reg l59r0) (.seq (.reg l59r1) (.seq (.seq (.reg l59r2) (.block 0 (.loop (.seq (.seq (.reg l59r3) (.cond (.tmp 14) .skip (.exit 0))) (.seq (.block 1 (.seq (.reg l59r4) (.reg l59r5))) (.reg l59r6)))))) (.seq (.reg l59r7) .ret)))) [.tmp 4])
theorem l59_eq:lowFn Tryd.prog 59=some l59:=by kernel_rfl
def l60r0:List AOper :=
  [.mk (some 2) (.mv (.const (.map none))) none []]
def l60r1:List AOper :=
  [.mk (some 6) (.raw (Op.makeMap 79 none)) none [],.mk (some 3) (.mv (.tmp 6)) none [0,0]]
def l60r2:List AOper :=
  [.mk (some 7) (.mv (.tmp 0)) none [],.mk (some 8) (.len (.tmp 7)) none [0],.mk (some 9) (.mv (.const (.int .i64 0))) none []]
def l60r3:List AOper :=
  [.mk (some 10) (.bin .lss (.tmp 9) (.tmp 8)) none []]
def l60r4:List AOper :=
  [.mk (some 11) (.idxA 3 (.tmp 7) (.tmp 9)) none [],.mk (some 12) (.load true 3 (.tmp 11)) none [0],.mk (some 5) (.alloc [.int .i64 0,.slice none 0 0,.slice none 0 0]) none [],.mk none (.store 3 (.tmp 5) (.tmp 12)) none [2,1,0,1,2]]
def l60r5:List AOper :=
  [.mk (some 13) (.mv (.tmp 3)) none [],.mk (some 14) (.load true 3 (.tmp 5)) none [],.mk (some 15) (.call 29 [.tmp 14]) none [1],.mk (some 16) (.call 54 [.tmp 13,.tmp 15]) none [0,2,2]]
def l60r6:List AOper :=
  [.mk (some 17) (.bin .add (.tmp 9) (.const (.int .i64 1))) none [],.mk (some 9) (.mv (.tmp 17)) none [0]]
def l60r7:List AOper :=
  [.mk (some 18) (.mv (.tmp 3)) none [],.mk (some 2) (.mv (.tmp 18)) none [0,0]]
def l60:AFn :=
  (AFn.mk 19 1 (.seq (.reg l60r0) (.seq (.reg l60r1) (.seq (.seq (.reg l60r2) (.block 0 (.loop (.seq (.reg l60r3) (.seq (.cond (.tmp 10) .skip (.exit 0)) (.seq (.block 1 (.seq (.reg l60r4) (.reg l60r5))) (.reg l60r6))))))) (.seq (.reg l60r7) .ret)))) [.tmp 2])
theorem l60_eq:lowFn Tryd.prog 60=some l60:=by kernel_rfl
end Go.Proofs.YtgiaepecaokcfaaDoor
