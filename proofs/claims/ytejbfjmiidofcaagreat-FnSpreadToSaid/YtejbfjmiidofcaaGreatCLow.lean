import Derived.Test.YtejbfjmiidofcaaGreatCW3
import Derived.Test.YtejbfjmiidofcaaGreatProg
import Derived.KernelRfl
set_option maxRecDepth 100000
namespace Go.Proofs.YtejbfjmiidofcaaGreat
open Vw Go
instance globs:Inhabited GlobT:=⟨⟨[]⟩⟩
attribute [push_cast] Bool.false_eq_true List.length_replicate
attribute [bitvec_to_nat] decide_eq_true_eq decide_eq_false_iff_not Bool.not_eq_true' Bool.not_eq_false' Bool.and_eq_true Bool.or_eq_true Bool.and_eq_false_iff Bool.or_eq_false_iff Int.not_le Int.not_lt bne_iff_ne ne_eq beq_iff_eq Bool.not_eq_true Bool.not_eq_false
theorem sd {P:Prop} (h:P:=by first|assumption|rfl|omega|(simp<;>omega)|(simp_all<;>omega)):P:=h
def l3r0:List AOper :=
  [.mk (some 2) (.mv (.const (.bool false))) none []]
def l3r1:List AOper :=
  [.mk (some 17) (.mv (.tmp 0)) none [],.mk (some 18) (.len (.tmp 17)) none [0],.mk (some 19) (.bin .gtr (.tmp 18) (.const (.int .i64 1048576))) none [1]]
def l3r2:List AOper :=
  [.mk (some 2) (.mv (.const (.bool true))) none []]
def l3r3:List AOper :=
  [.mk (some 21) (.mv (.tmp 0)) none [],.mk (some 22) (.call 4 [.tmp 21]) none [0],.mk (some 20) (.mv (.tmp 22)) none [1],.mk (some 23) (.extract (.tmp 20) 0) none [2],.mk (some 24) (.extract (.tmp 20) 1) none [2],.mk (some 3) (.alloc [.int .i64 0,.slice none 0 0,.slice none 0 0]) none [],.mk none (.store 3 (.tmp 3) (.tmp 23)) none [5,3,1,0,1,2,3,5],.mk (some 4) (.mv (.tmp 24)) none [4,6,0,1,2,3,4,5,6]]
def l3r4:List AOper :=
  [.mk (some 26) (.load true 3 (.tmp 3)) none [],.mk (some 27) (.mv (.tmp 4)) none [],.mk (some 28) (.call 5 [.tmp 26,.tmp 27]) none [0,1],.mk (some 25) (.mv (.tmp 28)) none [2],.mk (some 29) (.extract (.tmp 25) 0) none [3],.mk (some 30) (.extract (.tmp 25) 1) none [3],.mk (some 5) (.alloc [.int .i64 0,.slice none 0 0,.slice none 0 0]) none [],.mk none (.store 3 (.tmp 5) (.tmp 29)) none [6,4,2,0,1,2,3,4,6],.mk (some 6) (.mv (.tmp 30)) none [5,7,0,1,2,3,4,5,6,7]]
def l3r5:List AOper :=
  [.mk (some 32) (.load true 3 (.tmp 3)) none [],.mk (some 33) (.mv (.tmp 4)) none [],.mk (some 34) (.call 6 [.tmp 32,.tmp 33]) none [0,1],.mk (some 31) (.mv (.tmp 34)) none [2],.mk (some 35) (.extract (.tmp 31) 0) none [3],.mk (some 36) (.extract (.tmp 31) 1) none [3],.mk (some 7) (.alloc [.int .i64 0,.slice none 0 0,.slice none 0 0]) none [],.mk none (.store 3 (.tmp 7) (.tmp 35)) none [6,4,2,0,1,2,3,4,6],.mk (some 8) (.mv (.tmp 36)) none [5,7,0,1,2,3,4,5,6,7]]
def l3r6:List AOper :=
  [.mk (some 37) (.load true 3 (.tmp 5)) none [],.mk (some 38) (.load true 3 (.tmp 7)) none [],.mk (some 39) (.call 7 [.tmp 37,.tmp 38]) none [0,1],.mk (some 40) (.un .not (.tmp 39)) none [2],.mk (some 41) (.mv (.tmp 40)) none [3,2],.mk (some 42) (.mv (.tmp 6)) (some (41,false)) [4],.mk (some 43) (.mv (.tmp 8)) (some (41,false)) [4],.mk (some 44) (.binB .neq (.tmp 42) (.tmp 43)) (some (41,false)) [5,6,4],.mk (some 45) (.pick (.tmp 41) (.const (.bool true)) (.tmp 44)) none [4,7],.mk (some 46) (.mv (.tmp 45)) none [8,4],.mk (some 47) (.mv (.tmp 6)) (some (46,false)) [9],.mk (some 48) (.un .not (.tmp 47)) (some (46,false)) [10,9],.mk (some 49) (.pick (.tmp 46) (.const (.bool true)) (.tmp 48)) none [9,11]]
def l3r7:List AOper :=
  [.mk (some 50) (.load true 3 (.tmp 5)) none [],.mk (some 51) (.load true 3 (.tmp 7)) none [],.mk (some 52) (.call 7 [.tmp 50,.tmp 51]) none [0,1],.mk (some 53) (.mv (.tmp 52)) none [2,2],.mk (some 54) (.mv (.tmp 6)) (some (53,true)) [3],.mk (some 55) (.mv (.tmp 8)) (some (53,true)) [3],.mk (some 56) (.binB .eql (.tmp 54) (.tmp 55)) (some (53,true)) [4,5,3],.mk (some 57) (.pick (.tmp 53) (.tmp 56) (.const (.bool false))) none [3,6],.mk (some 2) (.mv (.tmp 57)) none [7,3,0,1,2,3,4,5,6,7]]
def l3r8:List AOper :=
  [.mk (some 58) (.mv (.tmp 4)) none [],.mk (some 59) (.len (.tmp 58)) none [0],.mk (some 60) (.fld 1 (.tmp 3)) none [],.mk (some 61) (.load false 1 (.tmp 60)) none [2],.mk (some 62) (.len (.tmp 61)) none [3],.mk (some 63) (.bin .sub (.tmp 59) (.tmp 62)) none [1,4],.mk (some 9) (.mv (.tmp 63)) none [5,0,1,2,3,4,5]]
def l3r9:List AOper :=
  [.mk (some 10) (.mv (.const (.int .i64 0))) none []]
def l3r10:List AOper :=
  [.mk (some 64) (.mv (.tmp 10)) none [],.mk (some 65) (.mv (.tmp 4)) none [],.mk (some 66) (.call 8 [.tmp 65]) none [1],.mk (some 67) (.bin .lss (.tmp 64) (.tmp 66)) none [0,2]]
def l3r11:List AOper :=
  [.mk (some 70) (.mv (.tmp 4)) none [],.mk (some 71) (.mv (.tmp 10)) none [],.mk (some 72) (.call 9 [.tmp 70,.tmp 71]) none [0,1],.mk (some 11) (.mv (.tmp 72)) none [2,2,0,1,2]]
def l3r12:List AOper :=
  [.mk (some 74) (.load true 3 (.tmp 5)) none [],.mk (some 75) (.mv (.tmp 11)) none [],.mk (some 76) (.call 10 [.tmp 74,.tmp 75]) none [0,1],.mk (some 73) (.mv (.tmp 76)) none [2],.mk (some 77) (.extract (.tmp 73) 0) none [3],.mk (some 78) (.extract (.tmp 73) 1) none [3],.mk (some 12) (.mv (.tmp 77)) none [4,2,0,1,2,3,4],.mk (some 13) (.mv (.tmp 78)) none [5,6,0,1,2,3,4,5,6]]
def l3r13:List AOper :=
  [.mk (some 79) (.mv (.tmp 11)) none [],.mk (some 80) (.mv (.tmp 9)) none [],.mk (some 81) (.slice 1 (.tmp 79) (some (.tmp 80)) none) none [0,1],.mk (some 11) (.mv (.tmp 81)) none [2,0,1,2]]
def l3r14:List AOper :=
  [.mk (some 14) (.mv (.const (.int .i64 0))) none []]
def l3r15:List AOper :=
  [.mk (some 82) (.mv (.tmp 14)) none [],.mk (some 83) (.mv (.tmp 11)) none [],.mk (some 84) (.len (.tmp 83)) none [1],.mk (some 85) (.bin .lss (.tmp 82) (.tmp 84)) none [0,2]]
def l3r16:List AOper :=
  [.mk (some 88) (.fld 1 (.tmp 3)) none [],.mk (some 89) (.load false 1 (.tmp 88)) none [0],.mk (some 90) (.mv (.tmp 14)) none [],.mk (some 91) (.idxA 1 (.tmp 89) (.tmp 90)) none [1,2],.mk (some 92) (.load false 1 (.tmp 91)) none [3],.mk (some 93) (.bin .eql (.tmp 92) (.const (.int .i64 1))) none [4]]
def l3r17:List AOper :=
  [.mk (some 94) (.mv (.tmp 11)) none [],.mk (some 95) (.mv (.tmp 14)) none [],.mk (some 96) (.idxA 1 (.tmp 94) (.tmp 95)) none [0,1,0,1],.mk none (.store 1 (.tmp 96) (.const (.int .i64 0))) none [2,0,1]]
def l3r18:List AOper :=
  [.mk (some 86) (.mv (.tmp 14)) none [],.mk (some 87) (.bin .add (.tmp 86) (.const (.int .i64 1))) none [0],.mk (some 14) (.mv (.tmp 87)) none [1,0,1]]
def l3r19:List AOper :=
  [.mk (some 98) (.load true 3 (.tmp 3)) none [],.mk (some 99) (.mv (.tmp 11)) none [],.mk (some 100) (.call 10 [.tmp 98,.tmp 99]) none [0,1],.mk (some 97) (.mv (.tmp 100)) none [2],.mk (some 101) (.extract (.tmp 97) 0) none [3],.mk (some 102) (.extract (.tmp 97) 1) none [3],.mk (some 15) (.mv (.tmp 101)) none [4,2,0,1,2,3,4],.mk (some 16) (.mv (.tmp 102)) none [5,6,0,1,2,3,4,5,6]]
def l3r20:List AOper :=
  [.mk (some 103) (.mv (.tmp 16)) none [],.mk (some 104) (.un .not (.tmp 103)) none [0],.mk (some 105) (.mv (.tmp 104)) none [1],.mk (some 106) (.mv (.tmp 12)) (some (105,false)) [2],.mk (some 107) (.mv (.tmp 15)) (some (105,false)) [2],.mk (some 108) (.bin .neq (.tmp 106) (.tmp 107)) (some (105,false)) [3,4,2],.mk (some 109) (.pick (.tmp 105) (.const (.bool true)) (.tmp 108)) none [2,5]]
def l3r21:List AOper :=
  [.mk (some 2) (.mv (.const (.bool false))) none []]
def l3r22:List AOper :=
  [.mk (some 68) (.mv (.tmp 10)) none [],.mk (some 69) (.bin .add (.tmp 68) (.const (.int .i64 1))) none [0],.mk (some 10) (.mv (.tmp 69)) none [1,0,1]]
def l3r23:List AOper :=
  [.mk (some 110) (.fld 1 (.tmp 5)) none [],.mk (some 111) (.load false 1 (.tmp 110)) none [0],.mk (some 112) (.mv (.tmp 4)) none [],.mk (some 113) (.call 11 [.tmp 111,.tmp 112]) none [1,2],.mk (some 114) (.mv (.tmp 113)) none [3,3],.mk (some 115) (.load true 3 (.tmp 3)) (some (114,true)) [4],.mk (some 116) (.load true 3 (.tmp 5)) (some (114,true)) [4],.mk (some 117) (.call 12 [.tmp 115,.tmp 116]) (some (114,true)) [5,6,4,4],.mk (some 118) (.pick (.tmp 114) (.tmp 117) (.const (.bool false))) none [4,7],.mk (some 2) (.mv (.tmp 118)) none [8,7,0,1,2,3,4,5,6,7,8]]
def l3:AFn :=
  (AFn.mk 119 1 (.seq (.reg l3r0) (.seq (.seq (.reg l3r1) (.cond (.tmp 19) (.seq (.reg l3r2) .ret) .skip)) (.seq (.reg l3r3) (.seq (.reg l3r4) (.seq (.reg l3r5) (.seq (.seq (.reg l3r6) (.cond (.tmp 49) (.seq (.reg l3r7) .ret) .skip)) (.seq (.reg l3r8) (.seq (.seq (.reg l3r9) (.block 0 (.loop (.seq (.seq (.reg l3r10) (.cond (.tmp 67) .skip (.exit 0))) (.seq (.block 1 (.seq (.reg l3r11) (.seq (.reg l3r12) (.seq (.reg l3r13) (.seq (.seq (.reg l3r14) (.block 2 (.loop (.seq (.seq (.reg l3r15) (.cond (.tmp 85) .skip (.exit 2))) (.seq (.block 3 (.seq (.reg l3r16) (.cond (.tmp 93) (.reg l3r17) .skip))) (.reg l3r18)))))) (.seq (.reg l3r19) (.seq (.reg l3r20) (.cond (.tmp 109) (.seq (.reg l3r21) .ret) .skip)))))))) (.reg l3r22)))))) (.seq (.reg l3r23) .ret))))))))) [.tmp 2])
theorem l3_eq:lowFn Tryz.prog 3=some l3:=by kernel_rfl
def l4r0:List AOper :=
  [.mk (some 2) (.alloc [.int .i64 0,.slice none 0 0,.slice none 0 0]) none [],.mk (some 3) (.mv (.const (.slice none 0 0))) none []]
def l4r1:List AOper :=
  [.mk (some 9) (.mv (.tmp 0)) none [],.mk (some 10) (.call 13 [.tmp 9]) none [0],.mk (some 4) (.mv (.tmp 10)) none [1,1,0,1]]
def l4r2:List AOper :=
  [.mk (some 11) (.mv (.tmp 4)) none [],.mk (some 12) (.call 14 [.tmp 11]) none [0],.mk (some 5) (.alloc [.int .i64 0,.slice none 0 0,.slice none 0 0]) none [],.mk none (.store 3 (.tmp 5) (.tmp 12)) none [2,1,1,0,1,2]]
def l4r3:List AOper :=
  [.mk (some 13) (.fld 1 (.tmp 5)) none [],.mk (some 14) (.load false 1 (.tmp 13)) none [0],.mk (some 15) (.call 15 [.tmp 14]) none [1],.mk (some 6) (.mv (.tmp 15)) none [2,2,0,1,2]]
def l4r4:List AOper :=
  [.mk (some 7) (.mv (.const (.int .i64 0))) none []]
def l4r5:List AOper :=
  [.mk (some 16) (.mv (.tmp 7)) none [],.mk (some 17) (.mv (.tmp 6)) none [],.mk (some 18) (.len (.tmp 17)) none [1],.mk (some 19) (.bin .lss (.tmp 16) (.tmp 18)) none [0,2]]
def l4r6:List AOper :=
  [.mk (some 22) (.mv (.tmp 6)) none [],.mk (some 23) (.mv (.tmp 7)) none [],.mk (some 24) (.idxA 1 (.tmp 22) (.tmp 23)) none [0,1],.mk (some 25) (.load false 1 (.tmp 24)) none [2],.mk (some 26) (.bin .eql (.tmp 25) (.const (.int .i64 1))) none [3],.mk (some 27) (.mv (.tmp 26)) none [4],.mk (some 28) (.mv (.tmp 4)) (some (27,false)) [5],.mk (some 29) (.call 16 [.tmp 28,.const (.int .i64 12)]) (some (27,false)) [6,5,5],.mk (some 30) (.bin .eql (.tmp 29) (.const (.int .i64 0))) (some (27,false)) [7,5],.mk (some 31) (.pick (.tmp 27) (.const (.bool true)) (.tmp 30)) none [5,8]]
def l4r7:List AOper :=
  [.mk (some 32) (.mv (.tmp 6)) none [],.mk (some 33) (.mv (.tmp 7)) none [],.mk (some 34) (.mv (.tmp 4)) none [],.mk (some 35) (.bslice 1 [.int .i64 0] [(0,.const (.int .i64 3)),(1,.const (.int .i64 2)),(2,.const (.int .i64 1)),(3,.const (.int .i64 0))] 4) none [],.mk (some 36) (.call 17 [.tmp 34,.tmp 35]) none [2,3],.mk (some 37) (.idxA 1 (.tmp 32) (.tmp 33)) none [0,1,0,1,2,3,4],.mk none (.store 1 (.tmp 37) (.tmp 36)) none [5,4,4,0,1,2,3,4]]
def l4r8:List AOper :=
  [.mk (some 20) (.mv (.tmp 7)) none [],.mk (some 21) (.bin .add (.tmp 20) (.const (.int .i64 1))) none [0],.mk (some 7) (.mv (.tmp 21)) none [1,0,1]]
def l4r9:List AOper :=
  [.mk (some 38) (.mv (.tmp 4)) none [],.mk (some 39) (.bslice 1 [.int .i64 0] [(0,.const (.int .i64 0)),(1,.const (.int .i64 1)),(2,.const (.int .i64 1)),(3,.const (.int .i64 2))] 4) none [],.mk (some 40) (.call 17 [.tmp 38,.tmp 39]) none [0,1],.mk (some 8) (.mv (.tmp 40)) none [2,2,0,1,2]]
def l4r10:List AOper :=
  [.mk (some 41) (.mv (.tmp 8)) none [],.mk (some 42) (.bin .gtr (.tmp 41) (.const (.int .i64 0))) none [0]]
def l4r11:List AOper :=
  [.mk (some 45) (.mv (.tmp 6)) none [],.mk (some 46) (.mv (.tmp 4)) none [],.mk (some 47) (.bslice 1 [.int .i64 0] [(0,.const (.int .i64 2)),(1,.const (.int .i64 1)),(2,.const (.int .i64 3))] 3) none [],.mk (some 48) (.call 17 [.tmp 46,.tmp 47]) none [1,2],.mk (some 49) (.call 18 [.tmp 45,.const (.int .i64 0),.tmp 48]) none [0,3,3],.mk (some 6) (.mv (.tmp 49)) none [4,4,0,1,2,3,4]]
def l4r12:List AOper :=
  [.mk (some 43) (.mv (.tmp 8)) none [],.mk (some 44) (.bin .sub (.tmp 43) (.const (.int .i64 1))) none [0],.mk (some 8) (.mv (.tmp 44)) none [1,0,1]]
def l4r13:List AOper :=
  [.mk (some 50) (.mv (.tmp 4)) none [],.mk (some 51) (.call 16 [.tmp 50,.const (.int .i64 8)]) none [0],.mk (some 52) (.bin .eql (.tmp 51) (.const (.int .i64 0))) none [1]]
def l4r14:List AOper :=
  [.mk (some 53) (.mv (.tmp 4)) none [],.mk (some 54) (.call 19 [.tmp 53]) none [0],.mk (some 6) (.mv (.tmp 54)) none [1,1,0,1]]
def l4r15:List AOper :=
  [.mk (some 55) (.load true 3 (.tmp 5)) none [],.mk (some 56) (.mv (.tmp 6)) none [],.mk none (.store 3 (.tmp 2) (.tmp 55)) none [0,0],.mk (some 3) (.mv (.tmp 56)) none [1,2,0,1,2]]
def l4:AFn :=
  (AFn.mk 57 1 (.seq (.reg l4r0) (.seq (.reg l4r1) (.seq (.reg l4r2) (.seq (.reg l4r3) (.seq (.seq (.reg l4r4) (.block 0 (.loop (.seq (.seq (.reg l4r5) (.cond (.tmp 19) .skip (.exit 0))) (.seq (.block 1 (.seq (.reg l4r6) (.cond (.tmp 31) (.reg l4r7) .skip))) (.reg l4r8)))))) (.seq (.seq (.reg l4r9) (.block 2 (.loop (.seq (.seq (.reg l4r10) (.cond (.tmp 42) .skip (.exit 2))) (.seq (.block 3 (.reg l4r11)) (.reg l4r12)))))) (.seq (.seq (.reg l4r13) (.cond (.tmp 52) (.reg l4r14) .skip)) (.seq (.reg l4r15) .ret)))))))) [.cell 2 true 3,.tmp 3])
theorem l4_eq:lowFn Tryz.prog 4=some l4:=by kernel_rfl
def l5r0:List AOper :=
  [.mk (some 2) (.box (.tmp 0)) none [],.mk (some 4) (.alloc [.int .i64 0,.slice none 0 0,.slice none 0 0]) none [],.mk (some 5) (.mv (.const (.bool false))) none []]
def l5r1:List AOper :=
  [.mk (some 12) (.mv (.tmp 1)) none [],.mk (some 13) (.len (.tmp 12)) none [0],.mk (some 14) (.fld 1 (.tmp 2)) none [],.mk (some 15) (.load false 1 (.tmp 14)) none [2],.mk (some 16) (.len (.tmp 15)) none [3],.mk (some 17) (.bin .sub (.tmp 13) (.tmp 16)) none [1,4],.mk (some 6) (.mv (.tmp 17)) none [5,0,1,2,3,4,5]]
def l5r2:List AOper :=
  [.mk (some 18) (.load true 3 (.tmp 2)) none [],.mk (some 19) (.call 20 [.tmp 18]) none [0],.mk (some 20) (.un .not (.tmp 19)) none [1],.mk (some 21) (.mv (.tmp 20)) none [2,1],.mk (some 22) (.mv (.tmp 1)) (some (21,false)) [3],.mk (some 23) (.call 21 [.tmp 22]) (some (21,false)) [4,3,3],.mk (some 24) (.un .not (.tmp 23)) (some (21,false)) [5,3],.mk (some 25) (.pick (.tmp 21) (.const (.bool true)) (.tmp 24)) none [3,6],.mk (some 26) (.mv (.tmp 25)) none [7,5],.mk (some 27) (.mv (.tmp 6)) (some (26,false)) [8],.mk (some 28) (.bin .lss (.tmp 27) (.const (.int .i64 0))) (some (26,false)) [9,8],.mk (some 29) (.pick (.tmp 26) (.const (.bool true)) (.tmp 28)) none [8,10]]
def l5r3:List AOper :=
  [.mk (some 30) (.build [.int .i64 0,.slice none 0 0,.slice none 0 0] []) none [],.mk none (.store 3 (.tmp 4) (.tmp 30)) none [0,0],.mk (some 5) (.mv (.const (.bool false))) none [1,0,1]]
def l5r4:List AOper :=
  [.mk (some 31) (.load true 3 (.tmp 2)) none [],.mk (some 32) (.call 22 [.tmp 31]) none [0],.mk (some 7) (.alloc [.int .i64 0,.slice none 0 0,.slice none 0 0,.int .i64 0,.int .i64 0,.int .i64 0,.int .i64 0,.slice none 0 0]) none [],.mk none (.store 8 (.tmp 7) (.tmp 32)) none [2,1,1,0,1,2]]
def l5r5a:List AOper :=
  [.mk (some 33) (.build [.int .i64 0,.int .i64 0] [(0,1,.const (.int .i64 1))]) none [],.mk (some 34) (.bslice 2 [.int .i64 0,.int .i64 0] [(0,.tmp 33)] 1) none [0],.mk (some 35) (.mv (.tmp 6)) none [],.mk (some 36) (.call 24 [.tmp 34,.tmp 35]) none [1,2],.mk (some 37) (.fld 7 (.tmp 7)) none [],.mk (some 38) (.load false 1 (.tmp 37)) none [4]]
def l5r5b:List AOper :=
  [.mk (some 39) (.bslice 1 [.slice none 0 0] [(0,.tmp 36),(1,.tmp 38)] 2) none [3,5],.mk (some 40) (.call 23 [.tmp 39]) none [6,3],.mk (some 41) (.fld 7 (.tmp 7)) none [0,1,2,3,4,5,6,7],.mk none (.store 1 (.tmp 41) (.tmp 40)) none [8,7,7,0,1,2,3,4,5,6,7]]
def l5r5:List AOper:=l5r5a ++ l5r5b
def l5r6:List AOper :=
  [.mk (some 42) (.mv (.tmp 1)) none [],.mk (some 43) (.len (.tmp 42)) none [0],.mk (some 44) (.mv (.const (.int .i64 0))) none []]
def l5r7:List AOper :=
  [.mk (some 45) (.bin .lss (.tmp 44) (.tmp 43)) none []]
def l5r8:List AOper :=
  [.mk (some 46) (.mv (.tmp 44)) none [],.mk (some 47) (.idxA 1 (.tmp 42) (.tmp 44)) none [],.mk (some 48) (.load false 1 (.tmp 47)) none [1],.mk (some 8) (.mv (.tmp 46)) none [0,0,1,2],.mk (some 9) (.mv (.tmp 48)) none [2,3,0,1,2,3]]
def l5r9:List AOper :=
  [.mk (some 50) (.fld 7 (.tmp 7)) none [],.mk (some 51) (.load false 1 (.tmp 50)) none [0],.mk (some 52) (.mv (.tmp 8)) none [],.mk (some 53) (.idxA 2 (.tmp 51) (.tmp 52)) none [1,2],.mk (some 54) (.load true 2 (.tmp 53)) none [3],.mk (some 55) (.mv (.tmp 9)) none [],.mk (some 56) (.call 25 [.tmp 54,.tmp 55]) none [4,5],.mk (some 49) (.mv (.tmp 56)) none [6],.mk (some 57) (.extract (.tmp 49) 0) none [7],.mk (some 58) (.extract (.tmp 49) 1) none [7],.mk (some 10) (.alloc [.int .i64 0,.int .i64 0]) none [],.mk none (.store 2 (.tmp 10) (.tmp 57)) none [10,8,6,0,1,2,3,4,5,6,7,8,10],.mk (some 11) (.mv (.tmp 58)) none [9,11,0,1,2,3,4,5,6,7,8,9,10,11]]
def l5r10:List AOper :=
  [.mk (some 59) (.mv (.tmp 11)) none [],.mk (some 60) (.un .not (.tmp 59)) none [0]]
def l5r11:List AOper :=
  [.mk (some 61) (.build [.int .i64 0,.slice none 0 0,.slice none 0 0] []) none [],.mk none (.store 3 (.tmp 4) (.tmp 61)) none [0,0],.mk (some 5) (.mv (.const (.bool false))) none [1,0,1]]
def l5r12:List AOper :=
  [.mk (some 62) (.fld 7 (.tmp 7)) none [],.mk (some 63) (.load false 1 (.tmp 62)) none [0],.mk (some 64) (.mv (.tmp 8)) none [],.mk (some 65) (.load true 2 (.tmp 10)) none [],.mk (some 66) (.idxA 2 (.tmp 63) (.tmp 64)) none [1,2,0,1,2,3],.mk none (.store 2 (.tmp 66) (.tmp 65)) none [4,3,0,1,2,3]]
def l5r13:List AOper :=
  [.mk (some 67) (.bin .add (.tmp 44) (.const (.int .i64 1))) none [],.mk (some 44) (.mv (.tmp 67)) none [0]]
def l5r14:List AOper :=
  [.mk (some 68) (.load true 8 (.tmp 7)) none [],.mk (some 69) (.call 26 [.tmp 68]) none [0],.mk none (.store 3 (.tmp 4) (.tmp 69)) none [1,1,0,1],.mk (some 5) (.mv (.const (.bool true))) none [2,0,1,2]]
def l5:AFn :=
  (AFn.mk 70 2 (.seq (.reg l5r0) (.seq (.reg l5r1) (.seq (.seq (.reg l5r2) (.cond (.tmp 29) (.seq (.reg l5r3) .ret) .skip)) (.seq (.reg l5r4) (.seq (.draw l5r5) (.seq (.seq (.reg l5r6) (.block 0 (.loop (.seq (.reg l5r7) (.seq (.cond (.tmp 45) .skip (.exit 0)) (.seq (.block 1 (.seq (.reg l5r8) (.seq (.reg l5r9) (.seq (.seq (.reg l5r10) (.cond (.tmp 60) (.seq (.reg l5r11) .ret) .skip)) (.reg l5r12))))) (.reg l5r13))))))) (.seq (.reg l5r14) .ret))))))) [.cell 4 true 3,.tmp 5])
theorem l5_eq:lowFn Tryz.prog 5=some l5:=by kernel_rfl
def l6r0:List AOper :=
  [.mk (some 2) (.box (.tmp 0)) none [],.mk (some 4) (.alloc [.int .i64 0,.slice none 0 0,.slice none 0 0]) none [],.mk (some 5) (.mv (.const (.bool false))) none []]
def l6r1:List AOper :=
  [.mk (some 8) (.load true 3 (.tmp 2)) none [],.mk (some 9) (.call 27 [.tmp 8]) none [0],.mk (some 10) (.un .not (.tmp 9)) none [1],.mk (some 11) (.mv (.tmp 10)) none [2,1],.mk (some 12) (.mv (.tmp 1)) (some (11,false)) [3],.mk (some 13) (.call 28 [.tmp 12]) (some (11,false)) [4,3,3],.mk (some 14) (.un .not (.tmp 13)) (some (11,false)) [5,3],.mk (some 15) (.pick (.tmp 11) (.const (.bool true)) (.tmp 14)) none [3,6]]
def l6r2:List AOper :=
  [.mk (some 16) (.build [.int .i64 0,.slice none 0 0,.slice none 0 0] []) none [],.mk none (.store 3 (.tmp 4) (.tmp 16)) none [0,0],.mk (some 5) (.mv (.const (.bool false))) none [1,0,1]]
def l6r3:List AOper :=
  [.mk (some 18) (.load true 3 (.tmp 2)) none [],.mk (some 19) (.mv (.tmp 1)) none [],.mk (some 20) (.call 29 [.tmp 18,.tmp 19]) none [0,1],.mk (some 17) (.mv (.tmp 20)) none [2],.mk (some 21) (.extract (.tmp 17) 0) none [3],.mk (some 22) (.extract (.tmp 17) 1) none [3],.mk (some 6) (.alloc [.int .i64 0,.slice none 0 0,.slice none 0 0]) none [],.mk none (.store 3 (.tmp 6) (.tmp 21)) none [6,4,2,0,1,2,3,4,6],.mk (some 7) (.mv (.tmp 22)) none [5,7,0,1,2,3,4,5,6,7]]
def l6r4:List AOper :=
  [.mk (some 23) (.mv (.tmp 7)) none [],.mk (some 24) (.un .not (.tmp 23)) none [0]]
def l6r5:List AOper :=
  [.mk (some 25) (.build [.int .i64 0,.slice none 0 0,.slice none 0 0] []) none [],.mk none (.store 3 (.tmp 4) (.tmp 25)) none [0,0],.mk (some 5) (.mv (.const (.bool false))) none [1,0,1]]
def l6r6:List AOper :=
  [.mk (some 26) (.load true 3 (.tmp 6)) none [],.mk (some 27) (.call 30 [.tmp 26]) none [0],.mk (some 28) (.extract (.tmp 27) 0) none [1],.mk (some 29) (.extract (.tmp 27) 1) none [1],.mk none (.store 3 (.tmp 4) (.tmp 28)) none [2,1,0,1,2,3],.mk (some 5) (.mv (.tmp 29)) none [3,4,0,1,2,3,4]]
def l6:AFn :=
  (AFn.mk 30 2 (.seq (.reg l6r0) (.seq (.seq (.reg l6r1) (.cond (.tmp 15) (.seq (.reg l6r2) .ret) .skip)) (.seq (.reg l6r3) (.seq (.seq (.reg l6r4) (.cond (.tmp 24) (.seq (.reg l6r5) .ret) .skip)) (.seq (.reg l6r6) .ret))))) [.cell 4 true 3,.tmp 5])
theorem l6_eq:lowFn Tryz.prog 6=some l6:=by kernel_rfl
def l7r0:List AOper :=
  [.mk (some 2) (.box (.tmp 0)) none [],.mk (some 3) (.box (.tmp 1)) none [],.mk (some 4) (.mv (.const (.bool false))) none []]
def l7r1:List AOper :=
  [.mk (some 5) (.fld 0 (.tmp 2)) none [],.mk (some 6) (.load false 1 (.tmp 5)) none [0],.mk (some 7) (.fld 0 (.tmp 3)) none [],.mk (some 8) (.load false 1 (.tmp 7)) none [2],.mk (some 9) (.bin .eql (.tmp 6) (.tmp 8)) none [1,3],.mk (some 10) (.mv (.tmp 9)) none [4],.mk (some 11) (.fld 1 (.tmp 2)) (some (10,true)) [5],.mk (some 12) (.load false 1 (.tmp 11)) (some (10,true)) [6,5],.mk (some 13) (.fld 1 (.tmp 3)) (some (10,true)) [5],.mk (some 14) (.load false 1 (.tmp 13)) (some (10,true)) [8,5],.mk (some 15) (.call 11 [.tmp 12,.tmp 14]) (some (10,true)) [7,9,5,5],.mk (some 16) (.pick (.tmp 10) (.tmp 15) (.const (.bool false))) none [5,10],.mk (some 17) (.mv (.tmp 16)) none [11,10],.mk (some 18) (.fld 2 (.tmp 2)) (some (17,true)) [12],.mk (some 19) (.load false 1 (.tmp 18)) (some (17,true)) [13,12],.mk (some 20) (.fld 2 (.tmp 3)) (some (17,true)) [12],.mk (some 21) (.load false 1 (.tmp 20)) (some (17,true)) [15,12],.mk (some 22) (.call 11 [.tmp 19,.tmp 21]) (some (17,true)) [14,16,12,12],.mk (some 23) (.pick (.tmp 17) (.tmp 22) (.const (.bool false))) none [12,17],.mk (some 4) (.mv (.tmp 23)) none [18,17,0,1,2,3,4,5,6,7,8,9,10,11,12,13,14,15,16,17,18]]
def l7:AFn :=
  (AFn.mk 24 2 (.seq (.reg l7r0) (.seq (.reg l7r1) .ret)) [.tmp 4])
theorem l7_eq:lowFn Tryz.prog 7=some l7:=by kernel_rfl
def l8r0:List AOper :=
  [.mk (some 2) (.mv (.const (.int .i64 0))) none []]
def l8r1:List AOper :=
  [.mk (some 3) (.mv (.tmp 0)) none [],.mk (some 4) (.call 21 [.tmp 3]) none [0],.mk (some 5) (.un .not (.tmp 4)) none [1]]
def l8r2:List AOper :=
  [.mk (some 2) (.mv (.const (.int .i64 (-1)))) none []]
def l8r3:List AOper :=
  [.mk (some 6) (.mv (.tmp 0)) none [],.mk (some 7) (.call 31 [.tmp 6]) none [0],.mk (some 2) (.mv (.tmp 7)) none [1,1,0,1]]
def l8:AFn :=
  (AFn.mk 8 1 (.seq (.reg l8r0) (.seq (.seq (.reg l8r1) (.cond (.tmp 5) (.seq (.reg l8r2) .ret) .skip)) (.seq (.reg l8r3) .ret))) [.tmp 2])
theorem l8_eq:lowFn Tryz.prog 8=some l8:=by kernel_rfl
def l9r0:List AOper :=
  [.mk (some 4) (.mv (.const (.slice none 0 0))) none []]
def l9r1:List AOper :=
  [.mk (some 6) (.mv (.tmp 0)) none [],.mk (some 7) (.call 21 [.tmp 6]) none [0],.mk (some 8) (.un .not (.tmp 7)) none [1],.mk (some 9) (.mv (.tmp 8)) none [2,1],.mk (some 10) (.mv (.tmp 1)) (some (9,false)) [3],.mk (some 11) (.mv (.tmp 0)) (some (9,false)) [3],.mk (some 12) (.call 31 [.tmp 11]) (some (9,false)) [5,3,3],.mk (some 13) (.bin .sub (.tmp 12) (.const (.int .i64 1))) (some (9,false)) [6,3],.mk (some 14) (.call 32 [.tmp 10,.tmp 13]) (some (9,false)) [4,7,6,3],.mk (some 15) (.un .not (.tmp 14)) (some (9,false)) [8,3],.mk (some 16) (.pick (.tmp 9) (.const (.bool true)) (.tmp 15)) none [3,9]]
def l9r2:List AOper :=
  [.mk (some 4) (.mv (.const (.slice none 0 0))) none []]
def l9r3:List AOper :=
  [.mk (some 17) (.mv (.tmp 0)) none [],.mk (some 18) (.mv (.tmp 1)) none [],.mk (some 19) (.call 33 [.tmp 17,.tmp 18]) none [0,1],.mk (some 5) (.alloc [.int .i64 0,.int .i64 0,.int .i64 0,.int .i64 0]) none [],.mk none (.store 4 (.tmp 5) (.tmp 19)) none [3,2,2,0,1,2,3]]
def l9r4:List AOper :=
  [.mk (some 20) (.mv (.tmp 0)) none [],.mk (some 21) (.len (.tmp 20)) none [0],.mk (some 22) (.sliceP 1 4 (.tmp 5) none (some (.tmp 21))) none [1],.mk (some 23) (.call 34 [.tmp 22]) none [2],.mk (some 4) (.mv (.tmp 23)) none [3,3,0,1,2,3]]
def l9:AFn :=
  (AFn.mk 24 2 (.seq (.reg l9r0) (.seq (.seq (.reg l9r1) (.cond (.tmp 16) (.seq (.reg l9r2) .ret) .skip)) (.seq (.reg l9r3) (.seq (.reg l9r4) .ret)))) [.tmp 4])
theorem l9_eq:lowFn Tryz.prog 9=some l9:=by kernel_rfl
def l10r0:List AOper :=
  [.mk (some 2) (.box (.tmp 0)) none [],.mk (some 4) (.mv (.const (.int .i64 0))) none [],.mk (some 5) (.mv (.const (.bool false))) none [1]]
def l10r1:List AOper :=
  [.mk (some 8) (.load true 3 (.tmp 2)) none [],.mk (some 9) (.call 20 [.tmp 8]) none [0],.mk (some 10) (.un .not (.tmp 9)) none [1]]
def l10r2:List AOper :=
  [.mk (some 4) (.mv (.const (.int .i64 0))) none [],.mk (some 5) (.mv (.const (.bool false))) none [0,0]]
def l10r3:List AOper :=
  [.mk (some 12) (.fld 1 (.tmp 2)) none [],.mk (some 13) (.load false 1 (.tmp 12)) none [0],.mk (some 14) (.mv (.tmp 1)) none [],.mk (some 15) (.call 35 [.tmp 13,.tmp 14]) none [1,2],.mk (some 11) (.mv (.tmp 15)) none [3],.mk (some 16) (.extract (.tmp 11) 0) none [4],.mk (some 17) (.extract (.tmp 11) 1) none [4],.mk (some 6) (.alloc [.int .i64 0,.int .i64 0,.int .i64 0,.int .i64 0]) none [],.mk none (.store 4 (.tmp 6) (.tmp 16)) none [7,5,3,0,1,2,3,4,5,7],.mk (some 7) (.mv (.tmp 17)) none [6,8,0,1,2,3,4,5,6,7,8]]
def l10r4:List AOper :=
  [.mk (some 18) (.mv (.tmp 7)) none [],.mk (some 19) (.un .not (.tmp 18)) none [0]]
def l10r5:List AOper :=
  [.mk (some 4) (.mv (.const (.int .i64 0))) none [],.mk (some 5) (.mv (.const (.bool false))) none [0,0]]
def l10r6:List AOper :=
  [.mk (some 20) (.load true 3 (.tmp 2)) none [],.mk (some 21) (.load true 4 (.tmp 6)) none [],.mk (some 22) (.call 36 [.tmp 20,.tmp 21]) none [0,1],.mk (some 4) (.mv (.tmp 22)) none [2,2,0,1,2],.mk (some 5) (.mv (.const (.bool true))) none [3,0,1,2,3]]
def l10:AFn :=
  (AFn.mk 23 2 (.seq (.reg l10r0) (.seq (.seq (.reg l10r1) (.cond (.tmp 10) (.seq (.reg l10r2) .ret) .skip)) (.seq (.reg l10r3) (.seq (.seq (.reg l10r4) (.cond (.tmp 19) (.seq (.reg l10r5) .ret) .skip)) (.seq (.reg l10r6) .ret))))) [.tmp 4,.tmp 5])
theorem l10_eq:lowFn Tryz.prog 10=some l10:=by kernel_rfl
def l11r0:List AOper :=
  [.mk (some 4) (.mv (.const (.bool false))) none []]
def l11r1:List AOper :=
  [.mk (some 6) (.mv (.tmp 0)) none [],.mk (some 7) (.len (.tmp 6)) none [0],.mk (some 8) (.mv (.tmp 1)) none [],.mk (some 9) (.len (.tmp 8)) none [2],.mk (some 10) (.bin .neq (.tmp 7) (.tmp 9)) none [1,3]]
def l11r2:List AOper :=
  [.mk (some 4) (.mv (.const (.bool false))) none []]
def l11r3:List AOper :=
  [.mk (some 5) (.mv (.const (.int .i64 0))) none []]
def l11r4:List AOper :=
  [.mk (some 11) (.mv (.tmp 5)) none [],.mk (some 12) (.mv (.tmp 0)) none [],.mk (some 13) (.len (.tmp 12)) none [1],.mk (some 14) (.bin .lss (.tmp 11) (.tmp 13)) none [0,2]]
def l11r5a:List AOper :=
  [.mk (some 17) (.mv (.tmp 0)) none [],.mk (some 18) (.mv (.tmp 5)) none [],.mk (some 19) (.idxA 1 (.tmp 17) (.tmp 18)) none [0,1],.mk (some 20) (.load false 1 (.tmp 19)) none [2],.mk (some 21) (.mv (.tmp 1)) none [],.mk (some 22) (.mv (.tmp 5)) none [],.mk (some 23) (.idxA 1 (.tmp 21) (.tmp 22)) none [4,5],.mk (some 24) (.load false 1 (.tmp 23)) none [6]]
def l11r5b:List AOper :=
  [.mk (some 25) (.bin .neq (.tmp 20) (.tmp 24)) none [3,7]]
def l11r5:List AOper:=l11r5a ++ l11r5b
def l11r6:List AOper :=
  [.mk (some 4) (.mv (.const (.bool false))) none []]
def l11r7:List AOper :=
  [.mk (some 15) (.mv (.tmp 5)) none [],.mk (some 16) (.bin .add (.tmp 15) (.const (.int .i64 1))) none [0],.mk (some 5) (.mv (.tmp 16)) none [1,0,1]]
def l11r8:List AOper :=
  [.mk (some 4) (.mv (.const (.bool true))) none []]
def l11:AFn :=
  (AFn.mk 26 2 (.seq (.reg l11r0) (.seq (.seq (.reg l11r1) (.cond (.tmp 10) (.seq (.reg l11r2) .ret) .skip)) (.seq (.seq (.reg l11r3) (.block 0 (.loop (.seq (.seq (.reg l11r4) (.cond (.tmp 14) .skip (.exit 0))) (.seq (.block 1 (.seq (.draw l11r5) (.cond (.tmp 25) (.seq (.reg l11r6) .ret) .skip))) (.reg l11r7)))))) (.seq (.reg l11r8) .ret)))) [.tmp 4])
theorem l11_eq:lowFn Tryz.prog 11=some l11:=by kernel_rfl
def l12r0:List AOper :=
  [.mk (some 2) (.box (.tmp 0)) none [],.mk (some 3) (.box (.tmp 1)) none [],.mk (some 4) (.mv (.const (.bool false))) none []]
def l12r1a:List AOper :=
  [.mk (some 5) (.load true 3 (.tmp 2)) none [],.mk (some 6) (.call 20 [.tmp 5]) none [0],.mk (some 7) (.mv (.tmp 6)) none [1,1],.mk (some 8) (.load true 3 (.tmp 3)) (some (7,true)) [2],.mk (some 9) (.call 20 [.tmp 8]) (some (7,true)) [3,2,2],.mk (some 10) (.pick (.tmp 7) (.tmp 9) (.const (.bool false))) none [2,4],.mk (some 11) (.mv (.tmp 10)) none [5,4],.mk (some 12) (.load true 3 (.tmp 2)) (some (11,true)) [6],.mk (some 13) (.load true 3 (.tmp 3)) (some (11,true)) [6],.mk (some 14) (.call 38 [.tmp 12,.tmp 13]) (some (11,true)) [7,8,6,6],.mk (some 15) (.load true 3 (.tmp 3)) (some (11,true)) [6]]
def l12r1b:List AOper :=
  [.mk (some 16) (.call 39 [.tmp 15]) (some (11,true)) [10,9,6],.mk (some 17) (.call 37 [.tmp 14,.tmp 16]) (some (11,true)) [9,11,11,6],.mk (some 18) (.pick (.tmp 11) (.tmp 17) (.const (.bool false))) none [6,12],.mk (some 4) (.mv (.tmp 18)) none [13,12,0,1,2,3,4,5,6,7,8,9,10,11,12,13]]
def l12r1:List AOper:=l12r1a ++ l12r1b
def l12:AFn :=
  (AFn.mk 19 2 (.seq (.reg l12r0) (.seq (.draw l12r1) .ret)) [.tmp 4])
theorem l12_eq:lowFn Tryz.prog 12=some l12:=by kernel_rfl
def l13r0:List AOper :=
  [.mk (some 2) (.mv (.const (.pointer none))) none []]
def l13r1:List AOper :=
  [.mk (some 3) (.mv (.tmp 0)) none [],.mk (some 4) (.len (.tmp 3)) none [0],.mk (some 5) (.bin .gtr (.tmp 4) (.const (.int .i64 2000))) none [1]]
def l13r2:List AOper :=
  [.mk (some 6) (.mv (.tmp 0)) none [],.mk (some 7) (.slice 1 (.tmp 6) none (some (.const (.int .i64 2000)))) none [0],.mk (some 0) (.mv (.tmp 7)) none [1,0,1]]
def l13r3:List AOper :=
  [.mk (some 8) (.mv (.tmp 0)) none [],.mk (some 9) (.build [.slice none 0 0,.int .i64 0] [(0,1,.tmp 8)]) none [0],.mk (some 10) (.box (.tmp 9)) none [1],.mk (some 2) (.mv (.tmp 10)) none [2,0,1,2]]
def l13:AFn :=
  (AFn.mk 11 1 (.seq (.reg l13r0) (.seq (.seq (.reg l13r1) (.cond (.tmp 5) (.reg l13r2) .skip)) (.seq (.reg l13r3) .ret))) [.tmp 2])
theorem l13_eq:lowFn Tryz.prog 13=some l13:=by kernel_rfl
def l14r0:List AOper :=
  [.mk (some 2) (.alloc [.int .i64 0,.slice none 0 0,.slice none 0 0]) none []]
def l14r1:List AOper :=
  [.mk (some 4) (.mv (.tmp 0)) none [],.mk (some 5) (.call 40 [.tmp 4]) none [0],.mk (some 3) (.alloc [.int .i64 0,.slice none 0 0,.slice none 0 0]) none [],.mk none (.store 3 (.tmp 3) (.tmp 5)) none [2,1,1,0,1,2]]
def l14r2:List AOper :=
  [.mk (some 6) (.mv (.tmp 0)) none [],.mk (some 7) (.call 16 [.tmp 6,.const (.int .i64 24)]) none [0]]
def l14r3:List AOper :=
  [.mk (some 9) (.bin .eql (.tmp 7) (.const (.int .i64 0))) none [],.mk (some 8) (.mv (.tmp 9)) none [0]]
def l14r4:List AOper :=
  [.mk (some 10) (.mv (.tmp 0)) none [],.mk (some 11) (.bslice 1 [.int .i64 0] [(0,.const (.int .i64 (-1))),(1,.const (.int .i64 60)),(2,.const (.int .i64 61))] 3) none [],.mk (some 12) (.call 17 [.tmp 10,.tmp 11]) none [0,1],.mk (some 13) (.fld 0 (.tmp 3)) none [0,1,2],.mk none (.store 1 (.tmp 13) (.tmp 12)) none [3,2,2,0,1,2]]
def l14r5:List AOper :=
  [.mk (some 15) (.bin .eql (.tmp 7) (.const (.int .i64 1))) none [],.mk (some 14) (.mv (.tmp 15)) none [0]]
def l14r6:List AOper :=
  [.mk (some 16) (.fld 2 (.tmp 3)) none [],.mk (some 17) (.load false 1 (.tmp 16)) none [0],.mk (some 18) (.bslice 1 [.int .i64 0] [(0,.const (.int .i64 1))] 1) none [],.mk (some 19) (.append 1 (.tmp 17) (.tmp 18)) none [1,2],.mk (some 20) (.fld 2 (.tmp 3)) none [0,1,2,3],.mk none (.store 1 (.tmp 20) (.tmp 19)) none [4,3,3,0,1,2,3]]
def l14r7:List AOper :=
  [.mk (some 22) (.bin .eql (.tmp 7) (.const (.int .i64 2))) none [],.mk (some 21) (.mv (.tmp 22)) none [0]]
def l14r8:List AOper :=
  [.mk (some 23) (.fld 2 (.tmp 3)) none [],.mk (some 24) (.load false 1 (.tmp 23)) none [0],.mk (some 25) (.len (.tmp 24)) none [1],.mk (some 26) (.bin .gtr (.tmp 25) (.const (.int .i64 0))) none [2]]
def l14r9a:List AOper :=
  [.mk (some 27) (.fld 2 (.tmp 3)) none [],.mk (some 28) (.load false 1 (.tmp 27)) none [0],.mk (some 29) (.mv (.tmp 0)) none [],.mk (some 30) (.bslice 1 [.int .i64 0] [(0,.const (.int .i64 61)),(1,.const (.int .i64 (-61))),(2,.const (.int .i64 60))] 3) none [],.mk (some 31) (.call 17 [.tmp 29,.tmp 30]) none [2,3]]
def l14r9b:List AOper :=
  [.mk (some 32) (.idxA 1 (.tmp 28) (.const (.int .i64 0))) none [1,0,1,2,3,4],.mk none (.store 1 (.tmp 32) (.tmp 31)) none [5,4,4,0,1,2,3,4]]
def l14r9:List AOper:=l14r9a ++ l14r9b
def l14r10:List AOper :=
  [.mk (some 33) (.load true 3 (.tmp 3)) none [],.mk none (.store 3 (.tmp 2) (.tmp 33)) none [0,0]]
def l14:AFn :=
  (AFn.mk 34 1 (.seq (.reg l14r0) (.seq (.reg l14r1) (.seq (.seq (.reg l14r2) (.block 0 (.seq (.reg l14r3) (.cond (.tmp 8) (.reg l14r4) (.seq (.reg l14r5) (.cond (.tmp 14) (.reg l14r6) (.seq (.reg l14r7) (.cond (.tmp 21) (.seq (.reg l14r8) (.cond (.tmp 26) (.draw l14r9) .skip)) .skip)))))))) (.seq (.reg l14r10) .ret)))) [.cell 2 true 3])
theorem l14_eq:lowFn Tryz.prog 14=some l14:=by kernel_rfl
def l15r0:List AOper :=
  [.mk (some 2) (.mv (.const (.slice none 0 0))) none []]
def l15r1:List AOper :=
  [.mk (some 3) (.bslice 1 [.int .i64 0] [] 0) none [],.mk (some 4) (.mv (.tmp 0)) none [],.mk (some 5) (.append 1 (.tmp 3) (.tmp 4)) none [0,1],.mk (some 2) (.mv (.tmp 5)) none [2,2,0,1,2]]
def l15:AFn :=
  (AFn.mk 6 1 (.seq (.reg l15r0) (.seq (.reg l15r1) .ret)) [.tmp 2])
theorem l15_eq:lowFn Tryz.prog 15=some l15:=by kernel_rfl
def l16r0:List AOper :=
  [.mk (some 4) (.mv (.const (.int .i64 0))) none []]
def l16r1:List AOper :=
  [.mk (some 7) (.mv (.tmp 0)) none [],.mk (some 8) (.mv (.tmp 0)) none [],.mk (some 9) (.nilck (.tmp 8)) none [1],.mk (some 10) (.fld 1 (.tmp 9)) none [2],.mk (some 11) (.load false 1 (.tmp 10)) none [3],.mk (some 12) (.bin .add (.tmp 11) (.const (.int .i64 1))) none [4],.mk (some 13) (.nilck (.tmp 7)) none [0,0,1,2,3,4,5],.mk (some 14) (.fld 1 (.tmp 13)) none [6,0,1,2,3,4,5],.mk none (.store 1 (.tmp 14) (.tmp 12)) none [7,5,0,1,2,3,4,5]]
def l16r2:List AOper :=
  [.mk (some 15) (.mv (.tmp 1)) none [],.mk (some 16) (.bin .lss (.tmp 15) (.const (.int .i64 1))) none [0],.mk (some 17) (.mv (.tmp 16)) none [1],.mk (some 18) (.mv (.tmp 0)) (some (17,false)) [2],.mk (some 19) (.nilck (.tmp 18)) (some (17,false)) [3,2],.mk (some 20) (.fld 0 (.tmp 19)) (some (17,false)) [4,2],.mk (some 21) (.load false 1 (.tmp 20)) (some (17,false)) [5,2],.mk (some 22) (.len (.tmp 21)) (some (17,false)) [6,2],.mk (some 23) (.bin .eql (.tmp 22) (.const (.int .i64 0))) (some (17,false)) [7,2],.mk (some 24) (.pick (.tmp 17) (.const (.bool true)) (.tmp 23)) none [2,8]]
def l16r3:List AOper :=
  [.mk (some 4) (.mv (.const (.int .i64 0))) none []]
def l16r4:List AOper :=
  [.mk (some 25) (.mv (.tmp 0)) none [],.mk (some 26) (.nilck (.tmp 25)) none [0],.mk (some 27) (.fld 1 (.tmp 26)) none [1],.mk (some 28) (.load false 1 (.tmp 27)) none [2],.mk (some 29) (.bin .sub (.tmp 28) (.const (.int .i64 1))) none [3],.mk (some 5) (.mv (.tmp 29)) none [4,0,1,2,3,4]]
def l16r5:List AOper :=
  [.mk (some 30) (.mv (.tmp 5)) none [],.mk (some 31) (.mv (.tmp 0)) none [],.mk (some 32) (.nilck (.tmp 31)) none [1],.mk (some 33) (.fld 0 (.tmp 32)) none [2],.mk (some 34) (.load false 1 (.tmp 33)) none [3],.mk (some 35) (.len (.tmp 34)) none [4],.mk (some 36) (.bin .lss (.tmp 30) (.tmp 35)) none [0,5]]
def l16r6:List AOper :=
  [.mk (some 37) (.mv (.tmp 0)) none [],.mk (some 38) (.nilck (.tmp 37)) none [0],.mk (some 39) (.fld 0 (.tmp 38)) none [1],.mk (some 40) (.load false 1 (.tmp 39)) none [2],.mk (some 41) (.mv (.tmp 5)) none [],.mk (some 42) (.idxA 1 (.tmp 40) (.tmp 41)) none [3,4],.mk (some 43) (.load false 1 (.tmp 42)) none [5],.mk (some 44) (.conv .i64 (.tmp 43)) none [6],.mk (some 45) (.mv (.tmp 1)) none [],.mk (some 46) (.bin .rem (.tmp 44) (.tmp 45)) none [7,8],.mk (some 4) (.mv (.tmp 46)) none [9,0,1,2,3,4,5,6,7,8,9]]
def l16r7a:List AOper :=
  [.mk (some 47) (.mv (.tmp 0)) none [],.mk (some 48) (.nilck (.tmp 47)) none [0],.mk (some 49) (.fld 0 (.tmp 48)) none [1],.mk (some 50) (.load false 1 (.tmp 49)) none [2],.mk (some 51) (.mv (.tmp 5)) none [],.mk (some 52) (.mv (.tmp 0)) none [],.mk (some 53) (.nilck (.tmp 52)) none [5],.mk (some 54) (.fld 0 (.tmp 53)) none [6],.mk (some 55) (.load false 1 (.tmp 54)) none [7],.mk (some 56) (.len (.tmp 55)) none [8],.mk (some 57) (.bin .rem (.tmp 51) (.tmp 56)) none [4,9],.mk (some 58) (.idxA 1 (.tmp 50) (.tmp 57)) none [3,10],.mk (some 59) (.load false 1 (.tmp 58)) none [11],.mk (some 60) (.conv .i64 (.tmp 59)) none [12],.mk (some 61) (.bin .mul (.tmp 60) (.const (.int .i64 131))) none [13],.mk (some 62) (.mv (.tmp 0)) none [],.mk (some 63) (.nilck (.tmp 62)) none [15],.mk (some 64) (.fld 0 (.tmp 63)) none [16],.mk (some 65) (.load false 1 (.tmp 64)) none [17],.mk (some 66) (.mv (.tmp 5)) none [],.mk (some 67) (.bin .mul (.tmp 66) (.const (.int .i64 7))) none [19],.mk (some 68) (.bin .add (.tmp 67) (.const (.int .i64 3))) none [20],.mk (some 69) (.mv (.tmp 0)) none [],.mk (some 70) (.nilck (.tmp 69)) none [22],.mk (some 71) (.fld 0 (.tmp 70)) none [23],.mk (some 72) (.load false 1 (.tmp 71)) none [24],.mk (some 73) (.len (.tmp 72)) none [25],.mk (some 74) (.bin .rem (.tmp 68) (.tmp 73)) none [21,26],.mk (some 75) (.idxA 1 (.tmp 65) (.tmp 74)) none [18,27],.mk (some 76) (.load false 1 (.tmp 75)) none [28],.mk (some 77) (.conv .i64 (.tmp 76)) none [29],.mk (some 78) (.bin .mul (.tmp 77) (.const (.int .i64 1117))) none [30],.mk (some 79) (.bin .add (.tmp 61) (.tmp 78)) none [14,31],.mk (some 80) (.mv (.tmp 5)) none [],.mk (some 81) (.bin .mul (.tmp 80) (.const (.int .i64 29))) none [33],.mk (some 82) (.bin .add (.tmp 79) (.tmp 81)) none [32,34],.mk (some 83) (.mv (.tmp 5)) none [],.mk (some 84) (.mv (.tmp 0)) none [],.mk (some 85) (.nilck (.tmp 84)) none [37],.mk (some 86) (.fld 0 (.tmp 85)) none [38],.mk (some 87) (.load false 1 (.tmp 86)) none [39],.mk (some 88) (.len (.tmp 87)) none [40],.mk (some 89) (.bin .quo (.tmp 83) (.tmp 88)) none [36,41],.mk (some 90) (.bin .mul (.tmp 89) (.const (.int .i64 53))) none [42]]
def l16r7b:List AOper :=
  [.mk (some 91) (.bin .add (.tmp 82) (.tmp 90)) none [35,43],.mk (some 6) (.mv (.tmp 91)) none [44,0,1,2,3,4,5,6,7,8,9,10,11,12,13,14,15,16,17,18,19,20,21,22,23,24,25,26,27,28,29,30,31,32,33,34,35,36,37,38,39,40,41,42,43,44]]
def l16r7:List AOper:=l16r7a ++ l16r7b
def l16r8:List AOper :=
  [.mk (some 92) (.mv (.tmp 6)) none [],.mk (some 93) (.mv (.tmp 6)) none [],.mk (some 94) (.bin .quo (.tmp 93) (.const (.int .i64 64))) none [1],.mk (some 95) (.bin .xor (.tmp 92) (.tmp 94)) none [0,2],.mk (some 6) (.mv (.tmp 95)) none [3,0,1,2,3]]
def l16r9:List AOper :=
  [.mk (some 96) (.mv (.tmp 6)) none [],.mk (some 97) (.mv (.tmp 1)) none [],.mk (some 98) (.bin .rem (.tmp 96) (.tmp 97)) none [0,1],.mk (some 4) (.mv (.tmp 98)) none [2,0,1,2]]
def l16:AFn :=
  (AFn.mk 99 2 (.seq (.reg l16r0) (.seq (.reg l16r1) (.seq (.seq (.reg l16r2) (.cond (.tmp 24) (.seq (.reg l16r3) .ret) .skip)) (.seq (.reg l16r4) (.seq (.seq (.reg l16r5) (.cond (.tmp 36) (.seq (.reg l16r6) .ret) .skip)) (.seq (.draw l16r7) (.seq (.reg l16r8) (.seq (.reg l16r9) .ret)))))))) [.tmp 4])
theorem l16_eq:lowFn Tryz.prog 16=some l16:=by kernel_rfl
def l17r0:List AOper :=
  [.mk (some 4) (.mv (.const (.int .i64 0))) none []]
def l17r1:List AOper :=
  [.mk (some 5) (.mv (.tmp 1)) none [],.mk (some 6) (.mv (.tmp 0)) none [],.mk (some 7) (.mv (.tmp 1)) none [],.mk (some 8) (.len (.tmp 7)) none [2],.mk (some 9) (.call 16 [.tmp 6,.tmp 8]) none [1,3],.mk (some 10) (.idxA 1 (.tmp 5) (.tmp 9)) none [0,4],.mk (some 11) (.load false 1 (.tmp 10)) none [5],.mk (some 4) (.mv (.tmp 11)) none [6,4,0,1,2,3,4,5,6]]
def l17:AFn :=
  (AFn.mk 12 2 (.seq (.reg l17r0) (.seq (.reg l17r1) .ret)) [.tmp 4])
theorem l17_eq:lowFn Tryz.prog 17=some l17:=by kernel_rfl
def l18r0:List AOper :=
  [.mk (some 6) (.mv (.const (.slice none 0 0))) none []]
def l18r1a:List AOper :=
  [.mk (some 7) (.bslice 1 [.int .i64 0] [] 0) none [],.mk (some 8) (.mv (.tmp 0)) none [],.mk (some 9) (.mv (.tmp 1)) none [],.mk (some 10) (.slice 1 (.tmp 8) none (some (.tmp 9))) none [1,2],.mk (some 11) (.append 1 (.tmp 7) (.tmp 10)) none [0,3],.mk (some 12) (.mv (.tmp 2)) none [],.mk (some 13) (.bslice 1 [.int .i64 0] [(0,.tmp 12)] 1) none [5],.mk (some 14) (.append 1 (.tmp 11) (.tmp 13)) none [4,6,4],.mk (some 15) (.mv (.tmp 0)) none [],.mk (some 16) (.mv (.tmp 1)) none [],.mk (some 17) (.slice 1 (.tmp 15) (some (.tmp 16)) none) none [8,9]]
def l18r1b:List AOper :=
  [.mk (some 18) (.append 1 (.tmp 14) (.tmp 17)) none [7,10,7],.mk (some 6) (.mv (.tmp 18)) none [11,11,0,1,2,3,4,5,6,7,8,9,10,11]]
def l18r1:List AOper:=l18r1a ++ l18r1b
def l18:AFn :=
  (AFn.mk 19 3 (.seq (.reg l18r0) (.seq (.draw l18r1) .ret)) [.tmp 6])
theorem l18_eq:lowFn Tryz.prog 18=some l18:=by kernel_rfl
def l19r0:List AOper :=
  [.mk (some 2) (.mv (.const (.slice none 0 0))) none []]
def l19r1:List AOper :=
  [.mk (some 4) (.mv (.tmp 0)) none [],.mk (some 5) (.call 41 [.tmp 4]) none [0],.mk (some 3) (.mv (.tmp 5)) none [1,1,0,1]]
def l19r2:List AOper :=
  [.mk (some 6) (.mv (.tmp 0)) none [],.mk (some 7) (.call 16 [.tmp 6,.const (.int .i64 24)]) none [0]]
def l19r3:List AOper :=
  [.mk (some 9) (.bin .eql (.tmp 7) (.const (.int .i64 0))) none [],.mk (some 8) (.mv (.tmp 9)) none [0]]
def l19r4:List AOper :=
  [.mk (some 10) (.mv (.tmp 3)) none [],.mk (some 11) (.mv (.tmp 0)) none [],.mk (some 12) (.bslice 1 [.int .i64 0] [(0,.const (.int .i64 (-1))),(1,.const (.int .i64 61)),(2,.const (.int .i64 40))] 3) none [],.mk (some 13) (.call 17 [.tmp 11,.tmp 12]) none [1,2],.mk (some 14) (.bslice 1 [.int .i64 0] [(0,.tmp 13)] 1) none [3],.mk (some 15) (.append 1 (.tmp 10) (.tmp 14)) none [0,4,3],.mk (some 2) (.mv (.tmp 15)) none [5,5,0,1,2,3,4,5]]
def l19r5:List AOper :=
  [.mk (some 17) (.bin .eql (.tmp 7) (.const (.int .i64 1))) none [],.mk (some 16) (.mv (.tmp 17)) none [0]]
def l19r6:List AOper :=
  [.mk (some 18) (.bslice 1 [.int .i64 0] [(0,.const (.int .i64 1)),(1,.const (.int .i64 1)),(2,.const (.int .i64 1)),(3,.const (.int .i64 1)),(4,.const (.int .i64 1))] 5) none [],.mk (some 2) (.mv (.tmp 18)) none [0,0]]
def l19r7:List AOper :=
  [.mk (some 19) (.mv (.tmp 3)) none [],.mk (some 2) (.mv (.tmp 19)) none [0,0]]
def l19:AFn :=
  (AFn.mk 20 1 (.seq (.reg l19r0) (.seq (.reg l19r1) (.seq (.seq (.reg l19r2) (.block 0 (.seq (.reg l19r3) (.cond (.tmp 8) (.seq (.reg l19r4) .ret) (.seq (.reg l19r5) (.cond (.tmp 16) (.seq (.reg l19r6) .ret) .skip)))))) (.seq (.reg l19r7) .ret)))) [.tmp 2])
theorem l19_eq:lowFn Tryz.prog 19=some l19:=by kernel_rfl
def l20r0:List AOper :=
  [.mk (some 1) (.box (.tmp 0)) none [],.mk (some 2) (.mv (.const (.bool false))) none []]
def l20r1:List AOper :=
  [.mk (some 5) (.fld 1 (.tmp 1)) none [],.mk (some 6) (.load false 1 (.tmp 5)) none [0],.mk (some 7) (.call 21 [.tmp 6]) none [1],.mk (some 8) (.un .not (.tmp 7)) none [2],.mk (some 9) (.mv (.tmp 8)) none [3,2],.mk (some 10) (.fld 2 (.tmp 1)) (some (9,false)) [4],.mk (some 11) (.load false 1 (.tmp 10)) (some (9,false)) [5,4],.mk (some 12) (.fld 1 (.tmp 1)) (some (9,false)) [4],.mk (some 13) (.load false 1 (.tmp 12)) (some (9,false)) [7,4],.mk (some 14) (.len (.tmp 13)) (some (9,false)) [8,4],.mk (some 15) (.call 42 [.tmp 11,.tmp 14]) (some (9,false)) [6,9,4,4],.mk (some 16) (.un .not (.tmp 15)) (some (9,false)) [10,4],.mk (some 17) (.pick (.tmp 9) (.const (.bool true)) (.tmp 16)) none [4,11],.mk (some 18) (.mv (.tmp 17)) none [12,10],.mk (some 19) (.fld 0 (.tmp 1)) (some (18,false)) [13],.mk (some 20) (.load false 1 (.tmp 19)) (some (18,false)) [14,13],.mk (some 21) (.call 32 [.tmp 20,.const (.int .i64 60)]) (some (18,false)) [15,13,13],.mk (some 22) (.un .not (.tmp 21)) (some (18,false)) [16,13],.mk (some 23) (.pick (.tmp 18) (.const (.bool true)) (.tmp 22)) none [13,17]]
def l20r2:List AOper :=
  [.mk (some 2) (.mv (.const (.bool false))) none []]
def l20r3:List AOper :=
  [.mk (some 25) (.load true 3 (.tmp 1)) none [],.mk (some 26) (.call 43 [.tmp 25]) none [0],.mk (some 24) (.mv (.tmp 26)) none [1],.mk (some 27) (.extract (.tmp 24) 0) none [2],.mk (some 28) (.extract (.tmp 24) 1) none [2],.mk (some 3) (.mv (.tmp 27)) none [3,1,0,1,2,3],.mk (some 4) (.mv (.tmp 28)) none [4,5,0,1,2,3,4,5]]
def l20r4:List AOper :=
  [.mk (some 29) (.load true 3 (.tmp 1)) none [],.mk (some 30) (.call 44 [.tmp 29]) none [0],.mk (some 31) (.bin .eql (.tmp 30) (.const (.int .i64 0))) none [1],.mk (some 32) (.mv (.tmp 31)) none [2,1],.mk (some 33) (.mv (.tmp 3)) (some (32,false)) [3],.mk (some 34) (.bin .geq (.tmp 33) (.const (.int .i64 0))) (some (32,false)) [4,3],.mk (some 35) (.mv (.tmp 34)) (some (32,false)) [5,3,3],.mk (some 36) (.mv (.tmp 4)) (some (35,true)) [6],.mk (some 37) (.bin .lss (.tmp 36) (.const (.int .i64 60))) (some (35,true)) [7,6],.mk (some 38) (.pick (.tmp 35) (.tmp 37) (.const (.bool false))) (some (32,false)) [6,8,3],.mk (some 39) (.pick (.tmp 32) (.const (.bool true)) (.tmp 38)) none [3,9],.mk (some 2) (.mv (.tmp 39)) none [10,6,0,1,2,3,4,5,6,7,8,9,10]]
def l20:AFn :=
  (AFn.mk 40 1 (.seq (.reg l20r0) (.seq (.seq (.reg l20r1) (.cond (.tmp 23) (.seq (.reg l20r2) .ret) .skip)) (.seq (.reg l20r3) (.seq (.reg l20r4) .ret)))) [.tmp 2])
theorem l20_eq:lowFn Tryz.prog 20=some l20:=by kernel_rfl
def l21r0:List AOper :=
  [.mk (some 2) (.mv (.const (.bool false))) none []]
def l21r1:List AOper :=
  [.mk (some 5) (.mv (.tmp 0)) none [],.mk (some 6) (.len (.tmp 5)) none [0],.mk (some 7) (.bin .gtr (.tmp 6) (.const (.int .i64 4))) none [1]]
def l21r2:List AOper :=
  [.mk (some 2) (.mv (.const (.bool false))) none []]
def l21r3:List AOper :=
  [.mk (some 8) (.mv (.tmp 0)) none [],.mk (some 9) (.len (.tmp 8)) none [0],.mk (some 10) (.mv (.const (.int .i64 0))) none []]
def l21r4:List AOper :=
  [.mk (some 11) (.bin .lss (.tmp 10) (.tmp 9)) none []]
def l21r5:List AOper :=
  [.mk (some 12) (.idxA 1 (.tmp 8) (.tmp 10)) none [],.mk (some 13) (.load false 1 (.tmp 12)) none [0],.mk (some 4) (.mv (.tmp 13)) none [1,0,1]]
def l21r6:List AOper :=
  [.mk (some 14) (.mv (.tmp 4)) none [],.mk (some 15) (.call 32 [.tmp 14,.const (.int .i64 60)]) none [0],.mk (some 16) (.un .not (.tmp 15)) none [1]]
def l21r7:List AOper :=
  [.mk (some 2) (.mv (.const (.bool false))) none []]
def l21r8:List AOper :=
  [.mk (some 17) (.bin .add (.tmp 10) (.const (.int .i64 1))) none [],.mk (some 10) (.mv (.tmp 17)) none [0]]
def l21r9:List AOper :=
  [.mk (some 18) (.mv (.tmp 0)) none [],.mk (some 19) (.call 31 [.tmp 18]) none [0],.mk (some 20) (.bin .leq (.tmp 19) (.const (.int .i64 60))) none [1],.mk (some 2) (.mv (.tmp 20)) none [2,1,0,1,2]]
def l21:AFn :=
  (AFn.mk 21 1 (.seq (.reg l21r0) (.seq (.seq (.reg l21r1) (.cond (.tmp 7) (.seq (.reg l21r2) .ret) .skip)) (.seq (.seq (.reg l21r3) (.block 0 (.loop (.seq (.reg l21r4) (.seq (.cond (.tmp 11) .skip (.exit 0)) (.seq (.block 1 (.seq (.reg l21r5) (.seq (.reg l21r6) (.cond (.tmp 16) (.seq (.reg l21r7) .ret) .skip)))) (.reg l21r8))))))) (.seq (.reg l21r9) .ret)))) [.tmp 2])
theorem l21_eq:lowFn Tryz.prog 21=some l21:=by kernel_rfl
def l22r0:List AOper :=
  [.mk (some 1) (.box (.tmp 0)) none [],.mk (some 2) (.alloc [.int .i64 0,.slice none 0 0,.slice none 0 0,.int .i64 0,.int .i64 0,.int .i64 0,.int .i64 0,.slice none 0 0]) none []]
def l22r1:List AOper :=
  [.mk (some 6) (.load true 3 (.tmp 1)) none [],.mk (some 7) (.build [.int .i64 0,.slice none 0 0,.slice none 0 0,.int .i64 0,.int .i64 0,.int .i64 0,.int .i64 0,.slice none 0 0] [(0,3,.tmp 6)]) none [0],.mk (some 3) (.alloc [.int .i64 0,.slice none 0 0,.slice none 0 0,.int .i64 0,.int .i64 0,.int .i64 0,.int .i64 0,.slice none 0 0]) none [],.mk none (.store 8 (.tmp 3) (.tmp 7)) none [2,1,0,1,2]]
def l22r2:List AOper :=
  [.mk (some 8) (.fld 1 (.tmp 1)) none [],.mk (some 9) (.load false 1 (.tmp 8)) none [0],.mk (some 10) (.len (.tmp 9)) none [1],.mk (some 11) (.mv (.const (.int .i64 0))) none []]
def l22r3:List AOper :=
  [.mk (some 12) (.bin .lss (.tmp 11) (.tmp 10)) none []]
def l22r4:List AOper :=
  [.mk (some 13) (.mv (.tmp 11)) none [],.mk (some 14) (.idxA 1 (.tmp 9) (.tmp 11)) none [],.mk (some 15) (.load false 1 (.tmp 14)) none [1],.mk (some 4) (.mv (.tmp 13)) none [0,0,1,2],.mk (some 5) (.mv (.tmp 15)) none [2,3,0,1,2,3]]
def l22r5a:List AOper :=
  [.mk (some 16) (.fld 7 (.tmp 3)) none [],.mk (some 17) (.load false 1 (.tmp 16)) none [0],.mk (some 18) (.mv (.tmp 5)) none [],.mk (some 19) (.fld 2 (.tmp 1)) none [],.mk (some 20) (.load false 1 (.tmp 19)) none [3],.mk (some 21) (.mv (.tmp 4)) none [],.mk (some 22) (.idxA 1 (.tmp 20) (.tmp 21)) none [4,5],.mk (some 23) (.load false 1 (.tmp 22)) none [6],.mk (some 24) (.build [.int .i64 0,.int .i64 0] [(0,1,.tmp 18),(1,1,.tmp 23)]) none [2,7],.mk (some 25) (.bslice 2 [.int .i64 0,.int .i64 0] [(0,.tmp 24)] 1) none [8]]
def l22r5b:List AOper :=
  [.mk (some 26) (.append 2 (.tmp 17) (.tmp 25)) none [1,9],.mk (some 27) (.fld 7 (.tmp 3)) none [0,1,2,3,4,5,6,7,8,9,10],.mk none (.store 1 (.tmp 27) (.tmp 26)) none [11,10,10,0,1,2,3,4,5,6,7,8,9,10]]
def l22r5:List AOper:=l22r5a ++ l22r5b
def l22r6:List AOper :=
  [.mk (some 28) (.bin .add (.tmp 11) (.const (.int .i64 1))) none [],.mk (some 11) (.mv (.tmp 28)) none [0]]
def l22r7:List AOper :=
  [.mk (some 29) (.load true 8 (.tmp 3)) none [],.mk none (.store 8 (.tmp 2) (.tmp 29)) none [0,0]]
def l22:AFn :=
  (AFn.mk 30 1 (.seq (.reg l22r0) (.seq (.reg l22r1) (.seq (.seq (.reg l22r2) (.block 0 (.loop (.seq (.reg l22r3) (.seq (.cond (.tmp 12) .skip (.exit 0)) (.seq (.block 1 (.seq (.reg l22r4) (.draw l22r5))) (.reg l22r6))))))) (.seq (.reg l22r7) .ret)))) [.cell 2 true 8])
theorem l22_eq:lowFn Tryz.prog 22=some l22:=by kernel_rfl
def l23r0:List AOper :=
  [.mk (some 2) (.mv (.const (.slice none 0 0))) none []]
def l23r1:List AOper :=
  [.mk (some 3) (.mv (.const (.int .i64 0))) none []]
def l23r2:List AOper :=
  [.mk (some 9) (.mv (.tmp 0)) none [],.mk (some 10) (.len (.tmp 9)) none [0],.mk (some 11) (.mv (.const (.int .i64 0))) none []]
def l23r3:List AOper :=
  [.mk (some 12) (.bin .lss (.tmp 11) (.tmp 10)) none []]
def l23r4:List AOper :=
  [.mk (some 13) (.idxA 1 (.tmp 9) (.tmp 11)) none [],.mk (some 14) (.load false 1 (.tmp 13)) none [0],.mk (some 5) (.mv (.tmp 14)) none [1,0,1]]
def l23r5:List AOper :=
  [.mk (some 15) (.mv (.tmp 3)) none [],.mk (some 16) (.mv (.tmp 5)) none [],.mk (some 17) (.len (.tmp 16)) none [1],.mk (some 18) (.bin .add (.tmp 15) (.tmp 17)) none [0,2],.mk (some 3) (.mv (.tmp 18)) none [3,0,1,2,3]]
def l23r6:List AOper :=
  [.mk (some 19) (.mv (.tmp 3)) none [],.mk (some 20) (.bin .lss (.tmp 19) (.const (.int .i64 0))) none [0]]
def l23r7:List AOper :=
  [.mk (some 21) (.raw (Op.makeInterface 9 (.const (.string (ByteArray.mk (Array.mk [(108:UInt8),(101:UInt8),(110:UInt8),(32:UInt8),(111:UInt8),(117:UInt8),(116:UInt8),(32:UInt8),(111:UInt8),(102:UInt8),(32:UInt8),(114:UInt8),(97:UInt8),(110:UInt8),(103:UInt8),(101:UInt8)])))))) none [],.mk none (.raw (Op.panic (.tmp 21))) none [0]]
def l23r8:List AOper :=
  [.mk (some 22) (.bin .add (.tmp 11) (.const (.int .i64 1))) none [],.mk (some 11) (.mv (.tmp 22)) none [0]]
def l23r9:List AOper :=
  [.mk (some 23) (.mv (.tmp 3)) none [],.mk (some 24) (.call 45 [.const (.slice none 0 0),.tmp 23]) none [0],.mk (some 6) (.mv (.tmp 24)) none [1,1,0,1]]
def l23r10:List AOper :=
  [.mk (some 25) (.mv (.tmp 0)) none [],.mk (some 26) (.len (.tmp 25)) none [0],.mk (some 27) (.mv (.const (.int .i64 0))) none []]
def l23r11:List AOper :=
  [.mk (some 28) (.bin .lss (.tmp 27) (.tmp 26)) none []]
def l23r12:List AOper :=
  [.mk (some 29) (.idxA 1 (.tmp 25) (.tmp 27)) none [],.mk (some 30) (.load false 1 (.tmp 29)) none [0],.mk (some 8) (.mv (.tmp 30)) none [1,0,1]]
def l23r13:List AOper :=
  [.mk (some 31) (.mv (.tmp 6)) none [],.mk (some 32) (.mv (.tmp 8)) none [],.mk (some 33) (.append 2 (.tmp 31) (.tmp 32)) none [0,1],.mk (some 6) (.mv (.tmp 33)) none [2,2,0,1,2]]
def l23r14:List AOper :=
  [.mk (some 34) (.bin .add (.tmp 27) (.const (.int .i64 1))) none [],.mk (some 27) (.mv (.tmp 34)) none [0]]
def l23r15:List AOper :=
  [.mk (some 35) (.mv (.tmp 6)) none [],.mk (some 2) (.mv (.tmp 35)) none [0,0]]
def l23:AFn :=
  (AFn.mk 36 1 (.seq (.reg l23r0) (.seq (.reg l23r1) (.seq (.seq (.reg l23r2) (.block 0 (.loop (.seq (.reg l23r3) (.seq (.cond (.tmp 12) .skip (.exit 0)) (.seq (.block 1 (.seq (.reg l23r4) (.seq (.reg l23r5) (.seq (.reg l23r6) (.cond (.tmp 20) (.reg l23r7) .skip))))) (.reg l23r8))))))) (.seq (.reg l23r9) (.seq (.seq (.reg l23r10) (.block 2 (.loop (.seq (.reg l23r11) (.seq (.cond (.tmp 28) .skip (.exit 2)) (.seq (.block 3 (.seq (.reg l23r12) (.reg l23r13))) (.reg l23r14))))))) (.seq (.reg l23r15) .ret)))))) [.tmp 2])
theorem l23_eq:lowFn Tryz.prog 23=some l23:=by kernel_rfl
def l24r0:List AOper :=
  [.mk (some 4) (.mv (.const (.slice none 0 0))) none []]
def l24r1:List AOper :=
  [.mk (some 9) (.mv (.tmp 1)) none [],.mk (some 10) (.bin .lss (.tmp 9) (.const (.int .i64 0))) none [0]]
def l24r2:List AOper :=
  [.mk (some 11) (.raw (Op.makeInterface 9 (.const (.string (ByteArray.mk (Array.mk [(99:UInt8),(97:UInt8),(110:UInt8),(110:UInt8),(111:UInt8),(116:UInt8),(32:UInt8),(98:UInt8),(101:UInt8),(32:UInt8),(110:UInt8),(101:UInt8),(103:UInt8),(97:UInt8),(116:UInt8),(105:UInt8),(118:UInt8),(101:UInt8)])))))) none [],.mk none (.raw (Op.panic (.tmp 11))) none [0]]
def l24r3:List AOper :=
  [.mk (some 13) (.mv (.tmp 0)) none [],.mk (some 14) (.len (.tmp 13)) none [0],.mk (some 15) (.conv .u64 (.tmp 14)) none [1],.mk (some 16) (.mv (.tmp 1)) none [],.mk (some 17) (.conv .u64 (.tmp 16)) none [3],.mk (some 18) (.call 46 [.tmp 15,.tmp 17]) none [2,4],.mk (some 12) (.mv (.tmp 18)) none [5],.mk (some 19) (.extract (.tmp 12) 0) none [6],.mk (some 20) (.extract (.tmp 12) 1) none [6],.mk (some 5) (.mv (.tmp 19)) none [7,5,0,1,2,3,4,5,6,7],.mk (some 6) (.mv (.tmp 20)) none [8,9,0,1,2,3,4,5,6,7,8,9]]
def l24r4:List AOper :=
  [.mk (some 21) (.mv (.tmp 5)) none [],.mk (some 22) (.bin .gtr (.tmp 21) (.const (.int .u64 0))) none [0],.mk (some 23) (.mv (.tmp 22)) none [1],.mk (some 24) (.mv (.tmp 6)) (some (23,false)) [2],.mk (some 25) (.bin .gtr (.tmp 24) (.const (.int .u64 9223372036854775807))) (some (23,false)) [3,2],.mk (some 26) (.pick (.tmp 23) (.const (.bool true)) (.tmp 25)) none [2,4]]
def l24r5:List AOper :=
  [.mk (some 27) (.raw (Op.makeInterface 9 (.const (.string (ByteArray.mk (Array.mk [(116:UInt8),(104:UInt8),(101:UInt8),(32:UInt8),(114:UInt8),(101:UInt8),(115:UInt8),(117:UInt8),(108:UInt8),(116:UInt8),(32:UInt8),(111:UInt8),(102:UInt8),(32:UInt8),(40:UInt8),(108:UInt8),(101:UInt8),(110:UInt8),(40:UInt8),(120:UInt8),(41:UInt8),(32:UInt8),(42:UInt8),(32:UInt8),(99:UInt8),(111:UInt8),(117:UInt8),(110:UInt8),(116:UInt8),(41:UInt8),(32:UInt8),(111:UInt8),(118:UInt8),(101:UInt8),(114:UInt8),(102:UInt8),(108:UInt8),(111:UInt8),(119:UInt8),(115:UInt8)])))))) none [],.mk none (.raw (Op.panic (.tmp 27))) none [0]]
def l24r6:List AOper :=
  [.mk (some 28) (.mv (.tmp 6)) none [],.mk (some 29) (.conv .i64 (.tmp 28)) none [0],.mk (some 30) (.mkslice 2 [.int .i64 0,.int .i64 0] (.tmp 29) (.tmp 29)) none [1,1],.mk (some 7) (.mv (.tmp 30)) none [2,0,1,2]]
def l24r7:List AOper :=
  [.mk (some 31) (.mv (.tmp 7)) none [],.mk (some 32) (.mv (.tmp 0)) none [],.mk (some 33) (.cpy 2 (.tmp 31) (.tmp 32)) none [0,1],.mk (some 8) (.mv (.tmp 33)) none [2,2,0,1,2]]
def l24r8:List AOper :=
  [.mk (some 34) (.mv (.tmp 8)) none [],.mk (some 35) (.mv (.tmp 7)) none [],.mk (some 36) (.len (.tmp 35)) none [1],.mk (some 37) (.bin .lss (.tmp 34) (.tmp 36)) none [0,2]]
def l24r9a:List AOper :=
  [.mk (some 38) (.mv (.tmp 8)) none [],.mk (some 39) (.mv (.tmp 7)) none [],.mk (some 40) (.mv (.tmp 8)) none [],.mk (some 41) (.slice 2 (.tmp 39) (some (.tmp 40)) none) none [1,2],.mk (some 42) (.mv (.tmp 7)) none [],.mk (some 43) (.mv (.tmp 8)) none [],.mk (some 44) (.slice 2 (.tmp 42) none (some (.tmp 43))) none [4,5],.mk (some 45) (.cpy 2 (.tmp 41) (.tmp 44)) none [3,6]]
def l24r9b:List AOper :=
  [.mk (some 46) (.bin .add (.tmp 38) (.tmp 45)) none [0,7],.mk (some 8) (.mv (.tmp 46)) none [8,7,0,1,2,3,4,5,6,7,8]]
def l24r9:List AOper:=l24r9a ++ l24r9b
def l24r10:List AOper :=
  [.mk (some 47) (.mv (.tmp 7)) none [],.mk (some 4) (.mv (.tmp 47)) none [0,0]]
def l24:AFn :=
  (AFn.mk 48 2 (.seq (.reg l24r0) (.seq (.seq (.reg l24r1) (.cond (.tmp 10) (.reg l24r2) .skip)) (.seq (.reg l24r3) (.seq (.seq (.reg l24r4) (.cond (.tmp 26) (.reg l24r5) .skip)) (.seq (.reg l24r6) (.seq (.reg l24r7) (.seq (.block 0 (.loop (.seq (.seq (.reg l24r8) (.cond (.tmp 37) .skip (.exit 0))) (.block 1 (.draw l24r9))))) (.seq (.reg l24r10) .ret)))))))) [.tmp 4])
theorem l24_eq:lowFn Tryz.prog 24=some l24:=by kernel_rfl
def l25r0:List AOper :=
  [.mk (some 2) (.box (.tmp 0)) none [],.mk (some 4) (.alloc [.int .i64 0,.int .i64 0]) none [],.mk (some 5) (.mv (.const (.bool false))) none []]
def l25r1:List AOper :=
  [.mk (some 6) (.fld 0 (.tmp 2)) none [],.mk (some 7) (.load false 1 (.tmp 6)) none [0],.mk (some 8) (.mv (.tmp 1)) none [],.mk (some 9) (.bin .eql (.tmp 7) (.tmp 8)) none [1,2]]
def l25r2:List AOper :=
  [.mk (some 10) (.load true 2 (.tmp 2)) none [],.mk none (.store 2 (.tmp 4) (.tmp 10)) none [0,0],.mk (some 5) (.mv (.const (.bool true))) none [1,0,1]]
def l25r3a:List AOper :=
  [.mk (some 11) (.mv (.tmp 1)) none [],.mk (some 12) (.build [.int .i64 0,.int .i64 0] [(0,1,.tmp 11)]) none [0],.mk (some 13) (.fld 0 (.tmp 2)) none [],.mk (some 14) (.load false 1 (.tmp 13)) none [2],.mk (some 15) (.bin .eql (.tmp 14) (.const (.int .i64 1))) none [3],.mk none (.store 2 (.tmp 4) (.tmp 12)) none [1,0,1]]
def l25r3b:List AOper :=
  [.mk (some 5) (.mv (.tmp 15)) none [4,5,0,1,2,3,4,5]]
def l25r3:List AOper:=l25r3a ++ l25r3b
def l25:AFn :=
  (AFn.mk 16 2 (.seq (.reg l25r0) (.seq (.seq (.reg l25r1) (.cond (.tmp 9) (.seq (.reg l25r2) .ret) .skip)) (.seq (.draw l25r3) .ret))) [.cell 4 true 2,.tmp 5])
theorem l25_eq:lowFn Tryz.prog 25=some l25:=by kernel_rfl
def l26r0:List AOper :=
  [.mk (some 1) (.box (.tmp 0)) none [],.mk (some 2) (.alloc [.int .i64 0,.slice none 0 0,.slice none 0 0]) none []]
def l26r1:List AOper :=
  [.mk (some 4) (.load true 8 (.tmp 1)) none [],.mk (some 5) (.call 47 [.tmp 4]) none [0],.mk (some 3) (.alloc [.int .i64 0,.slice none 0 0,.slice none 0 0]) none [],.mk none (.store 3 (.tmp 3) (.tmp 5)) none [2,1,1,0,1,2]]
def l26r2:List AOper :=
  [.mk (some 6) (.load true 3 (.tmp 3)) none [],.mk (some 7) (.call 44 [.tmp 6]) none [0],.mk (some 8) (.bin .eql (.tmp 7) (.const (.int .i64 0))) none [1]]
def l26r3a:List AOper :=
  [.mk (some 9) (.fld 1 (.tmp 3)) none [],.mk (some 10) (.load false 1 (.tmp 9)) none [0],.mk (some 11) (.len (.tmp 10)) none [1],.mk (some 12) (.mkslice 1 [.int .i64 0] (.tmp 11) (.tmp 11)) none [2,2],.mk (some 13) (.fld 0 (.tmp 3)) none [0,1],.mk none (.store 1 (.tmp 13) (.const (.int .i64 0))) none [4,0,1]]
def l26r3b:List AOper :=
  [.mk (some 14) (.fld 2 (.tmp 3)) none [0,1,2,3,4,5],.mk none (.store 1 (.tmp 14) (.tmp 12)) none [6,3,5,0,1,2,3,4,5]]
def l26r3:List AOper:=l26r3a ++ l26r3b
def l26r4:List AOper :=
  [.mk (some 15) (.load true 3 (.tmp 3)) none [],.mk none (.store 3 (.tmp 2) (.tmp 15)) none [0,0]]
def l26:AFn :=
  (AFn.mk 16 1 (.seq (.reg l26r0) (.seq (.reg l26r1) (.seq (.seq (.reg l26r2) (.cond (.tmp 8) (.draw l26r3) .skip)) (.seq (.reg l26r4) .ret)))) [.cell 2 true 3])
theorem l26_eq:lowFn Tryz.prog 26=some l26:=by kernel_rfl
def l27r0:List AOper :=
  [.mk (some 1) (.box (.tmp 0)) none [],.mk (some 2) (.mv (.const (.bool false))) none []]
def l27r1:List AOper :=
  [.mk (some 3) (.fld 1 (.tmp 1)) none [],.mk (some 4) (.load false 1 (.tmp 3)) none [0],.mk (some 5) (.call 28 [.tmp 4]) none [1],.mk (some 6) (.mv (.tmp 5)) none [2,2],.mk (some 7) (.fld 2 (.tmp 1)) (some (6,true)) [3],.mk (some 8) (.load false 1 (.tmp 7)) (some (6,true)) [4,3],.mk (some 9) (.len (.tmp 8)) (some (6,true)) [5,3],.mk (some 10) (.fld 1 (.tmp 1)) (some (6,true)) [3],.mk (some 11) (.load false 1 (.tmp 10)) (some (6,true)) [7,3],.mk (some 12) (.len (.tmp 11)) (some (6,true)) [8,3],.mk (some 13) (.bin .eql (.tmp 9) (.tmp 12)) (some (6,true)) [6,9,3],.mk (some 14) (.pick (.tmp 6) (.tmp 13) (.const (.bool false))) none [3,10],.mk (some 15) (.mv (.tmp 14)) none [11,3],.mk (some 16) (.fld 2 (.tmp 1)) (some (15,true)) [12],.mk (some 17) (.load false 1 (.tmp 16)) (some (15,true)) [13,12],.mk (some 18) (.call 48 [.tmp 17,.const (.int .i64 (-60)),.const (.int .i64 60)]) (some (15,true)) [14,12,12],.mk (some 19) (.pick (.tmp 15) (.tmp 18) (.const (.bool false))) none [12,15],.mk (some 20) (.mv (.tmp 19)) none [16,15],.mk (some 21) (.fld 0 (.tmp 1)) (some (20,true)) [17],.mk (some 22) (.load false 1 (.tmp 21)) (some (20,true)) [18,17],.mk (some 23) (.call 49 [.tmp 22,.const (.int .i64 0),.const (.int .i64 60)]) (some (20,true)) [19,17,17],.mk (some 24) (.pick (.tmp 20) (.tmp 23) (.const (.bool false))) none [17,20],.mk (some 25) (.mv (.tmp 24)) none [21,20],.mk (some 26) (.fld 1 (.tmp 1)) (some (25,true)) [22],.mk (some 27) (.load false 1 (.tmp 26)) (some (25,true)) [23,22],.mk (some 28) (.call 50 [.tmp 27]) (some (25,true)) [24,22,22],.mk (some 29) (.bin .eql (.tmp 28) (.const (.int .i64 0))) (some (25,true)) [25,22],.mk (some 30) (.mv (.tmp 29)) (some (25,true)) [26,25,22],.mk (some 31) (.load true 3 (.tmp 1)) (some (30,false)) [27],.mk (some 32) (.call 51 [.tmp 31]) (some (30,false)) [28,27,27],.mk (some 33) (.call 48 [.tmp 32,.const (.int .i64 0),.const (.int .i64 59)]) (some (30,false)) [29,29,27],.mk (some 34) (.pick (.tmp 30) (.const (.bool true)) (.tmp 33)) (some (25,true)) [27,30,22],.mk (some 35) (.pick (.tmp 25) (.tmp 34) (.const (.bool false))) none [22,31],.mk (some 2) (.mv (.tmp 35)) none [32,30,0,1,2,3,4,5,6,7,8,9,10,11,12,13,14,15,16,17,18,19,20,21,22,23,24,25,26,27,28,29,30,31,32]]
def l27:AFn :=
  (AFn.mk 36 1 (.seq (.reg l27r0) (.seq (.reg l27r1) .ret)) [.tmp 2])
theorem l27_eq:lowFn Tryz.prog 27=some l27:=by kernel_rfl
def l28r0:List AOper :=
  [.mk (some 2) (.mv (.const (.bool false))) none []]
def l28r1:List AOper :=
  [.mk (some 3) (.mv (.tmp 0)) none [],.mk (some 4) (.len (.tmp 3)) none [0],.mk (some 5) (.bin .leq (.tmp 4) (.const (.int .i64 4))) none [1],.mk (some 6) (.mv (.tmp 5)) none [2],.mk (some 7) (.mv (.tmp 0)) (some (6,true)) [3],.mk (some 8) (.call 48 [.tmp 7,.const (.int .i64 0),.const (.int .i64 60)]) (some (6,true)) [4,3,3],.mk (some 9) (.pick (.tmp 6) (.tmp 8) (.const (.bool false))) none [3,5],.mk (some 10) (.mv (.tmp 9)) none [6,5],.mk (some 11) (.mv (.tmp 0)) (some (10,true)) [7],.mk (some 12) (.call 50 [.tmp 11]) (some (10,true)) [8,7,7],.mk (some 13) (.bin .leq (.tmp 12) (.const (.int .i64 60))) (some (10,true)) [9,7],.mk (some 14) (.pick (.tmp 10) (.tmp 13) (.const (.bool false))) none [7,10],.mk (some 2) (.mv (.tmp 14)) none [11,9,0,1,2,3,4,5,6,7,8,9,10,11]]
def l28:AFn :=
  (AFn.mk 15 1 (.seq (.reg l28r0) (.seq (.reg l28r1) .ret)) [.tmp 2])
theorem l28_eq:lowFn Tryz.prog 28=some l28:=by kernel_rfl
def l29r0:List AOper :=
  [.mk (some 2) (.box (.tmp 0)) none [],.mk (some 4) (.alloc [.int .i64 0,.slice none 0 0,.slice none 0 0]) none [],.mk (some 5) (.mv (.const (.bool false))) none []]
def l29r1a:List AOper :=
  [.mk (some 9) (.fld 0 (.tmp 2)) none [],.mk (some 10) (.load false 1 (.tmp 9)) none [0],.mk (some 11) (.mv (.tmp 1)) none [],.mk (some 12) (.call 15 [.tmp 11]) none [2],.mk (some 13) (.mv (.tmp 1)) none [],.mk (some 14) (.len (.tmp 13)) none [4],.mk (some 15) (.mkslice 1 [.int .i64 0] (.tmp 14) (.tmp 14)) none [5,5],.mk (some 16) (.build [.int .i64 0,.slice none 0 0,.slice none 0 0] [(0,1,.tmp 10),(1,1,.tmp 12),(2,1,.tmp 15)]) none [1,3,6],.mk (some 6) (.alloc [.int .i64 0,.slice none 0 0,.slice none 0 0]) none []]
def l29r1b:List AOper :=
  [.mk none (.store 3 (.tmp 6) (.tmp 16)) none [8,7,3,0,1,2,3,4,5,6,7,8]]
def l29r1:List AOper:=l29r1a ++ l29r1b
def l29r2:List AOper :=
  [.mk (some 17) (.mv (.tmp 1)) none [],.mk (some 18) (.len (.tmp 17)) none [0],.mk (some 19) (.fld 1 (.tmp 2)) none [],.mk (some 20) (.load false 1 (.tmp 19)) none [2],.mk (some 21) (.len (.tmp 20)) none [3],.mk (some 22) (.bin .sub (.tmp 18) (.tmp 21)) none [1,4],.mk (some 7) (.mv (.tmp 22)) none [5,0,1,2,3,4,5]]
def l29r3:List AOper :=
  [.mk (some 8) (.mv (.const (.int .i64 0))) none []]
def l29r4:List AOper :=
  [.mk (some 23) (.mv (.tmp 8)) none [],.mk (some 24) (.fld 1 (.tmp 2)) none [],.mk (some 25) (.load false 1 (.tmp 24)) none [1],.mk (some 26) (.len (.tmp 25)) none [2],.mk (some 27) (.bin .lss (.tmp 23) (.tmp 26)) none [0,3],.mk (some 28) (.mv (.tmp 27)) none [4],.mk (some 29) (.mv (.tmp 7)) (some (28,true)) [5],.mk (some 30) (.bin .geq (.tmp 29) (.const (.int .i64 0))) (some (28,true)) [6,5],.mk (some 31) (.pick (.tmp 28) (.tmp 30) (.const (.bool false))) none [5,7]]
def l29r5a:List AOper :=
  [.mk (some 35) (.fld 1 (.tmp 2)) none [],.mk (some 36) (.load false 1 (.tmp 35)) none [0],.mk (some 37) (.mv (.tmp 8)) none [],.mk (some 38) (.idxA 1 (.tmp 36) (.tmp 37)) none [1,2],.mk (some 39) (.load false 1 (.tmp 38)) none [3],.mk (some 40) (.mv (.tmp 1)) none [],.mk (some 41) (.mv (.tmp 7)) none [],.mk (some 42) (.mv (.tmp 8)) none [],.mk (some 43) (.bin .add (.tmp 41) (.tmp 42)) none [6,7],.mk (some 44) (.idxA 1 (.tmp 40) (.tmp 43)) none [5,8],.mk (some 45) (.load false 1 (.tmp 44)) none [9]]
def l29r5b:List AOper :=
  [.mk (some 46) (.bin .eql (.tmp 39) (.tmp 45)) none [4,10],.mk (some 34) (.mv (.tmp 46)) none [11]]
def l29r5:List AOper:=l29r5a ++ l29r5b
def l29r6a:List AOper :=
  [.mk (some 47) (.fld 2 (.tmp 6)) none [],.mk (some 48) (.load false 1 (.tmp 47)) none [0],.mk (some 49) (.mv (.tmp 7)) none [],.mk (some 50) (.mv (.tmp 8)) none [],.mk (some 51) (.bin .add (.tmp 49) (.tmp 50)) none [2,3],.mk (some 52) (.fld 2 (.tmp 2)) none [],.mk (some 53) (.load false 1 (.tmp 52)) none [5],.mk (some 54) (.mv (.tmp 8)) none [],.mk (some 55) (.idxA 1 (.tmp 53) (.tmp 54)) none [6,7],.mk (some 56) (.load false 1 (.tmp 55)) none [8]]
def l29r6b:List AOper :=
  [.mk (some 57) (.idxA 1 (.tmp 48) (.tmp 51)) none [1,4,0,1,2,3,4,5,6,7,8,9],.mk none (.store 1 (.tmp 57) (.tmp 56)) none [10,9,0,1,2,3,4,5,6,7,8,9]]
def l29r6:List AOper:=l29r6a ++ l29r6b
def l29r7:List AOper :=
  [.mk (some 59) (.fld 1 (.tmp 2)) none [],.mk (some 60) (.load false 1 (.tmp 59)) none [0],.mk (some 61) (.mv (.tmp 8)) none [],.mk (some 62) (.idxA 1 (.tmp 60) (.tmp 61)) none [1,2],.mk (some 63) (.load false 1 (.tmp 62)) none [3],.mk (some 64) (.bin .neq (.tmp 63) (.const (.int .i64 1))) none [4],.mk (some 58) (.mv (.tmp 64)) none [5]]
def l29r8:List AOper :=
  [.mk (some 65) (.build [.int .i64 0,.slice none 0 0,.slice none 0 0] []) none [],.mk none (.store 3 (.tmp 4) (.tmp 65)) none [0,0],.mk (some 5) (.mv (.const (.bool false))) none [1,0,1]]
def l29r9:List AOper :=
  [.mk (some 32) (.mv (.tmp 8)) none [],.mk (some 33) (.bin .add (.tmp 32) (.const (.int .i64 1))) none [0],.mk (some 8) (.mv (.tmp 33)) none [1,0,1]]
def l29r10:List AOper :=
  [.mk (some 66) (.mv (.tmp 1)) none [],.mk (some 67) (.call 50 [.tmp 66]) none [0],.mk (some 68) (.bin .eql (.tmp 67) (.const (.int .i64 0))) none [1]]
def l29r11:List AOper :=
  [.mk (some 69) (.fld 0 (.tmp 6)) none [],.mk none (.store 1 (.tmp 69) (.const (.int .i64 0))) none [0]]
def l29r12:List AOper :=
  [.mk (some 70) (.mv (.tmp 1)) none [],.mk (some 71) (.len (.tmp 70)) none [0],.mk (some 72) (.mkslice 1 [.int .i64 0] (.tmp 71) (.tmp 71)) none [1,1],.mk (some 73) (.fld 2 (.tmp 6)) none [0,1,2],.mk none (.store 1 (.tmp 73) (.tmp 72)) none [3,2,0,1,2]]
def l29r13:List AOper :=
  [.mk (some 74) (.load true 3 (.tmp 6)) none [],.mk (some 75) (.mv (.tmp 7)) none [],.mk (some 76) (.bin .geq (.tmp 75) (.const (.int .i64 0))) none [1],.mk none (.store 3 (.tmp 4) (.tmp 74)) none [0,0],.mk (some 5) (.mv (.tmp 76)) none [2,3,0,1,2,3]]
def l29:AFn :=
  (AFn.mk 77 2 (.seq (.reg l29r0) (.seq (.draw l29r1) (.seq (.reg l29r2) (.seq (.seq (.reg l29r3) (.block 0 (.loop (.seq (.seq (.reg l29r4) (.cond (.tmp 31) .skip (.exit 0))) (.seq (.block 1 (.block 2 (.seq (.draw l29r5) (.cond (.tmp 34) (.draw l29r6) (.seq (.reg l29r7) (.cond (.tmp 58) (.seq (.reg l29r8) .ret) .skip)))))) (.reg l29r9)))))) (.seq (.seq (.reg l29r10) (.cond (.tmp 68) (.seq (.reg l29r11) (.reg l29r12)) .skip)) (.seq (.reg l29r13) .ret)))))) [.cell 4 true 3,.tmp 5])
theorem l29_eq:lowFn Tryz.prog 29=some l29:=by kernel_rfl
def l30r0:List AOper :=
  [.mk (some 1) (.box (.tmp 0)) none [],.mk (some 2) (.alloc [.int .i64 0,.slice none 0 0,.slice none 0 0]) none [],.mk (some 3) (.mv (.const (.bool false))) none []]
def l30r1:List AOper :=
  [.mk (some 4) (.load true 3 (.tmp 1)) none [],.mk (some 5) (.call 27 [.tmp 4]) none [0],.mk (some 6) (.un .not (.tmp 5)) none [1]]
def l30r2:List AOper :=
  [.mk (some 7) (.build [.int .i64 0,.slice none 0 0,.slice none 0 0] []) none [],.mk none (.store 3 (.tmp 2) (.tmp 7)) none [0,0],.mk (some 3) (.mv (.const (.bool false))) none [1,0,1]]
def l30r3:List AOper :=
  [.mk (some 8) (.load true 3 (.tmp 1)) none [],.mk (some 9) (.call 52 [.tmp 8]) none [0],.mk none (.store 3 (.tmp 2) (.tmp 9)) none [1,1,0,1],.mk (some 3) (.mv (.const (.bool true))) none [2,0,1,2]]
def l30:AFn :=
  (AFn.mk 10 1 (.seq (.reg l30r0) (.seq (.seq (.reg l30r1) (.cond (.tmp 6) (.seq (.reg l30r2) .ret) .skip)) (.seq (.reg l30r3) .ret))) [.cell 2 true 3,.tmp 3])
theorem l30_eq:lowFn Tryz.prog 30=some l30:=by kernel_rfl
def l31r0:List AOper :=
  [.mk (some 2) (.mv (.const (.int .i64 0))) none []]
def l31r1:List AOper :=
  [.mk (some 3) (.mv (.const (.int .i64 1))) none []]
def l31r2:List AOper :=
  [.mk (some 6) (.mv (.tmp 0)) none [],.mk (some 7) (.len (.tmp 6)) none [0],.mk (some 8) (.mv (.const (.int .i64 0))) none []]
def l31r3:List AOper :=
  [.mk (some 9) (.bin .lss (.tmp 8) (.tmp 7)) none []]
def l31r4:List AOper :=
  [.mk (some 10) (.idxA 1 (.tmp 6) (.tmp 8)) none [],.mk (some 11) (.load false 1 (.tmp 10)) none [0],.mk (some 5) (.mv (.tmp 11)) none [1,0,1]]
def l31r5:List AOper :=
  [.mk (some 12) (.mv (.tmp 3)) none [],.mk (some 13) (.mv (.tmp 5)) none [],.mk (some 14) (.bin .mul (.tmp 12) (.tmp 13)) none [0,1],.mk (some 3) (.mv (.tmp 14)) none [2,0,1,2]]
def l31r6:List AOper :=
  [.mk (some 15) (.bin .add (.tmp 8) (.const (.int .i64 1))) none [],.mk (some 8) (.mv (.tmp 15)) none [0]]
def l31r7:List AOper :=
  [.mk (some 16) (.mv (.tmp 3)) none [],.mk (some 2) (.mv (.tmp 16)) none [0,0]]
def l31:AFn :=
  (AFn.mk 17 1 (.seq (.reg l31r0) (.seq (.reg l31r1) (.seq (.seq (.reg l31r2) (.block 0 (.loop (.seq (.reg l31r3) (.seq (.cond (.tmp 9) .skip (.exit 0)) (.seq (.block 1 (.seq (.reg l31r4) (.reg l31r5))) (.reg l31r6))))))) (.seq (.reg l31r7) .ret)))) [.tmp 2])
theorem l31_eq:lowFn Tryz.prog 31=some l31:=by kernel_rfl
def l32r0:List AOper :=
  [.mk (some 4) (.mv (.const (.bool false))) none []]
def l32r1:List AOper :=
  [.mk (some 5) (.mv (.tmp 0)) none [],.mk (some 6) (.bin .leq (.const (.int .i64 0)) (.tmp 5)) none [0],.mk (some 7) (.mv (.tmp 6)) none [1],.mk (some 8) (.mv (.tmp 0)) (some (7,true)) [2],.mk (some 9) (.mv (.tmp 1)) (some (7,true)) [2],.mk (some 10) (.bin .leq (.tmp 8) (.tmp 9)) (some (7,true)) [3,4,2],.mk (some 11) (.pick (.tmp 7) (.tmp 10) (.const (.bool false))) none [2,5],.mk (some 4) (.mv (.tmp 11)) none [6,2,0,1,2,3,4,5,6]]
def l32:AFn :=
  (AFn.mk 12 2 (.seq (.reg l32r0) (.seq (.reg l32r1) .ret)) [.tmp 4])
theorem l32_eq:lowFn Tryz.prog 32=some l32:=by kernel_rfl
def l33r0:List AOper :=
  [.mk (some 4) (.alloc [.int .i64 0,.int .i64 0,.int .i64 0,.int .i64 0]) none []]
def l33r1:List AOper :=
  [.mk (some 5) (.alloc [.int .i64 0,.int .i64 0,.int .i64 0,.int .i64 0]) none []]
def l33r2:List AOper :=
  [.mk (some 7) (.mv (.tmp 0)) none [],.mk (some 8) (.len (.tmp 7)) none [0],.mk (some 9) (.bin .sub (.tmp 8) (.const (.int .i64 1))) none [1],.mk (some 6) (.mv (.tmp 9)) none [2,0,1,2]]
def l33r3:List AOper :=
  [.mk (some 10) (.mv (.tmp 6)) none [],.mk (some 11) (.bin .geq (.tmp 10) (.const (.int .i64 0))) none [0]]
def l33r4:List AOper :=
  [.mk (some 14) (.mv (.tmp 6)) none [],.mk (some 15) (.mv (.tmp 1)) none [],.mk (some 16) (.mv (.tmp 0)) none [],.mk (some 17) (.mv (.tmp 6)) none [],.mk (some 18) (.idxA 1 (.tmp 16) (.tmp 17)) none [2,3],.mk (some 19) (.load false 1 (.tmp 18)) none [4],.mk (some 20) (.bin .rem (.tmp 15) (.tmp 19)) none [1,5],.mk (some 21) (.idxP 1 4 (.tmp 5) (.tmp 14)) none [0,0,1,2,3,4,5,6],.mk none (.store 1 (.tmp 21) (.tmp 20)) none [7,6,0,1,2,3,4,5,6]]
def l33r5:List AOper :=
  [.mk (some 22) (.mv (.tmp 1)) none [],.mk (some 23) (.mv (.tmp 0)) none [],.mk (some 24) (.mv (.tmp 6)) none [],.mk (some 25) (.idxA 1 (.tmp 23) (.tmp 24)) none [1,2],.mk (some 26) (.load false 1 (.tmp 25)) none [3],.mk (some 27) (.bin .quo (.tmp 22) (.tmp 26)) none [0,4],.mk (some 1) (.mv (.tmp 27)) none [5,0,1,2,3,4,5]]
def l33r6:List AOper :=
  [.mk (some 12) (.mv (.tmp 6)) none [],.mk (some 13) (.bin .sub (.tmp 12) (.const (.int .i64 1))) none [0],.mk (some 6) (.mv (.tmp 13)) none [1,0,1]]
def l33r7:List AOper :=
  [.mk (some 28) (.load true 4 (.tmp 5)) none [],.mk none (.store 4 (.tmp 4) (.tmp 28)) none [0,0]]
def l33:AFn :=
  (AFn.mk 29 2 (.seq (.reg l33r0) (.seq (.reg l33r1) (.seq (.seq (.reg l33r2) (.block 0 (.loop (.seq (.seq (.reg l33r3) (.cond (.tmp 11) .skip (.exit 0))) (.seq (.block 1 (.seq (.reg l33r4) (.reg l33r5))) (.reg l33r6)))))) (.seq (.reg l33r7) .ret)))) [.cell 4 true 4])
theorem l33_eq:lowFn Tryz.prog 33=some l33:=by kernel_rfl
def l34r0:List AOper :=
  [.mk (some 2) (.mv (.const (.slice none 0 0))) none []]
def l34r1:List AOper :=
  [.mk (some 3) (.mv (.tmp 0)) none [],.mk (some 4) (.isnil false (.tmp 3)) none [0]]
def l34r2:List AOper :=
  [.mk (some 2) (.mv (.const (.slice none 0 0))) none []]
def l34r3:List AOper :=
  [.mk (some 5) (.bslice 1 [.int .i64 0] [] 0) none [],.mk (some 6) (.mv (.tmp 0)) none [],.mk (some 7) (.append 1 (.tmp 5) (.tmp 6)) none [0,1],.mk (some 2) (.mv (.tmp 7)) none [2,2,0,1,2]]
def l34:AFn :=
  (AFn.mk 8 1 (.seq (.reg l34r0) (.seq (.seq (.reg l34r1) (.cond (.tmp 4) (.seq (.reg l34r2) .ret) .skip)) (.seq (.reg l34r3) .ret))) [.tmp 2])
theorem l34_eq:lowFn Tryz.prog 34=some l34:=by kernel_rfl
def l35r0:List AOper :=
  [.mk (some 4) (.alloc [.int .i64 0,.int .i64 0,.int .i64 0,.int .i64 0]) none [],.mk (some 5) (.mv (.const (.bool false))) none []]
def l35r1:List AOper :=
  [.mk (some 9) (.mv (.tmp 1)) none [],.mk (some 10) (.len (.tmp 9)) none [0],.mk (some 11) (.mv (.tmp 0)) none [],.mk (some 12) (.len (.tmp 11)) none [2],.mk (some 13) (.bin .neq (.tmp 10) (.tmp 12)) none [1,3]]
def l35r2:List AOper :=
  [.mk (some 14) (.build [.int .i64 0,.int .i64 0,.int .i64 0,.int .i64 0] []) none [],.mk none (.store 4 (.tmp 4) (.tmp 14)) none [0,0],.mk (some 5) (.mv (.const (.bool false))) none [1,0,1]]
def l35r3:List AOper :=
  [.mk (some 6) (.alloc [.int .i64 0,.int .i64 0,.int .i64 0,.int .i64 0]) none []]
def l35r4:List AOper :=
  [.mk (some 15) (.mv (.tmp 0)) none [],.mk (some 16) (.len (.tmp 15)) none [0],.mk (some 17) (.mv (.const (.int .i64 0))) none []]
def l35r5:List AOper :=
  [.mk (some 18) (.bin .lss (.tmp 17) (.tmp 16)) none []]
def l35r6:List AOper :=
  [.mk (some 19) (.mv (.tmp 17)) none [],.mk (some 20) (.idxA 1 (.tmp 15) (.tmp 17)) none [],.mk (some 21) (.load false 1 (.tmp 20)) none [1],.mk (some 7) (.mv (.tmp 19)) none [0,0,1,2],.mk (some 8) (.mv (.tmp 21)) none [2,3,0,1,2,3]]
def l35r7:List AOper :=
  [.mk (some 22) (.mv (.tmp 1)) none [],.mk (some 23) (.mv (.tmp 7)) none [],.mk (some 24) (.idxA 1 (.tmp 22) (.tmp 23)) none [0,1],.mk (some 25) (.load false 1 (.tmp 24)) none [2],.mk (some 26) (.mv (.tmp 8)) none [],.mk (some 27) (.bin .sub (.tmp 26) (.const (.int .i64 1))) none [4],.mk (some 28) (.call 32 [.tmp 25,.tmp 27]) none [3,5],.mk (some 29) (.un .not (.tmp 28)) none [6]]
def l35r8:List AOper :=
  [.mk (some 30) (.build [.int .i64 0,.int .i64 0,.int .i64 0,.int .i64 0] []) none [],.mk none (.store 4 (.tmp 4) (.tmp 30)) none [0,0],.mk (some 5) (.mv (.const (.bool false))) none [1,0,1]]
def l35r9:List AOper :=
  [.mk (some 31) (.mv (.tmp 7)) none [],.mk (some 32) (.mv (.tmp 1)) none [],.mk (some 33) (.mv (.tmp 7)) none [],.mk (some 34) (.idxA 1 (.tmp 32) (.tmp 33)) none [1,2],.mk (some 35) (.load false 1 (.tmp 34)) none [3],.mk (some 36) (.idxP 1 4 (.tmp 6) (.tmp 31)) none [0,0,1,2,3,4],.mk none (.store 1 (.tmp 36) (.tmp 35)) none [5,4,0,1,2,3,4]]
def l35r10:List AOper :=
  [.mk (some 37) (.bin .add (.tmp 17) (.const (.int .i64 1))) none [],.mk (some 17) (.mv (.tmp 37)) none [0]]
def l35r11:List AOper :=
  [.mk (some 38) (.load true 4 (.tmp 6)) none [],.mk none (.store 4 (.tmp 4) (.tmp 38)) none [0,0],.mk (some 5) (.mv (.const (.bool true))) none [1,0,1]]
def l35:AFn :=
  (AFn.mk 39 2 (.seq (.reg l35r0) (.seq (.seq (.reg l35r1) (.cond (.tmp 13) (.seq (.reg l35r2) .ret) .skip)) (.seq (.reg l35r3) (.seq (.seq (.reg l35r4) (.block 0 (.loop (.seq (.reg l35r5) (.seq (.cond (.tmp 18) .skip (.exit 0)) (.seq (.block 1 (.seq (.reg l35r6) (.seq (.seq (.reg l35r7) (.cond (.tmp 29) (.seq (.reg l35r8) .ret) .skip)) (.reg l35r9)))) (.reg l35r10))))))) (.seq (.reg l35r11) .ret))))) [.cell 4 true 4,.tmp 5])
theorem l35_eq:lowFn Tryz.prog 35=some l35:=by kernel_rfl
def l36r0:List AOper :=
  [.mk (some 2) (.box (.tmp 0)) none [],.mk (some 3) (.box (.tmp 1)) none [],.mk (some 4) (.mv (.const (.int .i64 0))) none []]
def l36r1a:List AOper :=
  [.mk (some 5) (.fld 0 (.tmp 2)) none [],.mk (some 6) (.load false 1 (.tmp 5)) none [0],.mk (some 7) (.load true 4 (.tmp 3)) none [],.mk (some 8) (.fld 2 (.tmp 2)) none [],.mk (some 9) (.load false 1 (.tmp 8)) none [3],.mk (some 10) (.call 53 [.tmp 7,.tmp 9]) none [2,4]]
def l36r1b:List AOper :=
  [.mk (some 11) (.bin .add (.tmp 6) (.tmp 10)) none [1,5],.mk (some 4) (.mv (.tmp 11)) none [6,5,0,1,2,3,4,5,6]]
def l36r1:List AOper:=l36r1a ++ l36r1b
def l36:AFn :=
  (AFn.mk 12 2 (.seq (.reg l36r0) (.seq (.draw l36r1) .ret)) [.tmp 4])
theorem l36_eq:lowFn Tryz.prog 36=some l36:=by kernel_rfl
def l37r0:List AOper :=
  [.mk (some 4) (.mv (.const (.bool false))) none []]
def l37r1:List AOper :=
  [.mk (some 6) (.mv (.tmp 0)) none [],.mk (some 7) (.len (.tmp 6)) none [0],.mk (some 8) (.mv (.tmp 1)) none [],.mk (some 9) (.len (.tmp 8)) none [2],.mk (some 10) (.bin .neq (.tmp 7) (.tmp 9)) none [1,3]]
def l37r2:List AOper :=
  [.mk (some 4) (.mv (.const (.bool false))) none []]
def l37r3:List AOper :=
  [.mk (some 11) (.mv (.tmp 0)) none [],.mk (some 12) (.len (.tmp 11)) none [0],.mk (some 13) (.mv (.const (.int .i64 0))) none []]
def l37r4:List AOper :=
  [.mk (some 14) (.bin .lss (.tmp 13) (.tmp 12)) none []]
def l37r5:List AOper :=
  [.mk (some 15) (.mv (.tmp 13)) none [],.mk (some 5) (.mv (.tmp 15)) none [0,0]]
def l37r6a:List AOper :=
  [.mk (some 16) (.mv (.tmp 0)) none [],.mk (some 17) (.mv (.tmp 5)) none [],.mk (some 18) (.idxA 1 (.tmp 16) (.tmp 17)) none [0,1],.mk (some 19) (.load false 1 (.tmp 18)) none [2],.mk (some 20) (.mv (.tmp 1)) none [],.mk (some 21) (.mv (.tmp 5)) none [],.mk (some 22) (.idxA 1 (.tmp 20) (.tmp 21)) none [4,5],.mk (some 23) (.load false 1 (.tmp 22)) none [6]]
def l37r6b:List AOper :=
  [.mk (some 24) (.bin .neq (.tmp 19) (.tmp 23)) none [3,7]]
def l37r6:List AOper:=l37r6a ++ l37r6b
def l37r7:List AOper :=
  [.mk (some 4) (.mv (.const (.bool false))) none []]
def l37r8:List AOper :=
  [.mk (some 25) (.bin .add (.tmp 13) (.const (.int .i64 1))) none [],.mk (some 13) (.mv (.tmp 25)) none [0]]
def l37r9:List AOper :=
  [.mk (some 4) (.mv (.const (.bool true))) none []]
def l37:AFn :=
  (AFn.mk 26 2 (.seq (.reg l37r0) (.seq (.seq (.reg l37r1) (.cond (.tmp 10) (.seq (.reg l37r2) .ret) .skip)) (.seq (.seq (.reg l37r3) (.block 0 (.loop (.seq (.reg l37r4) (.seq (.cond (.tmp 14) .skip (.exit 0)) (.seq (.block 1 (.seq (.reg l37r5) (.seq (.draw l37r6) (.cond (.tmp 24) (.seq (.reg l37r7) .ret) .skip)))) (.reg l37r8))))))) (.seq (.reg l37r9) .ret)))) [.tmp 4])
theorem l37_eq:lowFn Tryz.prog 37=some l37:=by kernel_rfl
def l38r0:List AOper :=
  [.mk (some 2) (.box (.tmp 0)) none [],.mk (some 3) (.box (.tmp 1)) none [],.mk (some 4) (.mv (.const (.slice none 0 0))) none []]
def l38r1:List AOper :=
  [.mk (some 6) (.raw (Op.makeMap 82 none)) none [],.mk (some 5) (.mv (.tmp 6)) none [0,0]]
def l38r2:List AOper :=
  [.mk (some 7) (.mv (.tmp 5)) none [],.mk (some 8) (.load true 3 (.tmp 2)) none [],.mk (some 9) (.call 39 [.tmp 8]) none [1],.mk (some 10) (.call 54 [.tmp 7,.tmp 9]) none [0,2,2]]
def l38r3:List AOper :=
  [.mk (some 11) (.mv (.tmp 5)) none [],.mk (some 12) (.load true 3 (.tmp 3)) none [],.mk (some 13) (.call 39 [.tmp 12]) none [1],.mk (some 14) (.call 54 [.tmp 11,.tmp 13]) none [0,2,2]]
def l38r4:List AOper :=
  [.mk (some 15) (.mv (.tmp 5)) none [],.mk (some 16) (.call 55 [.tmp 15,.const (.int .i64 2)]) none [0],.mk (some 4) (.mv (.tmp 16)) none [1,1,0,1]]
def l38:AFn :=
  (AFn.mk 17 2 (.seq (.reg l38r0) (.seq (.reg l38r1) (.seq (.reg l38r2) (.seq (.reg l38r3) (.seq (.reg l38r4) .ret))))) [.tmp 4])
theorem l38_eq:lowFn Tryz.prog 38=some l38:=by kernel_rfl
def l39r0:List AOper :=
  [.mk (some 1) (.box (.tmp 0)) none [],.mk (some 2) (.mv (.const (.slice none 0 0))) none []]
def l39r1:List AOper :=
  [.mk (some 3) (.load true 3 (.tmp 1)) none [],.mk (some 4) (.bslice 3 [.int .i64 0,.slice none 0 0,.slice none 0 0] [(0,.tmp 3)] 1) none [0],.mk (some 5) (.call 56 [.tmp 4]) none [1],.mk (some 6) (.call 55 [.tmp 5,.const (.int .i64 1)]) none [2,2],.mk (some 2) (.mv (.tmp 6)) none [3,3,0,1,2,3]]
def l39:AFn :=
  (AFn.mk 7 1 (.seq (.reg l39r0) (.seq (.reg l39r1) .ret)) [.tmp 2])
theorem l39_eq:lowFn Tryz.prog 39=some l39:=by kernel_rfl
def l40r0:List AOper :=
  [.mk (some 2) (.alloc [.int .i64 0,.slice none 0 0,.slice none 0 0]) none []]
def l40r1:List AOper :=
  [.mk (some 8) (.mv (.tmp 0)) none [],.mk (some 9) (.call 41 [.tmp 8]) none [0],.mk (some 10) (.call 57 [.tmp 9]) none [1,1],.mk (some 3) (.alloc [.int .i64 0,.slice none 0 0,.slice none 0 0]) none [],.mk none (.store 3 (.tmp 3) (.tmp 10)) none [3,2,2,0,1,2,3]]
def l40r2:List AOper :=
  [.mk (some 11) (.mv (.tmp 0)) none [],.mk (some 12) (.mv (.tmp 0)) none [],.mk (some 13) (.call 16 [.tmp 12,.const (.int .i64 10)]) none [1],.mk (some 14) (.bslice 1 [.int .i64 0] [(0,.const (.int .i64 0)),(1,.const (.int .i64 0)),(2,.const (.int .i64 1)),(3,.const (.int .i64 3)),(4,.tmp 13)] 5) none [2],.mk (some 15) (.call 17 [.tmp 11,.tmp 14]) none [0,3,2],.mk (some 16) (.fld 0 (.tmp 3)) none [0,1,2,3,4],.mk none (.store 1 (.tmp 16) (.tmp 15)) none [5,4,4,0,1,2,3,4]]
def l40r3:List AOper :=
  [.mk (some 17) (.mv (.tmp 0)) none [],.mk (some 18) (.call 16 [.tmp 17,.const (.int .i64 4)]) none [0],.mk (some 4) (.mv (.tmp 18)) none [1,1,0,1]]
def l40r4:List AOper :=
  [.mk (some 19) (.mv (.tmp 4)) none [],.mk (some 20) (.bin .gtr (.tmp 19) (.const (.int .i64 0))) none [0],.mk (some 21) (.mv (.tmp 20)) none [1],.mk (some 22) (.fld 1 (.tmp 3)) (some (21,true)) [2],.mk (some 23) (.load false 1 (.tmp 22)) (some (21,true)) [3,2],.mk (some 24) (.len (.tmp 23)) (some (21,true)) [4,2],.mk (some 25) (.bin .gtr (.tmp 24) (.const (.int .i64 0))) (some (21,true)) [5,2],.mk (some 26) (.pick (.tmp 21) (.tmp 25) (.const (.bool false))) none [2,6]]
def l40r5:List AOper :=
  [.mk (some 29) (.mv (.tmp 0)) none [],.mk (some 30) (.fld 1 (.tmp 3)) none [],.mk (some 31) (.load false 1 (.tmp 30)) none [1],.mk (some 32) (.len (.tmp 31)) none [2],.mk (some 33) (.call 16 [.tmp 29,.tmp 32]) none [0,3],.mk (some 5) (.mv (.tmp 33)) none [4,4,0,1,2,3,4]]
def l40r6:List AOper :=
  [.mk (some 34) (.load true 3 (.tmp 3)) none [],.mk (some 6) (.alloc [.int .i64 0,.slice none 0 0,.slice none 0 0]) none [],.mk none (.store 3 (.tmp 6) (.tmp 34)) none [1,0,0,1]]
def l40r7:List AOper :=
  [.mk (some 7) (.mv (.const (.bool false))) none []]
def l40r8:List AOper :=
  [.mk (some 35) (.mv (.tmp 0)) none [],.mk (some 36) (.call 16 [.tmp 35,.const (.int .i64 6)]) none [0]]
def l40r9:List AOper :=
  [.mk (some 47) (.bin .eql (.tmp 36) (.const (.int .i64 0))) none [],.mk (some 46) (.mv (.tmp 47)) none [0]]
def l40r10a:List AOper :=
  [.mk (some 49) (.load true 3 (.tmp 3)) none [],.mk (some 50) (.mv (.tmp 5)) none [],.mk (some 51) (.mv (.tmp 0)) none [],.mk (some 52) (.call 59 [.tmp 51]) none [2],.mk (some 53) (.call 58 [.tmp 49,.tmp 50,.tmp 52]) none [0,1,3,3],.mk (some 48) (.mv (.tmp 53)) none [4],.mk (some 54) (.extract (.tmp 48) 0) none [5],.mk (some 55) (.extract (.tmp 48) 1) none [5],.mk none (.store 3 (.tmp 6) (.tmp 54)) none [6,4,0,1,2,3,4,5,6]]
def l40r10b:List AOper :=
  [.mk (some 7) (.mv (.tmp 55)) none [7,8,0,1,2,3,4,5,6,7,8]]
def l40r10:List AOper:=l40r10a ++ l40r10b
def l40r11:List AOper :=
  [.mk (some 57) (.bin .eql (.tmp 36) (.const (.int .i64 1))) none [],.mk (some 56) (.mv (.tmp 57)) none [0]]
def l40r12:List AOper :=
  [.mk (some 59) (.load true 3 (.tmp 3)) none [],.mk (some 60) (.mv (.tmp 5)) none [],.mk (some 61) (.call 60 [.tmp 59,.tmp 60]) none [0,1],.mk (some 58) (.mv (.tmp 61)) none [2],.mk (some 62) (.extract (.tmp 58) 0) none [3],.mk (some 63) (.extract (.tmp 58) 1) none [3],.mk none (.store 3 (.tmp 6) (.tmp 62)) none [4,2,0,1,2,3,4],.mk (some 7) (.mv (.tmp 63)) none [5,6,0,1,2,3,4,5,6]]
def l40r13:List AOper :=
  [.mk (some 65) (.bin .eql (.tmp 36) (.const (.int .i64 2))) none [],.mk (some 64) (.mv (.tmp 65)) none [0]]
def l40r14a:List AOper :=
  [.mk (some 67) (.load true 3 (.tmp 3)) none [],.mk (some 68) (.fld 1 (.tmp 3)) none [],.mk (some 69) (.load false 1 (.tmp 68)) none [1],.mk (some 70) (.len (.tmp 69)) none [2],.mk (some 71) (.call 63 [.tmp 70]) none [3],.mk (some 72) (.call 62 [.tmp 71]) none [4,4],.mk (some 73) (.call 61 [.tmp 67,.tmp 72]) none [0,5,5],.mk (some 66) (.mv (.tmp 73)) none [6],.mk (some 74) (.extract (.tmp 66) 0) none [7],.mk (some 75) (.extract (.tmp 66) 1) none [7],.mk none (.store 3 (.tmp 6) (.tmp 74)) none [8,6,0,1,2,3,4,5,6,7,8]]
def l40r14b:List AOper :=
  [.mk (some 7) (.mv (.tmp 75)) none [9,10,0,1,2,3,4,5,6,7,8,9,10]]
def l40r14:List AOper:=l40r14a ++ l40r14b
def l40r15:List AOper :=
  [.mk (some 77) (.bin .eql (.tmp 36) (.const (.int .i64 3))) none [],.mk (some 76) (.mv (.tmp 77)) none [0]]
def l40r16a:List AOper :=
  [.mk (some 79) (.load true 3 (.tmp 3)) none [],.mk (some 80) (.mv (.tmp 5)) none [],.mk (some 81) (.mv (.tmp 0)) none [],.mk (some 82) (.call 16 [.tmp 81,.const (.int .i64 3)]) none [2],.mk (some 83) (.bin .add (.const (.int .i64 1)) (.tmp 82)) none [3],.mk (some 84) (.call 64 [.tmp 79,.tmp 80,.tmp 83]) none [0,1,4,3],.mk (some 78) (.mv (.tmp 84)) none [5],.mk (some 85) (.extract (.tmp 78) 0) none [6],.mk (some 86) (.extract (.tmp 78) 1) none [6],.mk none (.store 3 (.tmp 6) (.tmp 85)) none [7,5,0,1,2,3,4,5,6,7]]
def l40r16b:List AOper :=
  [.mk (some 7) (.mv (.tmp 86)) none [8,9,0,1,2,3,4,5,6,7,8,9]]
def l40r16:List AOper:=l40r16a ++ l40r16b
def l40r17:List AOper :=
  [.mk (some 88) (.bin .eql (.tmp 36) (.const (.int .i64 4))) none [],.mk (some 87) (.mv (.tmp 88)) none [0]]
def l40r18:List AOper :=
  [.mk (some 90) (.load true 3 (.tmp 3)) none [],.mk (some 91) (.mv (.tmp 5)) none [],.mk (some 92) (.call 65 [.tmp 90,.tmp 91]) none [0,1],.mk (some 89) (.mv (.tmp 92)) none [2],.mk (some 93) (.extract (.tmp 89) 0) none [3],.mk (some 94) (.extract (.tmp 89) 1) none [3],.mk none (.store 3 (.tmp 6) (.tmp 93)) none [4,2,0,1,2,3,4],.mk (some 7) (.mv (.tmp 94)) none [5,6,0,1,2,3,4,5,6]]
def l40r19:List AOper :=
  [.mk (some 37) (.load true 3 (.tmp 3)) none [],.mk (some 38) (.call 52 [.tmp 37]) none [0],.mk none (.store 3 (.tmp 6) (.tmp 38)) none [1,1,0,1]]
def l40r20a:List AOper :=
  [.mk (some 39) (.fld 2 (.tmp 6)) none [],.mk (some 40) (.load false 1 (.tmp 39)) none [0],.mk (some 41) (.mv (.tmp 5)) none [],.mk (some 42) (.mv (.tmp 0)) none [],.mk (some 43) (.bslice 1 [.int .i64 0] [(0,.const (.int .i64 0)),(1,.const (.int .i64 2)),(2,.const (.int .i64 3)),(3,.const (.int .i64 1)),(4,.const (.int .i64 (-1))),(5,.const (.int .i64 5))] 6) none [],.mk (some 44) (.call 17 [.tmp 42,.tmp 43]) none [3,4]]
def l40r20b:List AOper :=
  [.mk (some 45) (.idxA 1 (.tmp 40) (.tmp 41)) none [1,2,0,1,2,3,4,5],.mk none (.store 1 (.tmp 45) (.tmp 44)) none [6,5,5,0,1,2,3,4,5]]
def l40r20:List AOper:=l40r20a ++ l40r20b
def l40r21:List AOper :=
  [.mk (some 7) (.mv (.const (.bool true))) none []]
def l40r22:List AOper :=
  [.mk (some 95) (.mv (.tmp 7)) none [],.mk (some 96) (.mv (.tmp 95)) none [0],.mk (some 97) (.load true 3 (.tmp 6)) (some (96,true)) [1],.mk (some 98) (.call 27 [.tmp 97]) (some (96,true)) [2,1,1],.mk (some 99) (.pick (.tmp 96) (.tmp 98) (.const (.bool false))) none [1,3]]
def l40r23:List AOper :=
  [.mk (some 100) (.load true 3 (.tmp 6)) none [],.mk none (.store 3 (.tmp 3) (.tmp 100)) none [0,0]]
def l40r24:List AOper :=
  [.mk (some 27) (.mv (.tmp 4)) none [],.mk (some 28) (.bin .sub (.tmp 27) (.const (.int .i64 1))) none [0],.mk (some 4) (.mv (.tmp 28)) none [1,0,1]]
def l40r25:List AOper :=
  [.mk (some 101) (.load true 3 (.tmp 3)) none [],.mk (some 102) (.call 27 [.tmp 101]) none [0],.mk (some 103) (.un .not (.tmp 102)) none [1]]
def l40r26:List AOper :=
  [.mk (some 104) (.fld 0 (.tmp 3)) none [],.mk none (.store 1 (.tmp 104) (.const (.int .i64 0))) none [0]]
def l40r27:List AOper :=
  [.mk (some 105) (.load true 3 (.tmp 3)) none [],.mk none (.store 3 (.tmp 2) (.tmp 105)) none [0,0]]
def l40:AFn :=
  (AFn.mk 106 1 (.seq (.reg l40r0) (.seq (.reg l40r1) (.seq (.reg l40r2) (.seq (.seq (.reg l40r3) (.block 0 (.loop (.seq (.seq (.reg l40r4) (.cond (.tmp 26) .skip (.exit 0))) (.seq (.block 1 (.seq (.reg l40r5) (.seq (.reg l40r6) (.seq (.reg l40r7) (.seq (.seq (.reg l40r8) (.block 2 (.seq (.reg l40r9) (.cond (.tmp 46) (.draw l40r10) (.seq (.reg l40r11) (.cond (.tmp 56) (.reg l40r12) (.seq (.reg l40r13) (.cond (.tmp 64) (.draw l40r14) (.seq (.reg l40r15) (.cond (.tmp 76) (.draw l40r16) (.seq (.reg l40r17) (.cond (.tmp 87) (.reg l40r18) (.seq (.reg l40r19) (.seq (.draw l40r20) (.reg l40r21))))))))))))))) (.seq (.reg l40r22) (.cond (.tmp 99) (.reg l40r23) .skip))))))) (.reg l40r24)))))) (.seq (.seq (.reg l40r25) (.cond (.tmp 103) (.reg l40r26) .skip)) (.seq (.reg l40r27) .ret)))))) [.cell 2 true 3])
theorem l40_eq:lowFn Tryz.prog 40=some l40:=by kernel_rfl
def l41r0:List AOper :=
  [.mk (some 2) (.mv (.const (.slice none 0 0))) none []]
def l41r1:List AOper :=
  [.mk (some 6) (.bslice 1 [.int .i64 0] [] 0) none [],.mk (some 3) (.mv (.tmp 6)) none [0,0]]
def l41r2:List AOper :=
  [.mk (some 7) (.mv (.tmp 0)) none [],.mk (some 8) (.bslice 1 [.int .i64 0] [(0,.const (.int .i64 2)),(1,.const (.int .i64 1)),(2,.const (.int .i64 3)),(3,.const (.int .i64 2)),(4,.const (.int .i64 0)),(5,.const (.int .i64 4))] 6) none [],.mk (some 9) (.call 17 [.tmp 7,.tmp 8]) none [0,1],.mk (some 4) (.mv (.tmp 9)) none [2,2,0,1,2]]
def l41r3:List AOper :=
  [.mk (some 10) (.mv (.tmp 4)) none [],.mk (some 11) (.bin .gtr (.tmp 10) (.const (.int .i64 0))) none [0]]
def l41r4:List AOper :=
  [.mk (some 14) (.mv (.tmp 0)) none [],.mk (some 15) (.bslice 1 [.int .i64 0] [(0,.const (.int .i64 2)),(1,.const (.int .i64 3)),(2,.const (.int .i64 1)),(3,.const (.int .i64 4)),(4,.const (.int .i64 2)),(5,.const (.int .i64 3)),(6,.const (.int .i64 5)),(7,.const (.int .i64 0))] 8) none [],.mk (some 16) (.call 17 [.tmp 14,.tmp 15]) none [0,1],.mk (some 5) (.mv (.tmp 16)) none [2,2,0,1,2]]
def l41r5:List AOper :=
  [.mk (some 17) (.mv (.tmp 3)) none [],.mk (some 18) (.call 50 [.tmp 17]) none [0],.mk (some 19) (.mv (.tmp 5)) none [],.mk (some 20) (.bin .mul (.tmp 18) (.tmp 19)) none [1,2],.mk (some 21) (.bin .leq (.tmp 20) (.const (.int .i64 60))) none [3]]
def l41r6:List AOper :=
  [.mk (some 22) (.mv (.tmp 3)) none [],.mk (some 23) (.mv (.tmp 5)) none [],.mk (some 24) (.bslice 1 [.int .i64 0] [(0,.tmp 23)] 1) none [1],.mk (some 25) (.append 1 (.tmp 22) (.tmp 24)) none [0,2],.mk (some 3) (.mv (.tmp 25)) none [3,3,0,1,2,3]]
def l41r7:List AOper :=
  [.mk (some 12) (.mv (.tmp 4)) none [],.mk (some 13) (.bin .sub (.tmp 12) (.const (.int .i64 1))) none [0],.mk (some 4) (.mv (.tmp 13)) none [1,0,1]]
def l41r8:List AOper :=
  [.mk (some 26) (.mv (.tmp 3)) none [],.mk (some 2) (.mv (.tmp 26)) none [0,0]]
def l41:AFn :=
  (AFn.mk 27 1 (.seq (.reg l41r0) (.seq (.reg l41r1) (.seq (.seq (.reg l41r2) (.block 0 (.loop (.seq (.seq (.reg l41r3) (.cond (.tmp 11) .skip (.exit 0))) (.seq (.block 1 (.seq (.reg l41r4) (.seq (.reg l41r5) (.cond (.tmp 21) (.reg l41r6) .skip)))) (.reg l41r7)))))) (.seq (.reg l41r8) .ret)))) [.tmp 2])
theorem l41_eq:lowFn Tryz.prog 41=some l41:=by kernel_rfl
def l42r0:List AOper :=
  [.mk (some 4) (.mv (.const (.bool false))) none []]
def l42r1:List AOper :=
  [.mk (some 7) (.mv (.tmp 0)) none [],.mk (some 8) (.len (.tmp 7)) none [0],.mk (some 9) (.mv (.tmp 1)) none [],.mk (some 10) (.bin .neq (.tmp 8) (.tmp 9)) none [1,2]]
def l42r2:List AOper :=
  [.mk (some 4) (.mv (.const (.bool false))) none []]
def l42r3:List AOper :=
  [.mk (some 11) (.mv (.tmp 0)) none [],.mk (some 12) (.len (.tmp 11)) none [0],.mk (some 13) (.mv (.const (.int .i64 0))) none []]
def l42r4:List AOper :=
  [.mk (some 14) (.bin .lss (.tmp 13) (.tmp 12)) none []]
def l42r5:List AOper :=
  [.mk (some 15) (.idxA 1 (.tmp 11) (.tmp 13)) none [],.mk (some 16) (.load false 1 (.tmp 15)) none [0],.mk (some 6) (.mv (.tmp 16)) none [1,0,1]]
def l42r6:List AOper :=
  [.mk (some 17) (.mv (.tmp 6)) none [],.mk (some 18) (.call 66 [.tmp 17,.const (.int .i64 60)]) none [0],.mk (some 19) (.un .not (.tmp 18)) none [1]]
def l42r7:List AOper :=
  [.mk (some 4) (.mv (.const (.bool false))) none []]
def l42r8:List AOper :=
  [.mk (some 20) (.bin .add (.tmp 13) (.const (.int .i64 1))) none [],.mk (some 13) (.mv (.tmp 20)) none [0]]
def l42r9:List AOper :=
  [.mk (some 4) (.mv (.const (.bool true))) none []]
def l42:AFn :=
  (AFn.mk 21 2 (.seq (.reg l42r0) (.seq (.seq (.reg l42r1) (.cond (.tmp 10) (.seq (.reg l42r2) .ret) .skip)) (.seq (.seq (.reg l42r3) (.block 0 (.loop (.seq (.reg l42r4) (.seq (.cond (.tmp 14) .skip (.exit 0)) (.seq (.block 1 (.seq (.reg l42r5) (.seq (.reg l42r6) (.cond (.tmp 19) (.seq (.reg l42r7) .ret) .skip)))) (.reg l42r8))))))) (.seq (.reg l42r9) .ret)))) [.tmp 4])
theorem l42_eq:lowFn Tryz.prog 42=some l42:=by kernel_rfl
def l43r0:List AOper :=
  [.mk (some 1) (.box (.tmp 0)) none [],.mk (some 2) (.mv (.const (.int .i64 0))) none [],.mk (some 3) (.mv (.const (.int .i64 0))) none [1]]
def l43r1:List AOper :=
  [.mk (some 9) (.load true 3 (.tmp 1)) none [],.mk (some 10) (.call 44 [.tmp 9]) none [0],.mk (some 11) (.bin .eql (.tmp 10) (.const (.int .i64 0))) none [1]]
def l43r2:List AOper :=
  [.mk (some 2) (.mv (.const (.int .i64 (-1)))) none [],.mk (some 3) (.mv (.const (.int .i64 (-1)))) none [0,0]]
def l43r3a:List AOper :=
  [.mk (some 12) (.fld 0 (.tmp 1)) none [],.mk (some 13) (.load false 1 (.tmp 12)) none [0],.mk (some 14) (.fld 0 (.tmp 1)) none [],.mk (some 15) (.load false 1 (.tmp 14)) none [2],.mk (some 4) (.mv (.tmp 13)) none [1,0,1]]
def l43r3b:List AOper :=
  [.mk (some 5) (.mv (.tmp 15)) none [3,4,0,1,2,3,4]]
def l43r3:List AOper:=l43r3a ++ l43r3b
def l43r4:List AOper :=
  [.mk (some 16) (.fld 2 (.tmp 1)) none [],.mk (some 17) (.load false 1 (.tmp 16)) none [0],.mk (some 18) (.len (.tmp 17)) none [1],.mk (some 19) (.mv (.const (.int .i64 0))) none []]
def l43r5:List AOper :=
  [.mk (some 20) (.bin .lss (.tmp 19) (.tmp 18)) none []]
def l43r6:List AOper :=
  [.mk (some 21) (.mv (.tmp 19)) none [],.mk (some 22) (.idxA 1 (.tmp 17) (.tmp 19)) none [],.mk (some 23) (.load false 1 (.tmp 22)) none [1],.mk (some 6) (.mv (.tmp 21)) none [0,0,1,2],.mk (some 7) (.mv (.tmp 23)) none [2,3,0,1,2,3]]
def l43r7:List AOper :=
  [.mk (some 24) (.fld 1 (.tmp 1)) none [],.mk (some 25) (.load false 1 (.tmp 24)) none [0],.mk (some 26) (.mv (.tmp 6)) none [],.mk (some 27) (.idxA 1 (.tmp 25) (.tmp 26)) none [1,2],.mk (some 28) (.load false 1 (.tmp 27)) none [3],.mk (some 29) (.bin .sub (.tmp 28) (.const (.int .i64 1))) none [4],.mk (some 30) (.mv (.tmp 7)) none [],.mk (some 31) (.bin .mul (.tmp 29) (.tmp 30)) none [5,6],.mk (some 8) (.mv (.tmp 31)) none [7,0,1,2,3,4,5,6,7]]
def l43r8:List AOper :=
  [.mk (some 32) (.mv (.tmp 4)) none [],.mk (some 33) (.mv (.tmp 8)) none [],.mk (some 34) (.minmax false (.tmp 33) (.const (.int .i64 0))) none [1],.mk (some 35) (.bin .add (.tmp 32) (.tmp 34)) none [0,2],.mk (some 4) (.mv (.tmp 35)) none [3,0,1,2,3]]
def l43r9:List AOper :=
  [.mk (some 36) (.mv (.tmp 5)) none [],.mk (some 37) (.mv (.tmp 8)) none [],.mk (some 38) (.minmax true (.tmp 37) (.const (.int .i64 0))) none [1],.mk (some 39) (.bin .add (.tmp 36) (.tmp 38)) none [0,2],.mk (some 5) (.mv (.tmp 39)) none [3,0,1,2,3]]
def l43r10:List AOper :=
  [.mk (some 40) (.bin .add (.tmp 19) (.const (.int .i64 1))) none [],.mk (some 19) (.mv (.tmp 40)) none [0]]
def l43r11:List AOper :=
  [.mk (some 41) (.mv (.tmp 4)) none [],.mk (some 42) (.mv (.tmp 5)) none [],.mk (some 2) (.mv (.tmp 41)) none [0,0],.mk (some 3) (.mv (.tmp 42)) none [1,2,0,1,2]]
def l43:AFn :=
  (AFn.mk 43 1 (.seq (.reg l43r0) (.seq (.seq (.reg l43r1) (.cond (.tmp 11) (.seq (.reg l43r2) .ret) .skip)) (.seq (.draw l43r3) (.seq (.seq (.reg l43r4) (.block 0 (.loop (.seq (.reg l43r5) (.seq (.cond (.tmp 20) .skip (.exit 0)) (.seq (.block 1 (.seq (.reg l43r6) (.seq (.reg l43r7) (.seq (.reg l43r8) (.reg l43r9))))) (.reg l43r10))))))) (.seq (.reg l43r11) .ret))))) [.tmp 2,.tmp 3])
theorem l43_eq:lowFn Tryz.prog 43=some l43:=by kernel_rfl
def l44r0:List AOper :=
  [.mk (some 1) (.box (.tmp 0)) none [],.mk (some 2) (.mv (.const (.int .i64 0))) none []]
def l44r1:List AOper :=
  [.mk (some 3) (.fld 1 (.tmp 1)) none [],.mk (some 4) (.load false 1 (.tmp 3)) none [0],.mk (some 5) (.call 31 [.tmp 4]) none [1],.mk (some 2) (.mv (.tmp 5)) none [2,2,0,1,2]]
def l44:AFn :=
  (AFn.mk 6 1 (.seq (.reg l44r0) (.seq (.reg l44r1) .ret)) [.tmp 2])
theorem l44_eq:lowFn Tryz.prog 44=some l44:=by kernel_rfl
def l45r0:List AOper :=
  [.mk (some 4) (.mv (.const (.slice none 0 0))) none []]
def l45r1:List AOper :=
  [.mk (some 5) (.mv (.tmp 1)) none [],.mk (some 6) (.bin .lss (.tmp 5) (.const (.int .i64 0))) none [0]]
def l45r2:List AOper :=
  [.mk (some 7) (.raw (Op.makeInterface 9 (.const (.string (ByteArray.mk (Array.mk [(99:UInt8),(97:UInt8),(110:UInt8),(110:UInt8),(111:UInt8),(116:UInt8),(32:UInt8),(98:UInt8),(101:UInt8),(32:UInt8),(110:UInt8),(101:UInt8),(103:UInt8),(97:UInt8),(116:UInt8),(105:UInt8),(118:UInt8),(101:UInt8)])))))) none [],.mk none (.raw (Op.panic (.tmp 7))) none [0]]
def l45r3:List AOper :=
  [.mk (some 8) (.mv (.tmp 1)) none [],.mk (some 9) (.mv (.tmp 0)) none [],.mk (some 10) (.raw (Op.call (Call.mk (Callee.builtin Builtin.cap) (Array.mk [.tmp 9]) (Array.mk [48])))) none [1],.mk (some 11) (.mv (.tmp 0)) none [],.mk (some 12) (.len (.tmp 11)) none [3],.mk (some 13) (.bin .sub (.tmp 10) (.tmp 12)) none [2,4],.mk (some 14) (.bin .sub (.tmp 8) (.tmp 13)) none [0,5],.mk (some 1) (.mv (.tmp 14)) none [6,0,1,2,3,4,5,6]]
def l45r4:List AOper :=
  [.mk (some 15) (.mv (.tmp 1)) none [],.mk (some 16) (.bin .gtr (.tmp 15) (.const (.int .i64 0))) none [0]]
def l45r5:List AOper :=
  [.mk (some 17) (.mv (.tmp 0)) none [],.mk (some 18) (.mv (.tmp 0)) none [],.mk (some 19) (.raw (Op.call (Call.mk (Callee.builtin Builtin.cap) (Array.mk [.tmp 18]) (Array.mk [48])))) none [1],.mk (some 20) (.slice 2 (.tmp 17) none (some (.tmp 19))) none [0,2],.mk (some 21) (.mv (.tmp 1)) none [],.mk (some 22) (.raw (Op.call (Call.mk (Callee.builtin Builtin.append) (Array.mk [.tmp 20,.tmp 21]) (Array.mk [48,3])))) none [3,4],.mk (some 23) (.mv (.tmp 0)) none [],.mk (some 24) (.len (.tmp 23)) none [6],.mk (some 25) (.slice 2 (.tmp 22) none (some (.tmp 24))) none [5,7],.mk (some 0) (.mv (.tmp 25)) none [8,5,0,1,2,3,4,5,6,7,8]]
def l45r6:List AOper :=
  [.mk (some 26) (.mv (.tmp 0)) none [],.mk (some 4) (.mv (.tmp 26)) none [0,0]]
def l45:AFn :=
  (AFn.mk 27 2 (.seq (.reg l45r0) (.seq (.seq (.reg l45r1) (.cond (.tmp 6) (.reg l45r2) .skip)) (.seq (.seq (.reg l45r3) (.seq (.reg l45r4) (.cond (.tmp 16) (.reg l45r5) .skip))) (.seq (.reg l45r6) .ret)))) [.tmp 4])
theorem l45_eq:lowFn Tryz.prog 45=some l45:=by kernel_rfl
def l46r0:List AOper :=
  [.mk (some 4) (.mv (.const (.int .u64 0))) none [],.mk (some 5) (.mv (.const (.int .u64 0))) none [0]]
def l46r1:List AOper :=
  [.mk (some 11) (.mv (.tmp 0)) none [],.mk (some 12) (.conv .u32 (.tmp 11)) none [0],.mk (some 13) (.mv (.tmp 1)) none [],.mk (some 14) (.conv .u32 (.tmp 13)) none [2],.mk (some 15) (.call 67 [.tmp 12,.tmp 14]) none [1,3],.mk (some 10) (.mv (.tmp 15)) none [4],.mk (some 16) (.extract (.tmp 10) 0) none [5],.mk (some 17) (.extract (.tmp 10) 1) none [5],.mk (some 6) (.mv (.tmp 16)) none [6,4,0,1,2,3,4,5,6],.mk (some 7) (.mv (.tmp 17)) none [7,8,0,1,2,3,4,5,6,7,8]]
def l46r2:List AOper :=
  [.mk (some 18) (.mv (.tmp 6)) none [],.mk (some 19) (.conv .u64 (.tmp 18)) none [0],.mk (some 20) (.mv (.tmp 7)) none [],.mk (some 21) (.conv .u64 (.tmp 20)) none [2],.mk (some 4) (.mv (.tmp 19)) none [1,0,1],.mk (some 5) (.mv (.tmp 21)) none [3,4,0,1,2,3,4]]
def l46r3:List AOper :=
  [.mk (some 23) (.mv (.tmp 0)) none [],.mk (some 24) (.mv (.tmp 1)) none [],.mk (some 25) (.call 68 [.tmp 23,.tmp 24]) none [0,1],.mk (some 22) (.mv (.tmp 25)) none [2],.mk (some 26) (.extract (.tmp 22) 0) none [3],.mk (some 27) (.extract (.tmp 22) 1) none [3],.mk (some 8) (.mv (.tmp 26)) none [4,2,0,1,2,3,4],.mk (some 9) (.mv (.tmp 27)) none [5,6,0,1,2,3,4,5,6]]
def l46r4:List AOper :=
  [.mk (some 28) (.mv (.tmp 8)) none [],.mk (some 29) (.mv (.tmp 9)) none [],.mk (some 4) (.mv (.tmp 28)) none [0,0],.mk (some 5) (.mv (.tmp 29)) none [1,2,0,1,2]]
def l46:AFn :=
  (AFn.mk 30 2 (.seq (.reg l46r0) (.seq (.cond (.const (.bool false)) (.seq (.reg l46r1) (.seq (.reg l46r2) .ret)) .skip) (.seq (.reg l46r3) (.seq (.reg l46r4) .ret)))) [.tmp 4,.tmp 5])
theorem l46_eq:lowFn Tryz.prog 46=some l46:=by kernel_rfl
def l47r0:List AOper :=
  [.mk (some 1) (.box (.tmp 0)) none [],.mk (some 2) (.alloc [.int .i64 0,.slice none 0 0,.slice none 0 0]) none []]
def l47r1:List AOper :=
  [.mk (some 6) (.fld 0 (.tmp 1)) none [],.mk (some 7) (.load true 3 (.tmp 6)) none [0],.mk (some 8) (.fld 3 (.tmp 1)) none [],.mk (some 9) (.load true 4 (.tmp 8)) none [2],.mk (some 10) (.call 36 [.tmp 7,.tmp 9]) none [1,3],.mk (some 11) (.build [.int .i64 0,.slice none 0 0,.slice none 0 0] [(0,1,.tmp 10)]) none [4],.mk (some 3) (.alloc [.int .i64 0,.slice none 0 0,.slice none 0 0]) none [],.mk none (.store 3 (.tmp 3) (.tmp 11)) none [6,5,4,0,1,2,3,4,5,6]]
def l47r2:List AOper :=
  [.mk (some 12) (.fld 7 (.tmp 1)) none [],.mk (some 13) (.load false 1 (.tmp 12)) none [0],.mk (some 14) (.len (.tmp 13)) none [1],.mk (some 15) (.mv (.const (.int .i64 0))) none []]
def l47r3:List AOper :=
  [.mk (some 16) (.bin .lss (.tmp 15) (.tmp 14)) none []]
def l47r4:List AOper :=
  [.mk (some 17) (.idxA 2 (.tmp 13) (.tmp 15)) none [],.mk (some 18) (.load true 2 (.tmp 17)) none [0],.mk (some 5) (.alloc [.int .i64 0,.int .i64 0]) none [],.mk none (.store 2 (.tmp 5) (.tmp 18)) none [2,1,0,1,2]]
def l47r5:List AOper :=
  [.mk (some 19) (.fld 1 (.tmp 3)) none [],.mk (some 20) (.load false 1 (.tmp 19)) none [0],.mk (some 21) (.fld 0 (.tmp 5)) none [],.mk (some 22) (.load false 1 (.tmp 21)) none [2],.mk (some 23) (.bslice 1 [.int .i64 0] [(0,.tmp 22)] 1) none [3],.mk (some 24) (.append 1 (.tmp 20) (.tmp 23)) none [1,4],.mk (some 25) (.fld 1 (.tmp 3)) none [0,1,2,3,4,5],.mk none (.store 1 (.tmp 25) (.tmp 24)) none [6,5,5,0,1,2,3,4,5]]
def l47r6:List AOper :=
  [.mk (some 26) (.fld 2 (.tmp 3)) none [],.mk (some 27) (.load false 1 (.tmp 26)) none [0],.mk (some 28) (.fld 1 (.tmp 5)) none [],.mk (some 29) (.load false 1 (.tmp 28)) none [2],.mk (some 30) (.bslice 1 [.int .i64 0] [(0,.tmp 29)] 1) none [3],.mk (some 31) (.append 1 (.tmp 27) (.tmp 30)) none [1,4],.mk (some 32) (.fld 2 (.tmp 3)) none [0,1,2,3,4,5],.mk none (.store 1 (.tmp 32) (.tmp 31)) none [6,5,5,0,1,2,3,4,5]]
def l47r7:List AOper :=
  [.mk (some 33) (.bin .add (.tmp 15) (.const (.int .i64 1))) none [],.mk (some 15) (.mv (.tmp 33)) none [0]]
def l47r8:List AOper :=
  [.mk (some 34) (.load true 3 (.tmp 3)) none [],.mk none (.store 3 (.tmp 2) (.tmp 34)) none [0,0]]
def l47:AFn :=
  (AFn.mk 35 1 (.seq (.reg l47r0) (.seq (.reg l47r1) (.seq (.seq (.reg l47r2) (.block 0 (.loop (.seq (.reg l47r3) (.seq (.cond (.tmp 16) .skip (.exit 0)) (.seq (.block 1 (.seq (.reg l47r4) (.seq (.reg l47r5) (.reg l47r6)))) (.reg l47r7))))))) (.seq (.reg l47r8) .ret)))) [.cell 2 true 3])
theorem l47_eq:lowFn Tryz.prog 47=some l47:=by kernel_rfl
def l48r0:List AOper :=
  [.mk (some 6) (.mv (.const (.bool false))) none []]
def l48r1:List AOper :=
  [.mk (some 7) (.mv (.const (.int .i64 0))) none []]
def l48r2:List AOper :=
  [.mk (some 8) (.mv (.tmp 7)) none [],.mk (some 9) (.mv (.tmp 0)) none [],.mk (some 10) (.len (.tmp 9)) none [1],.mk (some 11) (.bin .lss (.tmp 8) (.tmp 10)) none [0,2]]
def l48r3:List AOper :=
  [.mk (some 14) (.mv (.tmp 0)) none [],.mk (some 15) (.mv (.tmp 7)) none [],.mk (some 16) (.idxA 1 (.tmp 14) (.tmp 15)) none [0,1],.mk (some 17) (.load false 1 (.tmp 16)) none [2],.mk (some 18) (.mv (.tmp 1)) none [],.mk (some 19) (.mv (.tmp 2)) none [],.mk (some 20) (.call 49 [.tmp 17,.tmp 18,.tmp 19]) none [3,4,5],.mk (some 21) (.un .not (.tmp 20)) none [6]]
def l48r4:List AOper :=
  [.mk (some 6) (.mv (.const (.bool false))) none []]
def l48r5:List AOper :=
  [.mk (some 12) (.mv (.tmp 7)) none [],.mk (some 13) (.bin .add (.tmp 12) (.const (.int .i64 1))) none [0],.mk (some 7) (.mv (.tmp 13)) none [1,0,1]]
def l48r6:List AOper :=
  [.mk (some 6) (.mv (.const (.bool true))) none []]
def l48:AFn :=
  (AFn.mk 22 3 (.seq (.reg l48r0) (.seq (.seq (.reg l48r1) (.block 0 (.loop (.seq (.seq (.reg l48r2) (.cond (.tmp 11) .skip (.exit 0))) (.seq (.block 1 (.seq (.reg l48r3) (.cond (.tmp 21) (.seq (.reg l48r4) .ret) .skip))) (.reg l48r5)))))) (.seq (.reg l48r6) .ret))) [.tmp 6])
theorem l48_eq:lowFn Tryz.prog 48=some l48:=by kernel_rfl
def l49r0:List AOper :=
  [.mk (some 6) (.mv (.const (.bool false))) none []]
def l49r1:List AOper :=
  [.mk (some 7) (.mv (.tmp 1)) none [],.mk (some 8) (.mv (.tmp 0)) none [],.mk (some 9) (.bin .leq (.tmp 7) (.tmp 8)) none [0,1],.mk (some 10) (.mv (.tmp 9)) none [2],.mk (some 11) (.mv (.tmp 0)) (some (10,true)) [3],.mk (some 12) (.mv (.tmp 2)) (some (10,true)) [3],.mk (some 13) (.bin .leq (.tmp 11) (.tmp 12)) (some (10,true)) [4,5,3],.mk (some 14) (.pick (.tmp 10) (.tmp 13) (.const (.bool false))) none [3,6],.mk (some 6) (.mv (.tmp 14)) none [7,3,0,1,2,3,4,5,6,7]]
def l49:AFn :=
  (AFn.mk 15 3 (.seq (.reg l49r0) (.seq (.reg l49r1) .ret)) [.tmp 6])
theorem l49_eq:lowFn Tryz.prog 49=some l49:=by kernel_rfl
def l50r0:List AOper :=
  [.mk (some 2) (.mv (.const (.int .i64 0))) none []]
def l50r1:List AOper :=
  [.mk (some 3) (.mv (.const (.int .i64 1))) none []]
def l50r2:List AOper :=
  [.mk (some 4) (.mv (.const (.int .i64 0))) none []]
def l50r3:List AOper :=
  [.mk (some 5) (.mv (.tmp 4)) none [],.mk (some 6) (.mv (.tmp 0)) none [],.mk (some 7) (.len (.tmp 6)) none [1],.mk (some 8) (.bin .lss (.tmp 5) (.tmp 7)) none [0,2]]
def l50r4:List AOper :=
  [.mk (some 11) (.mv (.tmp 3)) none [],.mk (some 12) (.mv (.tmp 0)) none [],.mk (some 13) (.mv (.tmp 4)) none [],.mk (some 14) (.idxA 1 (.tmp 12) (.tmp 13)) none [1,2],.mk (some 15) (.load false 1 (.tmp 14)) none [3],.mk (some 16) (.bin .mul (.tmp 11) (.tmp 15)) none [0,4],.mk (some 3) (.mv (.tmp 16)) none [5,0,1,2,3,4,5]]
def l50r5:List AOper :=
  [.mk (some 9) (.mv (.tmp 4)) none [],.mk (some 10) (.bin .add (.tmp 9) (.const (.int .i64 1))) none [0],.mk (some 4) (.mv (.tmp 10)) none [1,0,1]]
def l50r6:List AOper :=
  [.mk (some 17) (.mv (.tmp 3)) none [],.mk (some 2) (.mv (.tmp 17)) none [0,0]]
def l50:AFn :=
  (AFn.mk 18 1 (.seq (.reg l50r0) (.seq (.reg l50r1) (.seq (.seq (.reg l50r2) (.block 0 (.loop (.seq (.seq (.reg l50r3) (.cond (.tmp 8) .skip (.exit 0))) (.seq (.block 1 (.reg l50r4)) (.reg l50r5)))))) (.seq (.reg l50r6) .ret)))) [.tmp 2])
theorem l50_eq:lowFn Tryz.prog 50=some l50:=by kernel_rfl
def l51r0:List AOper :=
  [.mk (some 1) (.box (.tmp 0)) none [],.mk (some 2) (.mv (.const (.slice none 0 0))) none []]
def l51r1:List AOper :=
  [.mk (some 5) (.bslice 1 [.int .i64 0] [] 0) none [],.mk (some 3) (.mv (.tmp 5)) none [0,0]]
def l51r2:List AOper :=
  [.mk (some 4) (.mv (.const (.int .i64 0))) none []]
def l51r3:List AOper :=
  [.mk (some 6) (.mv (.tmp 4)) none [],.mk (some 7) (.fld 1 (.tmp 1)) none [],.mk (some 8) (.load false 1 (.tmp 7)) none [1],.mk (some 9) (.call 50 [.tmp 8]) none [2],.mk (some 10) (.bin .lss (.tmp 6) (.tmp 9)) none [0,3]]
def l51r4a:List AOper :=
  [.mk (some 13) (.mv (.tmp 3)) none [],.mk (some 14) (.load true 3 (.tmp 1)) none [],.mk (some 15) (.fld 1 (.tmp 1)) none [],.mk (some 16) (.load false 1 (.tmp 15)) none [2],.mk (some 17) (.mv (.tmp 4)) none [],.mk (some 18) (.call 70 [.tmp 16,.tmp 17]) none [3,4],.mk (some 19) (.call 69 [.tmp 14,.tmp 18]) none [1,5,5],.mk (some 20) (.bslice 1 [.int .i64 0] [(0,.tmp 19)] 1) none [6]]
def l51r4b:List AOper :=
  [.mk (some 21) (.append 1 (.tmp 13) (.tmp 20)) none [0,7,6],.mk (some 3) (.mv (.tmp 21)) none [8,8,0,1,2,3,4,5,6,7,8]]
def l51r4:List AOper:=l51r4a ++ l51r4b
def l51r5:List AOper :=
  [.mk (some 11) (.mv (.tmp 4)) none [],.mk (some 12) (.bin .add (.tmp 11) (.const (.int .i64 1))) none [0],.mk (some 4) (.mv (.tmp 12)) none [1,0,1]]
def l51r6:List AOper :=
  [.mk (some 22) (.mv (.tmp 3)) none [],.mk (some 2) (.mv (.tmp 22)) none [0,0]]
def l51:AFn :=
  (AFn.mk 23 1 (.seq (.reg l51r0) (.seq (.reg l51r1) (.seq (.seq (.reg l51r2) (.block 0 (.loop (.seq (.seq (.reg l51r3) (.cond (.tmp 10) .skip (.exit 0))) (.seq (.block 1 (.draw l51r4)) (.reg l51r5)))))) (.seq (.reg l51r6) .ret)))) [.tmp 2])
theorem l51_eq:lowFn Tryz.prog 51=some l51:=by kernel_rfl
def l52r0:List AOper :=
  [.mk (some 1) (.box (.tmp 0)) none [],.mk (some 2) (.alloc [.int .i64 0,.slice none 0 0,.slice none 0 0]) none []]
def l52r1a:List AOper :=
  [.mk (some 3) (.fld 0 (.tmp 1)) none [],.mk (some 4) (.load false 1 (.tmp 3)) none [0],.mk (some 5) (.fld 1 (.tmp 1)) none [],.mk (some 6) (.load false 1 (.tmp 5)) none [2],.mk (some 7) (.call 15 [.tmp 6]) none [3],.mk (some 8) (.fld 2 (.tmp 1)) none [],.mk (some 9) (.load false 1 (.tmp 8)) none [5],.mk (some 10) (.call 15 [.tmp 9]) none [6,4]]
def l52r1b:List AOper :=
  [.mk (some 11) (.build [.int .i64 0,.slice none 0 0,.slice none 0 0] [(0,1,.tmp 4),(1,1,.tmp 7),(2,1,.tmp 10)]) none [1,4,7],.mk none (.store 3 (.tmp 2) (.tmp 11)) none [8,7,0,1,2,3,4,5,6,7,8]]
def l52r1:List AOper:=l52r1a ++ l52r1b
def l52:AFn :=
  (AFn.mk 12 1 (.seq (.reg l52r0) (.seq (.draw l52r1) .ret)) [.cell 2 true 3])
theorem l52_eq:lowFn Tryz.prog 52=some l52:=by kernel_rfl
def l53r0:List AOper :=
  [.mk (some 2) (.box (.tmp 0)) none [],.mk (some 4) (.mv (.const (.int .i64 0))) none []]
def l53r1:List AOper :=
  [.mk (some 5) (.mv (.const (.int .i64 0))) none []]
def l53r2:List AOper :=
  [.mk (some 8) (.mv (.tmp 1)) none [],.mk (some 9) (.len (.tmp 8)) none [0],.mk (some 10) (.mv (.const (.int .i64 0))) none []]
def l53r3:List AOper :=
  [.mk (some 11) (.bin .lss (.tmp 10) (.tmp 9)) none []]
def l53r4:List AOper :=
  [.mk (some 12) (.mv (.tmp 10)) none [],.mk (some 13) (.idxA 1 (.tmp 8) (.tmp 10)) none [],.mk (some 14) (.load false 1 (.tmp 13)) none [1],.mk (some 6) (.mv (.tmp 12)) none [0,0,1,2],.mk (some 7) (.mv (.tmp 14)) none [2,3,0,1,2,3]]
def l53r5:List AOper :=
  [.mk (some 15) (.mv (.tmp 5)) none [],.mk (some 16) (.mv (.tmp 6)) none [],.mk (some 17) (.idxP 1 4 (.tmp 2) (.tmp 16)) none [1],.mk (some 18) (.load false 1 (.tmp 17)) none [2],.mk (some 19) (.mv (.tmp 7)) none [],.mk (some 20) (.bin .mul (.tmp 18) (.tmp 19)) none [3,4],.mk (some 21) (.bin .add (.tmp 15) (.tmp 20)) none [0,5],.mk (some 5) (.mv (.tmp 21)) none [6,0,1,2,3,4,5,6]]
def l53r6:List AOper :=
  [.mk (some 22) (.bin .add (.tmp 10) (.const (.int .i64 1))) none [],.mk (some 10) (.mv (.tmp 22)) none [0]]
def l53r7:List AOper :=
  [.mk (some 23) (.mv (.tmp 5)) none [],.mk (some 4) (.mv (.tmp 23)) none [0,0]]
def l53:AFn :=
  (AFn.mk 24 2 (.seq (.reg l53r0) (.seq (.reg l53r1) (.seq (.seq (.reg l53r2) (.block 0 (.loop (.seq (.reg l53r3) (.seq (.cond (.tmp 11) .skip (.exit 0)) (.seq (.block 1 (.seq (.reg l53r4) (.reg l53r5))) (.reg l53r6))))))) (.seq (.reg l53r7) .ret)))) [.tmp 4])
theorem l53_eq:lowFn Tryz.prog 53=some l53:=by kernel_rfl
def l54r0:List AOper :=
  [.mk (some 6) (.mv (.tmp 1)) none [],.mk (some 7) (.len (.tmp 6)) none [0],.mk (some 8) (.mv (.const (.int .i64 0))) none []]
def l54r1:List AOper :=
  [.mk (some 9) (.bin .lss (.tmp 8) (.tmp 7)) none []]
def l54r2:List AOper :=
  [.mk (some 10) (.idxA 1 (.tmp 6) (.tmp 8)) none [],.mk (some 11) (.load false 1 (.tmp 10)) none [0],.mk (some 5) (.mv (.tmp 11)) none [1,0,1]]
def l54r3:List AOper :=
  [.mk (some 12) (.mv (.tmp 0)) none [],.mk (some 13) (.mv (.tmp 5)) none [],.mk (some 14) (.raw (Op.lookup 82 (.tmp 12) (.tmp 13) false)) none [0,1],.mk (some 15) (.bin .add (.tmp 14) (.const (.int .i64 1))) none [2],.mk none (.raw (Op.mapUpdate 82 (.tmp 12) (.tmp 13) (.tmp 15))) none [0,1,3,0,1,2,3]]
def l54r4:List AOper :=
  [.mk (some 16) (.bin .add (.tmp 8) (.const (.int .i64 1))) none [],.mk (some 8) (.mv (.tmp 16)) none [0]]
def l54:AFn :=
  (AFn.mk 17 2 (.seq (.reg l54r0) (.block 0 (.loop (.seq (.reg l54r1) (.seq (.cond (.tmp 9) .skip (.exit 0)) (.seq (.block 1 (.seq (.reg l54r2) (.reg l54r3))) (.reg l54r4))))))) [])
theorem l54_eq:lowFn Tryz.prog 54=some l54:=by kernel_rfl
def l55r0:List AOper :=
  [.mk (some 4) (.mv (.const (.slice none 0 0))) none []]
def l55r1:List AOper :=
  [.mk (some 5) (.mv (.const (.slice none 0 0))) none []]
def l55r2:List AOper :=
  [.mk (some 8) (.mv (.tmp 0)) none [],.mk (some 9) (.raw (Op.range 82 (.tmp 8))) none [0]]
def l55r3:List AOper :=
  [.mk (some 10) (.raw (Op.next (.tmp 9) false)) none [],.mk (some 11) (.extract (.tmp 10) 0) none [0]]
def l55r4:List AOper :=
  [.mk (some 12) (.raw (Op.entry (.tmp 9))) none [],.mk (some 13) (.extract (.tmp 12) 0) none [0],.mk (some 14) (.extract (.tmp 12) 1) none [0],.mk (some 6) (.mv (.tmp 13)) none [1,0,1],.mk (some 7) (.mv (.tmp 14)) none [2,3,0,1,2,3]]
def l55r5:List AOper :=
  [.mk (some 15) (.mv (.tmp 7)) none [],.mk (some 16) (.mv (.tmp 1)) none [],.mk (some 17) (.bin .geq (.tmp 15) (.tmp 16)) none [0,1]]
def l55r6:List AOper :=
  [.mk (some 18) (.mv (.tmp 5)) none [],.mk (some 19) (.mv (.tmp 6)) none [],.mk (some 20) (.bslice 1 [.int .i64 0] [(0,.tmp 19)] 1) none [1],.mk (some 21) (.append 1 (.tmp 18) (.tmp 20)) none [0,2],.mk (some 5) (.mv (.tmp 21)) none [3,3,0,1,2,3]]
def l55r7:List AOper :=
  [.mk (some 22) (.mv (.tmp 5)) none [],.mk (some 23) (.call 71 [.tmp 22]) none [0]]
def l55r8:List AOper :=
  [.mk (some 24) (.mv (.tmp 5)) none [],.mk (some 4) (.mv (.tmp 24)) none [0,0]]
def l55:AFn :=
  (AFn.mk 25 2 (.seq (.reg l55r0) (.seq (.reg l55r1) (.seq (.seq (.reg l55r2) (.block 0 (.loop (.seq (.reg l55r3) (.seq (.cond (.tmp 11) .skip (.exit 0)) (.block 1 (.seq (.reg l55r4) (.seq (.reg l55r5) (.cond (.tmp 17) (.reg l55r6) .skip))))))))) (.seq (.reg l55r7) (.seq (.reg l55r8) .ret))))) [.tmp 4])
theorem l55_eq:lowFn Tryz.prog 55=some l55:=by kernel_rfl
def l56r0:List AOper :=
  [.mk (some 2) (.mv (.const (.map none))) none []]
def l56r1:List AOper :=
  [.mk (some 6) (.raw (Op.makeMap 82 none)) none [],.mk (some 3) (.mv (.tmp 6)) none [0,0]]
def l56r2:List AOper :=
  [.mk (some 7) (.mv (.tmp 0)) none [],.mk (some 8) (.len (.tmp 7)) none [0],.mk (some 9) (.mv (.const (.int .i64 0))) none []]
def l56r3:List AOper :=
  [.mk (some 10) (.bin .lss (.tmp 9) (.tmp 8)) none []]
def l56r4:List AOper :=
  [.mk (some 11) (.idxA 3 (.tmp 7) (.tmp 9)) none [],.mk (some 12) (.load true 3 (.tmp 11)) none [0],.mk (some 5) (.alloc [.int .i64 0,.slice none 0 0,.slice none 0 0]) none [],.mk none (.store 3 (.tmp 5) (.tmp 12)) none [2,1,0,1,2]]
def l56r5:List AOper :=
  [.mk (some 13) (.mv (.tmp 3)) none [],.mk (some 14) (.load true 3 (.tmp 5)) none [],.mk (some 15) (.call 72 [.tmp 14]) none [1],.mk (some 16) (.call 54 [.tmp 13,.tmp 15]) none [0,2,2]]
def l56r6:List AOper :=
  [.mk (some 17) (.bin .add (.tmp 9) (.const (.int .i64 1))) none [],.mk (some 9) (.mv (.tmp 17)) none [0]]
def l56r7:List AOper :=
  [.mk (some 18) (.mv (.tmp 3)) none [],.mk (some 2) (.mv (.tmp 18)) none [0,0]]
def l56:AFn :=
  (AFn.mk 19 1 (.seq (.reg l56r0) (.seq (.reg l56r1) (.seq (.seq (.reg l56r2) (.block 0 (.loop (.seq (.reg l56r3) (.seq (.cond (.tmp 10) .skip (.exit 0)) (.seq (.block 1 (.seq (.reg l56r4) (.reg l56r5))) (.reg l56r6))))))) (.seq (.reg l56r7) .ret)))) [.tmp 2])
theorem l56_eq:lowFn Tryz.prog 56=some l56:=by kernel_rfl
def l57r0:List AOper :=
  [.mk (some 2) (.alloc [.int .i64 0,.slice none 0 0,.slice none 0 0]) none []]
def l57r1:List AOper :=
  [.mk (some 3) (.mv (.tmp 0)) none [],.mk (some 4) (.call 28 [.tmp 3]) none [0],.mk (some 5) (.un .not (.tmp 4)) none [1]]
def l57r2:List AOper :=
  [.mk (some 6) (.build [.int .i64 0,.slice none 0 0,.slice none 0 0] []) none [],.mk none (.store 3 (.tmp 2) (.tmp 6)) none [0,0]]
def l57r3:List AOper :=
  [.mk (some 7) (.mv (.tmp 0)) none [],.mk (some 8) (.call 50 [.tmp 7]) none [0],.mk (some 9) (.bin .eql (.tmp 8) (.const (.int .i64 0))) none [1]]
def l57r4a:List AOper :=
  [.mk (some 10) (.mv (.tmp 0)) none [],.mk (some 11) (.call 15 [.tmp 10]) none [0],.mk (some 12) (.mv (.tmp 0)) none [],.mk (some 13) (.len (.tmp 12)) none [2],.mk (some 14) (.mkslice 1 [.int .i64 0] (.tmp 13) (.tmp 13)) none [3,3]]
def l57r4b:List AOper :=
  [.mk (some 15) (.build [.int .i64 0,.slice none 0 0,.slice none 0 0] [(1,1,.tmp 11),(2,1,.tmp 14)]) none [1,4],.mk none (.store 3 (.tmp 2) (.tmp 15)) none [5,1,0,1,2,3,4,5]]
def l57r4:List AOper:=l57r4a ++ l57r4b
def l57r5:List AOper :=
  [.mk (some 16) (.mv (.tmp 0)) none [],.mk (some 17) (.call 15 [.tmp 16]) none [0],.mk (some 18) (.mv (.tmp 0)) none [],.mk (some 19) (.call 73 [.tmp 18]) none [2,1],.mk (some 20) (.build [.int .i64 0,.slice none 0 0,.slice none 0 0] [(1,1,.tmp 17),(2,1,.tmp 19)]) none [1,3],.mk none (.store 3 (.tmp 2) (.tmp 20)) none [4,3,0,1,2,3,4]]
def l57:AFn :=
  (AFn.mk 21 1 (.seq (.reg l57r0) (.seq (.seq (.reg l57r1) (.cond (.tmp 5) (.seq (.reg l57r2) .ret) .skip)) (.seq (.seq (.reg l57r3) (.cond (.tmp 9) (.seq (.draw l57r4) .ret) .skip)) (.seq (.reg l57r5) .ret)))) [.cell 2 true 3])
theorem l57_eq:lowFn Tryz.prog 57=some l57:=by kernel_rfl
def l58r0:List AOper :=
  [.mk (some 3) (.box (.tmp 0)) none [],.mk (some 5) (.box (.tmp 2)) none [],.mk (some 6) (.alloc [.int .i64 0,.slice none 0 0,.slice none 0 0]) none [],.mk (some 7) (.mv (.const (.bool false))) none []]
def l58r1:List AOper :=
  [.mk (some 8) (.load true 3 (.tmp 3)) none [],.mk (some 9) (.call 27 [.tmp 8]) none [0],.mk (some 10) (.un .not (.tmp 9)) none [1],.mk (some 11) (.mv (.tmp 10)) none [2,1],.mk (some 12) (.load true 3 (.tmp 3)) (some (11,false)) [3],.mk (some 13) (.mv (.tmp 1)) (some (11,false)) [3],.mk (some 14) (.call 74 [.tmp 12,.tmp 13]) (some (11,false)) [4,5,3,3],.mk (some 15) (.un .not (.tmp 14)) (some (11,false)) [6,3],.mk (some 16) (.pick (.tmp 11) (.const (.bool true)) (.tmp 15)) none [3,7],.mk (some 17) (.mv (.tmp 16)) none [8,6],.mk (some 18) (.load true 5 (.tmp 5)) (some (17,false)) [9],.mk (some 19) (.call 75 [.tmp 18]) (some (17,false)) [10,9,9],.mk (some 20) (.un .not (.tmp 19)) (some (17,false)) [11,9],.mk (some 21) (.pick (.tmp 17) (.const (.bool true)) (.tmp 20)) none [9,12]]
def l58r2:List AOper :=
  [.mk (some 22) (.build [.int .i64 0,.slice none 0 0,.slice none 0 0] []) none [],.mk none (.store 3 (.tmp 6) (.tmp 22)) none [0,0],.mk (some 7) (.mv (.const (.bool false))) none [1,0,1]]
def l58r3:List AOper :=
  [.mk (some 23) (.load true 3 (.tmp 3)) none [],.mk (some 24) (.mv (.tmp 1)) none [],.mk (some 25) (.load true 5 (.tmp 5)) none [],.mk (some 26) (.call 76 [.tmp 23,.tmp 24,.tmp 25]) none [0,1,2],.mk (some 27) (.call 30 [.tmp 26]) none [3,3],.mk (some 28) (.extract (.tmp 27) 0) none [4],.mk (some 29) (.extract (.tmp 27) 1) none [4],.mk none (.store 3 (.tmp 6) (.tmp 28)) none [5,4,0,1,2,3,4,5,6],.mk (some 7) (.mv (.tmp 29)) none [6,7,0,1,2,3,4,5,6,7]]
def l58:AFn :=
  (AFn.mk 30 3 (.seq (.reg l58r0) (.seq (.seq (.reg l58r1) (.cond (.tmp 21) (.seq (.reg l58r2) .ret) .skip)) (.seq (.reg l58r3) .ret))) [.cell 6 true 3,.tmp 7])
theorem l58_eq:lowFn Tryz.prog 58=some l58:=by kernel_rfl
def l59r0:List AOper :=
  [.mk (some 2) (.alloc [.int .i64 0,.int .i64 0,.int .i64 0,.bool false,.bool false]) none []]
def l59r1:List AOper :=
  [.mk (some 4) (.mv (.tmp 0)) none [],.mk (some 5) (.bslice 1 [.int .i64 0] [(0,.const (.int .i64 1)),(1,.const (.int .i64 2)),(2,.const (.int .i64 (-1))),(3,.const (.int .i64 3)),(4,.const (.int .i64 (-2))),(5,.const (.int .i64 1)),(6,.const (.int .i64 5))] 7) none [],.mk (some 6) (.call 17 [.tmp 4,.tmp 5]) none [0,1],.mk (some 7) (.build [.int .i64 0,.int .i64 0,.int .i64 0,.bool false,.bool false] [(2,1,.tmp 6)]) none [2],.mk (some 3) (.alloc [.int .i64 0,.int .i64 0,.int .i64 0,.bool false,.bool false]) none [],.mk none (.store 5 (.tmp 3) (.tmp 7)) none [4,3,2,0,1,2,3,4]]
def l59r2:List AOper :=
  [.mk (some 8) (.mv (.tmp 0)) none [],.mk (some 9) (.call 16 [.tmp 8,.const (.int .i64 2)]) none [0],.mk (some 10) (.bin .eql (.tmp 9) (.const (.int .i64 0))) none [1]]
def l59r3:List AOper :=
  [.mk (some 11) (.fld 3 (.tmp 3)) none [],.mk none (.store 1 (.tmp 11) (.const (.bool true))) none [0]]
def l59r4:List AOper :=
  [.mk (some 12) (.mv (.tmp 0)) none [],.mk (some 13) (.mv (.tmp 0)) none [],.mk (some 14) (.call 16 [.tmp 13,.const (.int .i64 12)]) none [1],.mk (some 15) (.bslice 1 [.int .i64 0] [(0,.const (.int .i64 1)),(1,.const (.int .i64 2)),(2,.const (.int .i64 0)),(3,.const (.int .i64 (-1))),(4,.const (.int .i64 (-3))),(5,.tmp 14),(6,.const (.int .i64 30)),(7,.const (.int .i64 (-30)))] 8) none [2],.mk (some 16) (.call 17 [.tmp 12,.tmp 15]) none [0,3,2],.mk (some 17) (.fld 0 (.tmp 3)) none [0,1,2,3,4],.mk none (.store 1 (.tmp 17) (.tmp 16)) none [5,4,4,0,1,2,3,4]]
def l59r5:List AOper :=
  [.mk (some 18) (.mv (.tmp 0)) none [],.mk (some 19) (.call 16 [.tmp 18,.const (.int .i64 2)]) none [0],.mk (some 20) (.bin .eql (.tmp 19) (.const (.int .i64 0))) none [1]]
def l59r6:List AOper :=
  [.mk (some 21) (.fld 4 (.tmp 3)) none [],.mk none (.store 1 (.tmp 21) (.const (.bool true))) none [0]]
def l59r7:List AOper :=
  [.mk (some 22) (.mv (.tmp 0)) none [],.mk (some 23) (.mv (.tmp 0)) none [],.mk (some 24) (.call 16 [.tmp 23,.const (.int .i64 12)]) none [1],.mk (some 25) (.bslice 1 [.int .i64 0] [(0,.const (.int .i64 4)),(1,.const (.int .i64 3)),(2,.const (.int .i64 (-1))),(3,.const (.int .i64 (-2))),(4,.const (.int .i64 0)),(5,.tmp 24),(6,.const (.int .i64 30)),(7,.const (.int .i64 (-30)))] 8) none [2],.mk (some 26) (.call 17 [.tmp 22,.tmp 25]) none [0,3,2],.mk (some 27) (.fld 1 (.tmp 3)) none [0,1,2,3,4],.mk none (.store 1 (.tmp 27) (.tmp 26)) none [5,4,4,0,1,2,3,4]]
def l59r8:List AOper :=
  [.mk (some 28) (.mv (.tmp 0)) none [],.mk (some 29) (.call 16 [.tmp 28,.const (.int .i64 24)]) none [0]]
def l59r9:List AOper :=
  [.mk (some 31) (.bin .eql (.tmp 29) (.const (.int .i64 0))) none [],.mk (some 30) (.mv (.tmp 31)) none [0]]
def l59r10:List AOper :=
  [.mk (some 32) (.mv (.tmp 0)) none [],.mk (some 33) (.bslice 1 [.int .i64 0] [(0,.const (.int .i64 0)),(1,.const (.int .i64 201))] 2) none [],.mk (some 34) (.call 17 [.tmp 32,.tmp 33]) none [0,1],.mk (some 35) (.fld 2 (.tmp 3)) none [0,1,2],.mk none (.store 1 (.tmp 35) (.tmp 34)) none [3,2,2,0,1,2]]
def l59r11:List AOper :=
  [.mk (some 37) (.bin .eql (.tmp 29) (.const (.int .i64 1))) none [],.mk (some 36) (.mv (.tmp 37)) none [0]]
def l59r12:List AOper :=
  [.mk (some 38) (.fld 0 (.tmp 3)) none [],.mk none (.store 1 (.tmp 38) (.const (.int .i64 101))) none [0]]
def l59r13:List AOper :=
  [.mk (some 40) (.bin .eql (.tmp 29) (.const (.int .i64 2))) none [],.mk (some 39) (.mv (.tmp 40)) none [0]]
def l59r14:List AOper :=
  [.mk (some 41) (.mv (.tmp 0)) none [],.mk (some 42) (.bslice 1 [.int .i64 0] [(0,.const (.int .i64 1)),(1,.const (.int .i64 (-101)))] 2) none [],.mk (some 43) (.call 17 [.tmp 41,.tmp 42]) none [0,1],.mk (some 44) (.fld 1 (.tmp 3)) none [0,1,2],.mk none (.store 1 (.tmp 44) (.tmp 43)) none [3,2,2,0,1,2]]
def l59r15:List AOper :=
  [.mk (some 45) (.load true 5 (.tmp 3)) none [],.mk none (.store 5 (.tmp 2) (.tmp 45)) none [0,0]]
def l59:AFn :=
  (AFn.mk 46 1 (.seq (.reg l59r0) (.seq (.reg l59r1) (.seq (.seq (.reg l59r2) (.cond (.tmp 10) (.seq (.reg l59r3) (.reg l59r4)) .skip)) (.seq (.seq (.reg l59r5) (.cond (.tmp 20) (.seq (.reg l59r6) (.reg l59r7)) .skip)) (.seq (.seq (.reg l59r8) (.block 0 (.seq (.reg l59r9) (.cond (.tmp 30) (.reg l59r10) (.seq (.reg l59r11) (.cond (.tmp 36) (.reg l59r12) (.seq (.reg l59r13) (.cond (.tmp 39) (.reg l59r14) .skip)))))))) (.seq (.reg l59r15) .ret)))))) [.cell 2 true 5])
theorem l59_eq:lowFn Tryz.prog 59=some l59:=by kernel_rfl
def l60r0:List AOper :=
  [.mk (some 2) (.box (.tmp 0)) none [],.mk (some 4) (.alloc [.int .i64 0,.slice none 0 0,.slice none 0 0]) none [],.mk (some 5) (.mv (.const (.bool false))) none []]
def l60r1:List AOper :=
  [.mk (some 6) (.load true 3 (.tmp 2)) none [],.mk (some 7) (.mv (.tmp 1)) none [],.mk (some 8) (.build [.int .i64 0,.int .i64 0,.int .i64 0,.bool false,.bool false] [(2,1,.const (.int .i64 (-1)))]) none [],.mk (some 9) (.call 58 [.tmp 6,.tmp 7,.tmp 8]) none [0,1,2],.mk (some 10) (.extract (.tmp 9) 0) none [3],.mk (some 11) (.extract (.tmp 9) 1) none [3],.mk none (.store 3 (.tmp 4) (.tmp 10)) none [4,3,0,1,2,3,4,5],.mk (some 5) (.mv (.tmp 11)) none [5,6,0,1,2,3,4,5,6]]
def l60:AFn :=
  (AFn.mk 12 2 (.seq (.reg l60r0) (.seq (.reg l60r1) .ret)) [.cell 4 true 3,.tmp 5])
theorem l60_eq:lowFn Tryz.prog 60=some l60:=by kernel_rfl
def l61r0:List AOper :=
  [.mk (some 2) (.box (.tmp 0)) none [],.mk (some 4) (.alloc [.int .i64 0,.slice none 0 0,.slice none 0 0]) none [],.mk (some 5) (.mv (.const (.bool false))) none []]
def l61r1:List AOper :=
  [.mk (some 6) (.load true 3 (.tmp 2)) none [],.mk (some 7) (.call 27 [.tmp 6]) none [0],.mk (some 8) (.un .not (.tmp 7)) none [1],.mk (some 9) (.mv (.tmp 8)) none [2,1],.mk (some 10) (.mv (.tmp 1)) (some (9,false)) [3],.mk (some 11) (.fld 1 (.tmp 2)) (some (9,false)) [3],.mk (some 12) (.load false 1 (.tmp 11)) (some (9,false)) [5,3],.mk (some 13) (.len (.tmp 12)) (some (9,false)) [6,3],.mk (some 14) (.call 77 [.tmp 10,.tmp 13]) (some (9,false)) [4,7,3,3],.mk (some 15) (.un .not (.tmp 14)) (some (9,false)) [8,3],.mk (some 16) (.pick (.tmp 9) (.const (.bool true)) (.tmp 15)) none [3,9]]
def l61r2:List AOper :=
  [.mk (some 17) (.build [.int .i64 0,.slice none 0 0,.slice none 0 0] []) none [],.mk none (.store 3 (.tmp 4) (.tmp 17)) none [0,0],.mk (some 5) (.mv (.const (.bool false))) none [1,0,1]]
def l61r3:List AOper :=
  [.mk (some 18) (.load true 3 (.tmp 2)) none [],.mk (some 19) (.mv (.tmp 1)) none [],.mk (some 20) (.call 78 [.tmp 18,.tmp 19]) none [0,1],.mk (some 21) (.call 30 [.tmp 20]) none [2,2],.mk (some 22) (.extract (.tmp 21) 0) none [3],.mk (some 23) (.extract (.tmp 21) 1) none [3],.mk none (.store 3 (.tmp 4) (.tmp 22)) none [4,3,0,1,2,3,4,5],.mk (some 5) (.mv (.tmp 23)) none [5,6,0,1,2,3,4,5,6]]
def l61:AFn :=
  (AFn.mk 24 2 (.seq (.reg l61r0) (.seq (.seq (.reg l61r1) (.cond (.tmp 16) (.seq (.reg l61r2) .ret) .skip)) (.seq (.reg l61r3) .ret))) [.cell 4 true 3,.tmp 5])
theorem l61_eq:lowFn Tryz.prog 61=some l61:=by kernel_rfl
def l62r0:List AOper :=
  [.mk (some 2) (.mv (.const (.slice none 0 0))) none []]
def l62r1:List AOper :=
  [.mk (some 5) (.bslice 1 [.int .i64 0] [] 0) none [],.mk (some 3) (.mv (.tmp 5)) none [0,0]]
def l62r2:List AOper :=
  [.mk (some 6) (.mv (.tmp 0)) none [],.mk (some 7) (.len (.tmp 6)) none [0],.mk (some 8) (.bin .sub (.tmp 7) (.const (.int .i64 1))) none [1],.mk (some 4) (.mv (.tmp 8)) none [2,0,1,2]]
def l62r3:List AOper :=
  [.mk (some 9) (.mv (.tmp 4)) none [],.mk (some 10) (.bin .geq (.tmp 9) (.const (.int .i64 0))) none [0]]
def l62r4:List AOper :=
  [.mk (some 13) (.mv (.tmp 3)) none [],.mk (some 14) (.mv (.tmp 0)) none [],.mk (some 15) (.mv (.tmp 4)) none [],.mk (some 16) (.idxA 1 (.tmp 14) (.tmp 15)) none [1,2],.mk (some 17) (.load false 1 (.tmp 16)) none [3],.mk (some 18) (.bslice 1 [.int .i64 0] [(0,.tmp 17)] 1) none [4],.mk (some 19) (.append 1 (.tmp 13) (.tmp 18)) none [0,5],.mk (some 3) (.mv (.tmp 19)) none [6,6,0,1,2,3,4,5,6]]
def l62r5:List AOper :=
  [.mk (some 11) (.mv (.tmp 4)) none [],.mk (some 12) (.bin .sub (.tmp 11) (.const (.int .i64 1))) none [0],.mk (some 4) (.mv (.tmp 12)) none [1,0,1]]
def l62r6:List AOper :=
  [.mk (some 20) (.mv (.tmp 3)) none [],.mk (some 2) (.mv (.tmp 20)) none [0,0]]
def l62:AFn :=
  (AFn.mk 21 1 (.seq (.reg l62r0) (.seq (.reg l62r1) (.seq (.seq (.reg l62r2) (.block 0 (.loop (.seq (.seq (.reg l62r3) (.cond (.tmp 10) .skip (.exit 0))) (.seq (.block 1 (.reg l62r4)) (.reg l62r5)))))) (.seq (.reg l62r6) .ret)))) [.tmp 2])
theorem l62_eq:lowFn Tryz.prog 62=some l62:=by kernel_rfl
def l63r0:List AOper :=
  [.mk (some 2) (.mv (.const (.slice none 0 0))) none []]
def l63r1:List AOper :=
  [.mk (some 5) (.bslice 1 [.int .i64 0] [] 0) none [],.mk (some 3) (.mv (.tmp 5)) none [0,0]]
def l63r2:List AOper :=
  [.mk (some 4) (.mv (.const (.int .i64 0))) none []]
def l63r3:List AOper :=
  [.mk (some 6) (.mv (.tmp 4)) none [],.mk (some 7) (.mv (.tmp 0)) none [],.mk (some 8) (.bin .lss (.tmp 6) (.tmp 7)) none [0,1]]
def l63r4:List AOper :=
  [.mk (some 11) (.mv (.tmp 3)) none [],.mk (some 12) (.mv (.tmp 4)) none [],.mk (some 13) (.bslice 1 [.int .i64 0] [(0,.tmp 12)] 1) none [1],.mk (some 14) (.append 1 (.tmp 11) (.tmp 13)) none [0,2],.mk (some 3) (.mv (.tmp 14)) none [3,3,0,1,2,3]]
def l63r5:List AOper :=
  [.mk (some 9) (.mv (.tmp 4)) none [],.mk (some 10) (.bin .add (.tmp 9) (.const (.int .i64 1))) none [0],.mk (some 4) (.mv (.tmp 10)) none [1,0,1]]
def l63r6:List AOper :=
  [.mk (some 15) (.mv (.tmp 3)) none [],.mk (some 2) (.mv (.tmp 15)) none [0,0]]
def l63:AFn :=
  (AFn.mk 16 1 (.seq (.reg l63r0) (.seq (.reg l63r1) (.seq (.seq (.reg l63r2) (.block 0 (.loop (.seq (.seq (.reg l63r3) (.cond (.tmp 8) .skip (.exit 0))) (.seq (.block 1 (.reg l63r4)) (.reg l63r5)))))) (.seq (.reg l63r6) .ret)))) [.tmp 2])
theorem l63_eq:lowFn Tryz.prog 63=some l63:=by kernel_rfl
def l64r0:List AOper :=
  [.mk (some 3) (.box (.tmp 0)) none [],.mk (some 6) (.alloc [.int .i64 0,.slice none 0 0,.slice none 0 0]) none [],.mk (some 7) (.mv (.const (.bool false))) none []]
def l64r1:List AOper :=
  [.mk (some 9) (.load true 3 (.tmp 3)) none [],.mk (some 10) (.call 27 [.tmp 9]) none [0],.mk (some 11) (.un .not (.tmp 10)) none [1],.mk (some 12) (.mv (.tmp 11)) none [2,1],.mk (some 13) (.load true 3 (.tmp 3)) (some (12,false)) [3],.mk (some 14) (.mv (.tmp 1)) (some (12,false)) [3],.mk (some 15) (.call 74 [.tmp 13,.tmp 14]) (some (12,false)) [4,5,3,3],.mk (some 16) (.un .not (.tmp 15)) (some (12,false)) [6,3],.mk (some 17) (.pick (.tmp 12) (.const (.bool true)) (.tmp 16)) none [3,7],.mk (some 18) (.mv (.tmp 17)) none [8,6],.mk (some 19) (.mv (.tmp 2)) (some (18,false)) [9],.mk (some 20) (.fld 1 (.tmp 3)) (some (18,false)) [9],.mk (some 21) (.load false 1 (.tmp 20)) (some (18,false)) [11,9],.mk (some 22) (.mv (.tmp 1)) (some (18,false)) [9],.mk (some 23) (.idxA 1 (.tmp 21) (.tmp 22)) (some (18,false)) [12,13,9],.mk (some 24) (.load false 1 (.tmp 23)) (some (18,false)) [14,9],.mk (some 25) (.call 49 [.tmp 19,.const (.int .i64 1),.tmp 24]) (some (18,false)) [10,15,9,9],.mk (some 26) (.un .not (.tmp 25)) (some (18,false)) [16,9],.mk (some 27) (.pick (.tmp 18) (.const (.bool true)) (.tmp 26)) none [9,17]]
def l64r2:List AOper :=
  [.mk (some 28) (.build [.int .i64 0,.slice none 0 0,.slice none 0 0] []) none [],.mk none (.store 3 (.tmp 6) (.tmp 28)) none [0,0],.mk (some 7) (.mv (.const (.bool false))) none [1,0,1]]
def l64r3:List AOper :=
  [.mk (some 29) (.load true 3 (.tmp 3)) none [],.mk (some 30) (.call 52 [.tmp 29]) none [0],.mk (some 8) (.alloc [.int .i64 0,.slice none 0 0,.slice none 0 0]) none [],.mk none (.store 3 (.tmp 8) (.tmp 30)) none [2,1,1,0,1,2]]
def l64r4a:List AOper :=
  [.mk (some 31) (.fld 1 (.tmp 8)) none [],.mk (some 32) (.load false 1 (.tmp 31)) none [0],.mk (some 33) (.mv (.tmp 1)) none [],.mk (some 34) (.fld 1 (.tmp 3)) none [],.mk (some 35) (.load false 1 (.tmp 34)) none [3],.mk (some 36) (.mv (.tmp 1)) none [],.mk (some 37) (.idxA 1 (.tmp 35) (.tmp 36)) none [4,5],.mk (some 38) (.load false 1 (.tmp 37)) none [6],.mk (some 39) (.mv (.tmp 2)) none [],.mk (some 40) (.bin .sub (.tmp 38) (.tmp 39)) none [7,8],.mk (some 41) (.bin .add (.tmp 40) (.const (.int .i64 1))) none [9]]
def l64r4b:List AOper :=
  [.mk (some 42) (.idxA 1 (.tmp 32) (.tmp 33)) none [1,2,0,1,2,3,4,5,6,7,8,9,10],.mk none (.store 1 (.tmp 42) (.tmp 41)) none [11,10,0,1,2,3,4,5,6,7,8,9,10]]
def l64r4:List AOper:=l64r4a ++ l64r4b
def l64r5:List AOper :=
  [.mk (some 43) (.fld 1 (.tmp 8)) none [],.mk (some 44) (.load false 1 (.tmp 43)) none [0],.mk (some 45) (.mv (.tmp 2)) none [],.mk (some 46) (.bslice 1 [.int .i64 0] [(0,.tmp 45)] 1) none [2],.mk (some 47) (.append 1 (.tmp 44) (.tmp 46)) none [1,3],.mk (some 48) (.fld 1 (.tmp 8)) none [0,1,2,3,4],.mk none (.store 1 (.tmp 48) (.tmp 47)) none [5,4,4,0,1,2,3,4]]
def l64r6a:List AOper :=
  [.mk (some 49) (.fld 2 (.tmp 8)) none [],.mk (some 50) (.load false 1 (.tmp 49)) none [0],.mk (some 51) (.fld 2 (.tmp 3)) none [],.mk (some 52) (.load false 1 (.tmp 51)) none [2],.mk (some 53) (.mv (.tmp 1)) none [],.mk (some 54) (.idxA 1 (.tmp 52) (.tmp 53)) none [3,4],.mk (some 55) (.load false 1 (.tmp 54)) none [5],.mk (some 56) (.bslice 1 [.int .i64 0] [(0,.tmp 55)] 1) none [6]]
def l64r6b:List AOper :=
  [.mk (some 57) (.append 1 (.tmp 50) (.tmp 56)) none [1,7],.mk (some 58) (.fld 2 (.tmp 8)) none [0,1,2,3,4,5,6,7,8],.mk none (.store 1 (.tmp 58) (.tmp 57)) none [9,8,8,0,1,2,3,4,5,6,7,8]]
def l64r6:List AOper:=l64r6a ++ l64r6b
def l64r7:List AOper :=
  [.mk (some 59) (.load true 3 (.tmp 8)) none [],.mk (some 60) (.call 30 [.tmp 59]) none [0],.mk (some 61) (.extract (.tmp 60) 0) none [1],.mk (some 62) (.extract (.tmp 60) 1) none [1],.mk none (.store 3 (.tmp 6) (.tmp 61)) none [2,1,0,1,2,3],.mk (some 7) (.mv (.tmp 62)) none [3,4,0,1,2,3,4]]
def l64:AFn :=
  (AFn.mk 63 3 (.seq (.reg l64r0) (.seq (.seq (.reg l64r1) (.cond (.tmp 27) (.seq (.reg l64r2) .ret) .skip)) (.seq (.reg l64r3) (.seq (.draw l64r4) (.seq (.reg l64r5) (.seq (.draw l64r6) (.seq (.reg l64r7) .ret))))))) [.cell 6 true 3,.tmp 7])
theorem l64_eq:lowFn Tryz.prog 64=some l64:=by kernel_rfl
def l65r0:List AOper :=
  [.mk (some 2) (.box (.tmp 0)) none [],.mk (some 4) (.alloc [.int .i64 0,.slice none 0 0,.slice none 0 0]) none [],.mk (some 5) (.mv (.const (.bool false))) none []]
def l65r1:List AOper :=
  [.mk (some 6) (.load true 3 (.tmp 2)) none [],.mk (some 7) (.call 27 [.tmp 6]) none [0],.mk (some 8) (.un .not (.tmp 7)) none [1],.mk (some 9) (.mv (.tmp 8)) none [2,1],.mk (some 10) (.mv (.tmp 1)) (some (9,false)) [3],.mk (some 11) (.fld 1 (.tmp 2)) (some (9,false)) [3],.mk (some 12) (.load false 1 (.tmp 11)) (some (9,false)) [5,3],.mk (some 13) (.len (.tmp 12)) (some (9,false)) [6,3],.mk (some 14) (.call 49 [.tmp 10,.const (.int .i64 0),.tmp 13]) (some (9,false)) [4,7,3,3],.mk (some 15) (.un .not (.tmp 14)) (some (9,false)) [8,3],.mk (some 16) (.pick (.tmp 9) (.const (.bool true)) (.tmp 15)) none [3,9],.mk (some 17) (.mv (.tmp 16)) none [10,8],.mk (some 18) (.fld 1 (.tmp 2)) (some (17,false)) [11],.mk (some 19) (.load false 1 (.tmp 18)) (some (17,false)) [12,11],.mk (some 20) (.len (.tmp 19)) (some (17,false)) [13,11],.mk (some 21) (.bin .eql (.tmp 20) (.const (.int .i64 4))) (some (17,false)) [14,11],.mk (some 22) (.pick (.tmp 17) (.const (.bool true)) (.tmp 21)) none [11,15]]
def l65r2:List AOper :=
  [.mk (some 23) (.build [.int .i64 0,.slice none 0 0,.slice none 0 0] []) none [],.mk none (.store 3 (.tmp 4) (.tmp 23)) none [0,0],.mk (some 5) (.mv (.const (.bool false))) none [1,0,1]]
def l65r3a:List AOper :=
  [.mk (some 24) (.fld 0 (.tmp 2)) none [],.mk (some 25) (.load false 1 (.tmp 24)) none [0],.mk (some 26) (.fld 1 (.tmp 2)) none [],.mk (some 27) (.load false 1 (.tmp 26)) none [2],.mk (some 28) (.mv (.tmp 1)) none [],.mk (some 29) (.call 18 [.tmp 27,.tmp 28,.const (.int .i64 1)]) none [3,4],.mk (some 30) (.fld 2 (.tmp 2)) none [],.mk (some 31) (.load false 1 (.tmp 30)) none [6],.mk (some 32) (.mv (.tmp 1)) none [],.mk (some 33) (.call 18 [.tmp 31,.tmp 32,.const (.int .i64 0)]) none [7,8,5],.mk (some 34) (.build [.int .i64 0,.slice none 0 0,.slice none 0 0] [(0,1,.tmp 25),(1,1,.tmp 29),(2,1,.tmp 33)]) none [1,5,9],.mk (some 35) (.call 30 [.tmp 34]) none [10,9],.mk (some 36) (.extract (.tmp 35) 0) none [11],.mk (some 37) (.extract (.tmp 35) 1) none [11]]
def l65r3b:List AOper :=
  [.mk none (.store 3 (.tmp 4) (.tmp 36)) none [12,11,0,1,2,3,4,5,6,7,8,9,10,11,12,13],.mk (some 5) (.mv (.tmp 37)) none [13,14,0,1,2,3,4,5,6,7,8,9,10,11,12,13,14]]
def l65r3:List AOper:=l65r3a ++ l65r3b
def l65:AFn :=
  (AFn.mk 38 2 (.seq (.reg l65r0) (.seq (.seq (.reg l65r1) (.cond (.tmp 22) (.seq (.reg l65r2) .ret) .skip)) (.seq (.draw l65r3) .ret))) [.cell 4 true 3,.tmp 5])
theorem l65_eq:lowFn Tryz.prog 65=some l65:=by kernel_rfl
def l66r0:List AOper :=
  [.mk (some 4) (.mv (.const (.bool false))) none []]
def l66r1:List AOper :=
  [.mk (some 5) (.mv (.tmp 1)) none [],.mk (some 6) (.un .neg (.tmp 5)) none [0],.mk (some 7) (.mv (.tmp 0)) none [],.mk (some 8) (.bin .leq (.tmp 6) (.tmp 7)) none [1,2],.mk (some 9) (.mv (.tmp 8)) none [3],.mk (some 10) (.mv (.tmp 0)) (some (9,true)) [4],.mk (some 11) (.mv (.tmp 1)) (some (9,true)) [4],.mk (some 12) (.bin .leq (.tmp 10) (.tmp 11)) (some (9,true)) [5,6,4],.mk (some 13) (.pick (.tmp 9) (.tmp 12) (.const (.bool false))) none [4,7],.mk (some 4) (.mv (.tmp 13)) none [8,4,0,1,2,3,4,5,6,7,8]]
def l66:AFn :=
  (AFn.mk 14 2 (.seq (.reg l66r0) (.seq (.reg l66r1) .ret)) [.tmp 4])
theorem l66_eq:lowFn Tryz.prog 66=some l66:=by kernel_rfl
def l68r0:List AOper :=
  [.mk (some 4) (.mv (.const (.int .u64 0))) none [],.mk (some 5) (.mv (.const (.int .u64 0))) none [0]]
def l68r1:List AOper :=
  [.mk (some 14) (.mv (.tmp 0)) none [],.mk (some 15) (.bin .and (.tmp 14) (.const (.int .u64 4294967295))) none [0],.mk (some 6) (.mv (.tmp 15)) none [1,0,1]]
def l68r2:List AOper :=
  [.mk (some 16) (.mv (.tmp 0)) none [],.mk (some 17) (.bin .shr (.tmp 16) (.const (.int .u64 32))) none [0],.mk (some 7) (.mv (.tmp 17)) none [1,0,1]]
def l68r3:List AOper :=
  [.mk (some 18) (.mv (.tmp 1)) none [],.mk (some 19) (.bin .and (.tmp 18) (.const (.int .u64 4294967295))) none [0],.mk (some 8) (.mv (.tmp 19)) none [1,0,1]]
def l68r4:List AOper :=
  [.mk (some 20) (.mv (.tmp 1)) none [],.mk (some 21) (.bin .shr (.tmp 20) (.const (.int .u64 32))) none [0],.mk (some 9) (.mv (.tmp 21)) none [1,0,1]]
def l68r5:List AOper :=
  [.mk (some 22) (.mv (.tmp 6)) none [],.mk (some 23) (.mv (.tmp 8)) none [],.mk (some 24) (.bin .mul (.tmp 22) (.tmp 23)) none [0,1],.mk (some 10) (.mv (.tmp 24)) none [2,0,1,2]]
def l68r6:List AOper :=
  [.mk (some 25) (.mv (.tmp 7)) none [],.mk (some 26) (.mv (.tmp 8)) none [],.mk (some 27) (.bin .mul (.tmp 25) (.tmp 26)) none [0,1],.mk (some 28) (.mv (.tmp 10)) none [],.mk (some 29) (.bin .shr (.tmp 28) (.const (.int .u64 32))) none [3],.mk (some 30) (.bin .add (.tmp 27) (.tmp 29)) none [2,4],.mk (some 11) (.mv (.tmp 30)) none [5,0,1,2,3,4,5]]
def l68r7:List AOper :=
  [.mk (some 31) (.mv (.tmp 11)) none [],.mk (some 32) (.bin .and (.tmp 31) (.const (.int .u64 4294967295))) none [0],.mk (some 12) (.mv (.tmp 32)) none [1,0,1]]
def l68r8:List AOper :=
  [.mk (some 33) (.mv (.tmp 11)) none [],.mk (some 34) (.bin .shr (.tmp 33) (.const (.int .u64 32))) none [0],.mk (some 13) (.mv (.tmp 34)) none [1,0,1]]
def l68r9:List AOper :=
  [.mk (some 35) (.mv (.tmp 12)) none [],.mk (some 36) (.mv (.tmp 6)) none [],.mk (some 37) (.mv (.tmp 9)) none [],.mk (some 38) (.bin .mul (.tmp 36) (.tmp 37)) none [1,2],.mk (some 39) (.bin .add (.tmp 35) (.tmp 38)) none [0,3],.mk (some 12) (.mv (.tmp 39)) none [4,0,1,2,3,4]]
def l68r10:List AOper :=
  [.mk (some 40) (.mv (.tmp 7)) none [],.mk (some 41) (.mv (.tmp 9)) none [],.mk (some 42) (.bin .mul (.tmp 40) (.tmp 41)) none [0,1],.mk (some 43) (.mv (.tmp 13)) none [],.mk (some 44) (.bin .add (.tmp 42) (.tmp 43)) none [2,3],.mk (some 45) (.mv (.tmp 12)) none [],.mk (some 46) (.bin .shr (.tmp 45) (.const (.int .u64 32))) none [5],.mk (some 47) (.bin .add (.tmp 44) (.tmp 46)) none [4,6],.mk (some 4) (.mv (.tmp 47)) none [7,0,1,2,3,4,5,6,7]]
def l68r11:List AOper :=
  [.mk (some 48) (.mv (.tmp 0)) none [],.mk (some 49) (.mv (.tmp 1)) none [],.mk (some 50) (.bin .mul (.tmp 48) (.tmp 49)) none [0,1],.mk (some 5) (.mv (.tmp 50)) none [2,0,1,2]]
def l68:AFn :=
  (AFn.mk 51 2 (.seq (.reg l68r0) (.seq (.reg l68r1) (.seq (.reg l68r2) (.seq (.reg l68r3) (.seq (.reg l68r4) (.seq (.reg l68r5) (.seq (.reg l68r6) (.seq (.reg l68r7) (.seq (.reg l68r8) (.seq (.reg l68r9) (.seq (.reg l68r10) (.seq (.reg l68r11) .ret)))))))))))) [.tmp 4,.tmp 5])
theorem l68_eq:lowFn Tryz.prog 68=some l68:=by kernel_rfl
def l69r0:List AOper :=
  [.mk (some 2) (.box (.tmp 0)) none [],.mk (some 4) (.mv (.const (.int .i64 0))) none []]
def l69r1:List AOper :=
  [.mk (some 7) (.fld 0 (.tmp 2)) none [],.mk (some 8) (.load false 1 (.tmp 7)) none [0],.mk (some 5) (.mv (.tmp 8)) none [1,0,1]]
def l69r2:List AOper :=
  [.mk (some 6) (.mv (.const (.int .i64 0))) none []]
def l69r3:List AOper :=
  [.mk (some 9) (.mv (.tmp 6)) none [],.mk (some 10) (.mv (.tmp 1)) none [],.mk (some 11) (.len (.tmp 10)) none [1],.mk (some 12) (.bin .lss (.tmp 9) (.tmp 11)) none [0,2]]
def l69r4a:List AOper :=
  [.mk (some 15) (.mv (.tmp 5)) none [],.mk (some 16) (.mv (.tmp 1)) none [],.mk (some 17) (.mv (.tmp 6)) none [],.mk (some 18) (.idxA 1 (.tmp 16) (.tmp 17)) none [1,2],.mk (some 19) (.load false 1 (.tmp 18)) none [3],.mk (some 20) (.fld 2 (.tmp 2)) none [],.mk (some 21) (.load false 1 (.tmp 20)) none [5],.mk (some 22) (.mv (.tmp 6)) none [],.mk (some 23) (.idxA 1 (.tmp 21) (.tmp 22)) none [6,7],.mk (some 24) (.load false 1 (.tmp 23)) none [8],.mk (some 25) (.bin .mul (.tmp 19) (.tmp 24)) none [4,9]]
def l69r4b:List AOper :=
  [.mk (some 26) (.bin .add (.tmp 15) (.tmp 25)) none [0,10],.mk (some 5) (.mv (.tmp 26)) none [11,0,1,2,3,4,5,6,7,8,9,10,11]]
def l69r4:List AOper:=l69r4a ++ l69r4b
def l69r5:List AOper :=
  [.mk (some 13) (.mv (.tmp 6)) none [],.mk (some 14) (.bin .add (.tmp 13) (.const (.int .i64 1))) none [0],.mk (some 6) (.mv (.tmp 14)) none [1,0,1]]
def l69r6:List AOper :=
  [.mk (some 27) (.mv (.tmp 5)) none [],.mk (some 4) (.mv (.tmp 27)) none [0,0]]
def l69:AFn :=
  (AFn.mk 28 2 (.seq (.reg l69r0) (.seq (.reg l69r1) (.seq (.seq (.reg l69r2) (.block 0 (.loop (.seq (.seq (.reg l69r3) (.cond (.tmp 12) .skip (.exit 0))) (.seq (.block 1 (.draw l69r4)) (.reg l69r5)))))) (.seq (.reg l69r6) .ret)))) [.tmp 4])
theorem l69_eq:lowFn Tryz.prog 69=some l69:=by kernel_rfl
def l70r0:List AOper :=
  [.mk (some 4) (.mv (.const (.slice none 0 0))) none []]
def l70r1:List AOper :=
  [.mk (some 7) (.mv (.tmp 0)) none [],.mk (some 8) (.len (.tmp 7)) none [0],.mk (some 9) (.mkslice 1 [.int .i64 0] (.tmp 8) (.tmp 8)) none [1,1],.mk (some 5) (.mv (.tmp 9)) none [2,0,1,2]]
def l70r2:List AOper :=
  [.mk (some 10) (.mv (.tmp 0)) none [],.mk (some 11) (.len (.tmp 10)) none [0],.mk (some 12) (.bin .sub (.tmp 11) (.const (.int .i64 1))) none [1],.mk (some 6) (.mv (.tmp 12)) none [2,0,1,2]]
def l70r3:List AOper :=
  [.mk (some 13) (.mv (.tmp 6)) none [],.mk (some 14) (.bin .geq (.tmp 13) (.const (.int .i64 0))) none [0]]
def l70r4:List AOper :=
  [.mk (some 17) (.mv (.tmp 5)) none [],.mk (some 18) (.mv (.tmp 6)) none [],.mk (some 19) (.mv (.tmp 1)) none [],.mk (some 20) (.mv (.tmp 0)) none [],.mk (some 21) (.mv (.tmp 6)) none [],.mk (some 22) (.idxA 1 (.tmp 20) (.tmp 21)) none [3,4],.mk (some 23) (.load false 1 (.tmp 22)) none [5],.mk (some 24) (.bin .rem (.tmp 19) (.tmp 23)) none [2,6],.mk (some 25) (.idxA 1 (.tmp 17) (.tmp 18)) none [0,1,0,1,2,3,4,5,6,7],.mk none (.store 1 (.tmp 25) (.tmp 24)) none [8,7,0,1,2,3,4,5,6,7]]
def l70r5:List AOper :=
  [.mk (some 26) (.mv (.tmp 1)) none [],.mk (some 27) (.mv (.tmp 0)) none [],.mk (some 28) (.mv (.tmp 6)) none [],.mk (some 29) (.idxA 1 (.tmp 27) (.tmp 28)) none [1,2],.mk (some 30) (.load false 1 (.tmp 29)) none [3],.mk (some 31) (.bin .quo (.tmp 26) (.tmp 30)) none [0,4],.mk (some 1) (.mv (.tmp 31)) none [5,0,1,2,3,4,5]]
def l70r6:List AOper :=
  [.mk (some 15) (.mv (.tmp 6)) none [],.mk (some 16) (.bin .sub (.tmp 15) (.const (.int .i64 1))) none [0],.mk (some 6) (.mv (.tmp 16)) none [1,0,1]]
def l70r7:List AOper :=
  [.mk (some 32) (.mv (.tmp 5)) none [],.mk (some 4) (.mv (.tmp 32)) none [0,0]]
def l70:AFn :=
  (AFn.mk 33 2 (.seq (.reg l70r0) (.seq (.reg l70r1) (.seq (.seq (.reg l70r2) (.block 0 (.loop (.seq (.seq (.reg l70r3) (.cond (.tmp 14) .skip (.exit 0))) (.seq (.block 1 (.seq (.reg l70r4) (.reg l70r5))) (.reg l70r6)))))) (.seq (.reg l70r7) .ret)))) [.tmp 4])
theorem l70_eq:lowFn Tryz.prog 70=some l70:=by kernel_rfl
def l72r0:List AOper :=
  [.mk (some 1) (.box (.tmp 0)) none [],.mk (some 2) (.mv (.const (.slice none 0 0))) none []]
def l72r1:List AOper :=
  [.mk (some 5) (.load true 3 (.tmp 1)) none [],.mk (some 6) (.call 44 [.tmp 5]) none [0],.mk (some 7) (.mkslice 1 [.int .i64 0] (.tmp 6) (.tmp 6)) none [1,1],.mk (some 3) (.mv (.tmp 7)) none [2,1,0,1,2]]
def l72r2:List AOper :=
  [.mk (some 8) (.mv (.tmp 3)) none [],.mk (some 9) (.len (.tmp 8)) none [0],.mk (some 10) (.mv (.const (.int .i64 0))) none []]
def l72r3:List AOper :=
  [.mk (some 11) (.bin .lss (.tmp 10) (.tmp 9)) none []]
def l72r4:List AOper :=
  [.mk (some 12) (.mv (.tmp 10)) none [],.mk (some 4) (.mv (.tmp 12)) none [0,0]]
def l72r5a:List AOper :=
  [.mk (some 13) (.mv (.tmp 3)) none [],.mk (some 14) (.mv (.tmp 4)) none [],.mk (some 15) (.load true 3 (.tmp 1)) none [],.mk (some 16) (.fld 1 (.tmp 1)) none [],.mk (some 17) (.load false 1 (.tmp 16)) none [3],.mk (some 18) (.mv (.tmp 4)) none [],.mk (some 19) (.call 33 [.tmp 17,.tmp 18]) none [4,5],.mk (some 20) (.call 36 [.tmp 15,.tmp 19]) none [2,6,6]]
def l72r5b:List AOper :=
  [.mk (some 21) (.idxA 1 (.tmp 13) (.tmp 14)) none [0,1,0,1,2,3,4,5,6,7],.mk none (.store 1 (.tmp 21) (.tmp 20)) none [8,7,7,0,1,2,3,4,5,6,7]]
def l72r5:List AOper:=l72r5a ++ l72r5b
def l72r6:List AOper :=
  [.mk (some 22) (.bin .add (.tmp 10) (.const (.int .i64 1))) none [],.mk (some 10) (.mv (.tmp 22)) none [0]]
def l72r7:List AOper :=
  [.mk (some 23) (.mv (.tmp 3)) none [],.mk (some 2) (.mv (.tmp 23)) none [0,0]]
def l72:AFn :=
  (AFn.mk 24 1 (.seq (.reg l72r0) (.seq (.reg l72r1) (.seq (.seq (.reg l72r2) (.block 0 (.loop (.seq (.reg l72r3) (.seq (.cond (.tmp 11) .skip (.exit 0)) (.seq (.block 1 (.seq (.reg l72r4) (.draw l72r5))) (.reg l72r6))))))) (.seq (.reg l72r7) .ret)))) [.tmp 2])
theorem l72_eq:lowFn Tryz.prog 72=some l72:=by kernel_rfl
def l73r0:List AOper :=
  [.mk (some 2) (.mv (.const (.slice none 0 0))) none []]
def l73r1:List AOper :=
  [.mk (some 6) (.mv (.tmp 0)) none [],.mk (some 7) (.len (.tmp 6)) none [0],.mk (some 8) (.mkslice 1 [.int .i64 0] (.tmp 7) (.tmp 7)) none [1,1],.mk (some 3) (.mv (.tmp 8)) none [2,0,1,2]]
def l73r2:List AOper :=
  [.mk (some 4) (.mv (.const (.int .i64 1))) none []]
def l73r3:List AOper :=
  [.mk (some 9) (.mv (.tmp 0)) none [],.mk (some 10) (.len (.tmp 9)) none [0],.mk (some 11) (.bin .sub (.tmp 10) (.const (.int .i64 1))) none [1],.mk (some 5) (.mv (.tmp 11)) none [2,0,1,2]]
def l73r4:List AOper :=
  [.mk (some 12) (.mv (.tmp 5)) none [],.mk (some 13) (.bin .geq (.tmp 12) (.const (.int .i64 0))) none [0]]
def l73r5:List AOper :=
  [.mk (some 16) (.mv (.tmp 3)) none [],.mk (some 17) (.mv (.tmp 5)) none [],.mk (some 18) (.mv (.tmp 4)) none [],.mk (some 19) (.idxA 1 (.tmp 16) (.tmp 17)) none [0,1,0,1,2],.mk none (.store 1 (.tmp 19) (.tmp 18)) none [3,2,0,1,2]]
def l73r6:List AOper :=
  [.mk (some 20) (.mv (.tmp 4)) none [],.mk (some 21) (.mv (.tmp 0)) none [],.mk (some 22) (.mv (.tmp 5)) none [],.mk (some 23) (.idxA 1 (.tmp 21) (.tmp 22)) none [1,2],.mk (some 24) (.load false 1 (.tmp 23)) none [3],.mk (some 25) (.bin .mul (.tmp 20) (.tmp 24)) none [0,4],.mk (some 4) (.mv (.tmp 25)) none [5,0,1,2,3,4,5]]
def l73r7:List AOper :=
  [.mk (some 14) (.mv (.tmp 5)) none [],.mk (some 15) (.bin .sub (.tmp 14) (.const (.int .i64 1))) none [0],.mk (some 5) (.mv (.tmp 15)) none [1,0,1]]
def l73r8:List AOper :=
  [.mk (some 26) (.mv (.tmp 3)) none [],.mk (some 2) (.mv (.tmp 26)) none [0,0]]
def l73:AFn :=
  (AFn.mk 27 1 (.seq (.reg l73r0) (.seq (.reg l73r1) (.seq (.reg l73r2) (.seq (.seq (.reg l73r3) (.block 0 (.loop (.seq (.seq (.reg l73r4) (.cond (.tmp 13) .skip (.exit 0))) (.seq (.block 1 (.seq (.reg l73r5) (.reg l73r6))) (.reg l73r7)))))) (.seq (.reg l73r8) .ret))))) [.tmp 2])
theorem l73_eq:lowFn Tryz.prog 73=some l73:=by kernel_rfl
def l74r0:List AOper :=
  [.mk (some 2) (.box (.tmp 0)) none [],.mk (some 4) (.mv (.const (.bool false))) none []]
def l74r1:List AOper :=
  [.mk (some 5) (.mv (.tmp 1)) none [],.mk (some 6) (.fld 1 (.tmp 2)) none [],.mk (some 7) (.load false 1 (.tmp 6)) none [1],.mk (some 8) (.len (.tmp 7)) none [2],.mk (some 9) (.bin .sub (.tmp 8) (.const (.int .i64 1))) none [3],.mk (some 10) (.call 49 [.tmp 5,.const (.int .i64 0),.tmp 9]) none [0,4],.mk (some 4) (.mv (.tmp 10)) none [5,5,0,1,2,3,4,5]]
def l74:AFn :=
  (AFn.mk 11 2 (.seq (.reg l74r0) (.seq (.reg l74r1) .ret)) [.tmp 4])
theorem l74_eq:lowFn Tryz.prog 74=some l74:=by kernel_rfl
def l75r0:List AOper :=
  [.mk (some 1) (.box (.tmp 0)) none [],.mk (some 2) (.mv (.const (.bool false))) none []]
def l75r1:List AOper :=
  [.mk (some 3) (.fld 0 (.tmp 1)) none [],.mk (some 4) (.load false 1 (.tmp 3)) none [0],.mk (some 5) (.call 49 [.tmp 4,.const (.int .i64 (-100)),.const (.int .i64 100)]) none [1],.mk (some 6) (.mv (.tmp 5)) none [2,2],.mk (some 7) (.fld 1 (.tmp 1)) (some (6,true)) [3],.mk (some 8) (.load false 1 (.tmp 7)) (some (6,true)) [4,3],.mk (some 9) (.call 49 [.tmp 8,.const (.int .i64 (-100)),.const (.int .i64 100)]) (some (6,true)) [5,3,3],.mk (some 10) (.pick (.tmp 6) (.tmp 9) (.const (.bool false))) none [3,6],.mk (some 11) (.mv (.tmp 10)) none [7,6],.mk (some 12) (.fld 2 (.tmp 1)) (some (11,true)) [8],.mk (some 13) (.load false 1 (.tmp 12)) (some (11,true)) [9,8],.mk (some 14) (.call 49 [.tmp 13,.const (.int .i64 (-200)),.const (.int .i64 200)]) (some (11,true)) [10,8,8],.mk (some 15) (.pick (.tmp 11) (.tmp 14) (.const (.bool false))) none [8,11],.mk (some 16) (.mv (.tmp 15)) none [12,11],.mk (some 17) (.fld 2 (.tmp 1)) (some (16,true)) [13],.mk (some 18) (.load false 1 (.tmp 17)) (some (16,true)) [14,13],.mk (some 19) (.bin .neq (.tmp 18) (.const (.int .i64 0))) (some (16,true)) [15,13],.mk (some 20) (.pick (.tmp 16) (.tmp 19) (.const (.bool false))) none [13,16],.mk (some 21) (.mv (.tmp 20)) none [17,13],.mk (some 22) (.fld 3 (.tmp 1)) (some (21,true)) [18],.mk (some 23) (.load false 1 (.tmp 22)) (some (21,true)) [19,18],.mk (some 24) (.mv (.tmp 23)) (some (21,true)) [20,18,18],.mk (some 25) (.fld 0 (.tmp 1)) (some (24,false)) [21],.mk (some 26) (.load false 1 (.tmp 25)) (some (24,false)) [22,21],.mk (some 27) (.bin .eql (.tmp 26) (.const (.int .i64 0))) (some (24,false)) [23,21],.mk (some 28) (.pick (.tmp 24) (.const (.bool true)) (.tmp 27)) (some (21,true)) [21,24,18],.mk (some 29) (.pick (.tmp 21) (.tmp 28) (.const (.bool false))) none [18,25],.mk (some 30) (.mv (.tmp 29)) none [26,21],.mk (some 31) (.fld 4 (.tmp 1)) (some (30,true)) [27],.mk (some 32) (.load false 1 (.tmp 31)) (some (30,true)) [28,27],.mk (some 33) (.mv (.tmp 32)) (some (30,true)) [29,27,27],.mk (some 34) (.fld 1 (.tmp 1)) (some (33,false)) [30],.mk (some 35) (.load false 1 (.tmp 34)) (some (33,false)) [31,30],.mk (some 36) (.bin .eql (.tmp 35) (.const (.int .i64 0))) (some (33,false)) [32,30],.mk (some 37) (.pick (.tmp 33) (.const (.bool true)) (.tmp 36)) (some (30,true)) [30,33,27],.mk (some 38) (.pick (.tmp 30) (.tmp 37) (.const (.bool false))) none [27,34],.mk (some 2) (.mv (.tmp 38)) none [35,30,0,1,2,3,4,5,6,7,8,9,10,11,12,13,14,15,16,17,18,19,20,21,22,23,24,25,26,27,28,29,30,31,32,33,34,35]]
def l75:AFn :=
  (AFn.mk 39 1 (.seq (.reg l75r0) (.seq (.reg l75r1) .ret)) [.tmp 2])
theorem l75_eq:lowFn Tryz.prog 75=some l75:=by kernel_rfl
def l76r0:List AOper :=
  [.mk (some 3) (.box (.tmp 0)) none [],.mk (some 5) (.box (.tmp 2)) none [],.mk (some 6) (.alloc [.int .i64 0,.slice none 0 0,.slice none 0 0]) none []]
def l76r1:List AOper :=
  [.mk (some 10) (.load true 3 (.tmp 3)) none [],.mk (some 11) (.call 52 [.tmp 10]) none [0],.mk (some 7) (.alloc [.int .i64 0,.slice none 0 0,.slice none 0 0]) none [],.mk none (.store 3 (.tmp 7) (.tmp 11)) none [2,1,1,0,1,2]]
def l76r2a:List AOper :=
  [.mk (some 12) (.fld 1 (.tmp 3)) none [],.mk (some 13) (.load false 1 (.tmp 12)) none [0],.mk (some 14) (.mv (.tmp 1)) none [],.mk (some 15) (.idxA 1 (.tmp 13) (.tmp 14)) none [1,2],.mk (some 16) (.load false 1 (.tmp 15)) none [3],.mk (some 17) (.load true 5 (.tmp 5)) none [],.mk (some 18) (.call 82 [.tmp 16,.tmp 17]) none [4,5],.mk (some 19) (.call 81 [.tmp 18]) none [6,6],.mk (some 8) (.alloc [.int .i64 0,.int .i64 0,.int .i64 0]) none []]
def l76r2b:List AOper :=
  [.mk none (.store 3 (.tmp 8) (.tmp 19)) none [8,7,7,0,1,2,3,4,5,6,7,8]]
def l76r2:List AOper:=l76r2a ++ l76r2b
def l76r3:List AOper :=
  [.mk (some 20) (.load true 3 (.tmp 8)) none [],.mk (some 21) (.call 83 [.tmp 20]) none [0],.mk (some 9) (.mv (.tmp 21)) none [1,1,0,1]]
def l76r4:List AOper :=
  [.mk (some 22) (.fld 1 (.tmp 7)) none [],.mk (some 23) (.load false 1 (.tmp 22)) none [0],.mk (some 24) (.mv (.tmp 1)) none [],.mk (some 25) (.mv (.tmp 9)) none [],.mk (some 26) (.len (.tmp 25)) none [3],.mk (some 27) (.idxA 1 (.tmp 23) (.tmp 24)) none [1,2,0,1,2,3,4],.mk none (.store 1 (.tmp 27) (.tmp 26)) none [5,4,0,1,2,3,4]]
def l76r5a:List AOper :=
  [.mk (some 28) (.fld 0 (.tmp 3)) none [],.mk (some 29) (.load false 1 (.tmp 28)) none [0],.mk (some 30) (.fld 0 (.tmp 8)) none [],.mk (some 31) (.load false 1 (.tmp 30)) none [2],.mk (some 32) (.fld 2 (.tmp 3)) none [],.mk (some 33) (.load false 1 (.tmp 32)) none [4],.mk (some 34) (.mv (.tmp 1)) none [],.mk (some 35) (.idxA 1 (.tmp 33) (.tmp 34)) none [5,6],.mk (some 36) (.load false 1 (.tmp 35)) none [7],.mk (some 37) (.bin .mul (.tmp 31) (.tmp 36)) none [3,8]]
def l76r5b:List AOper :=
  [.mk (some 38) (.bin .add (.tmp 29) (.tmp 37)) none [1,9],.mk (some 39) (.fld 0 (.tmp 7)) none [0,1,2,3,4,5,6,7,8,9,10],.mk none (.store 1 (.tmp 39) (.tmp 38)) none [11,10,0,1,2,3,4,5,6,7,8,9,10]]
def l76r5:List AOper:=l76r5a ++ l76r5b
def l76r6a:List AOper :=
  [.mk (some 40) (.fld 2 (.tmp 7)) none [],.mk (some 41) (.load false 1 (.tmp 40)) none [0],.mk (some 42) (.mv (.tmp 1)) none [],.mk (some 43) (.fld 2 (.tmp 8)) none [],.mk (some 44) (.load false 1 (.tmp 43)) none [3],.mk (some 45) (.fld 2 (.tmp 3)) none [],.mk (some 46) (.load false 1 (.tmp 45)) none [5],.mk (some 47) (.mv (.tmp 1)) none [],.mk (some 48) (.idxA 1 (.tmp 46) (.tmp 47)) none [6,7],.mk (some 49) (.load false 1 (.tmp 48)) none [8],.mk (some 50) (.bin .mul (.tmp 44) (.tmp 49)) none [4,9]]
def l76r6b:List AOper :=
  [.mk (some 51) (.idxA 1 (.tmp 41) (.tmp 42)) none [1,2,0,1,2,3,4,5,6,7,8,9,10],.mk none (.store 1 (.tmp 51) (.tmp 50)) none [11,10,0,1,2,3,4,5,6,7,8,9,10]]
def l76r6:List AOper:=l76r6a ++ l76r6b
def l76r7:List AOper :=
  [.mk (some 52) (.mv (.tmp 9)) none [],.mk (some 53) (.len (.tmp 52)) none [0],.mk (some 54) (.bin .leq (.tmp 53) (.const (.int .i64 1))) none [1]]
def l76r8:List AOper :=
  [.mk (some 55) (.fld 2 (.tmp 7)) none [],.mk (some 56) (.load false 1 (.tmp 55)) none [0],.mk (some 57) (.mv (.tmp 1)) none [],.mk (some 58) (.idxA 1 (.tmp 56) (.tmp 57)) none [1,2,0,1,2],.mk none (.store 1 (.tmp 58) (.const (.int .i64 0))) none [3,0,1,2]]
def l76r9:List AOper :=
  [.mk (some 59) (.load true 3 (.tmp 7)) none [],.mk (some 60) (.call 84 [.tmp 59]) none [0],.mk none (.store 3 (.tmp 6) (.tmp 60)) none [1,1,0,1]]
def l76:AFn :=
  (AFn.mk 61 3 (.seq (.reg l76r0) (.seq (.reg l76r1) (.seq (.draw l76r2) (.seq (.reg l76r3) (.seq (.reg l76r4) (.seq (.draw l76r5) (.seq (.draw l76r6) (.seq (.seq (.reg l76r7) (.cond (.tmp 54) (.reg l76r8) .skip)) (.seq (.reg l76r9) .ret))))))))) [.cell 6 true 3])
theorem l76_eq:lowFn Tryz.prog 76=some l76:=by kernel_rfl
def l77r0:List AOper :=
  [.mk (some 4) (.mv (.const (.bool false))) none []]
def l77r1:List AOper :=
  [.mk (some 5) (.mv (.tmp 0)) none [],.mk (some 6) (.len (.tmp 5)) none [0],.mk (some 7) (.mv (.tmp 1)) none [],.mk (some 8) (.bin .eql (.tmp 6) (.tmp 7)) none [1,2],.mk (some 9) (.mv (.tmp 8)) none [3],.mk (some 10) (.mv (.tmp 0)) (some (9,true)) [4],.mk (some 11) (.mv (.tmp 1)) (some (9,true)) [4],.mk (some 12) (.bin .sub (.tmp 11) (.const (.int .i64 1))) (some (9,true)) [6,4],.mk (some 13) (.call 48 [.tmp 10,.const (.int .i64 0),.tmp 12]) (some (9,true)) [5,7,4,4],.mk (some 14) (.pick (.tmp 9) (.tmp 13) (.const (.bool false))) none [4,8],.mk (some 15) (.mv (.tmp 14)) none [9,8],.mk (some 16) (.mv (.tmp 0)) (some (15,true)) [10],.mk (some 17) (.call 85 [.tmp 16]) (some (15,true)) [11,10,10],.mk (some 18) (.pick (.tmp 15) (.tmp 17) (.const (.bool false))) none [10,12],.mk (some 4) (.mv (.tmp 18)) none [13,12,0,1,2,3,4,5,6,7,8,9,10,11,12,13]]
def l77:AFn :=
  (AFn.mk 19 2 (.seq (.reg l77r0) (.seq (.reg l77r1) .ret)) [.tmp 4])
theorem l77_eq:lowFn Tryz.prog 77=some l77:=by kernel_rfl
def l78r0:List AOper :=
  [.mk (some 2) (.box (.tmp 0)) none [],.mk (some 4) (.alloc [.int .i64 0,.slice none 0 0,.slice none 0 0]) none []]
def l78r1:List AOper :=
  [.mk (some 7) (.fld 0 (.tmp 2)) none [],.mk (some 8) (.load false 1 (.tmp 7)) none [0],.mk (some 9) (.build [.int .i64 0,.slice none 0 0,.slice none 0 0] [(0,1,.tmp 8)]) none [1],.mk (some 5) (.alloc [.int .i64 0,.slice none 0 0,.slice none 0 0]) none [],.mk none (.store 3 (.tmp 5) (.tmp 9)) none [3,2,0,1,2,3]]
def l78r2:List AOper :=
  [.mk (some 6) (.mv (.const (.int .i64 0))) none []]
def l78r3:List AOper :=
  [.mk (some 10) (.mv (.tmp 6)) none [],.mk (some 11) (.mv (.tmp 1)) none [],.mk (some 12) (.len (.tmp 11)) none [1],.mk (some 13) (.bin .lss (.tmp 10) (.tmp 12)) none [0,2]]
def l78r4a:List AOper :=
  [.mk (some 16) (.fld 1 (.tmp 5)) none [],.mk (some 17) (.load false 1 (.tmp 16)) none [0],.mk (some 18) (.fld 1 (.tmp 2)) none [],.mk (some 19) (.load false 1 (.tmp 18)) none [2],.mk (some 20) (.mv (.tmp 1)) none [],.mk (some 21) (.mv (.tmp 6)) none [],.mk (some 22) (.idxA 1 (.tmp 20) (.tmp 21)) none [4,5],.mk (some 23) (.load false 1 (.tmp 22)) none [6],.mk (some 24) (.idxA 1 (.tmp 19) (.tmp 23)) none [3,7],.mk (some 25) (.load false 1 (.tmp 24)) none [8],.mk (some 26) (.bslice 1 [.int .i64 0] [(0,.tmp 25)] 1) none [9]]
def l78r4b:List AOper :=
  [.mk (some 27) (.append 1 (.tmp 17) (.tmp 26)) none [1,10],.mk (some 28) (.fld 1 (.tmp 5)) none [0,1,2,3,4,5,6,7,8,9,10,11],.mk none (.store 1 (.tmp 28) (.tmp 27)) none [12,11,11,0,1,2,3,4,5,6,7,8,9,10,11]]
def l78r4:List AOper:=l78r4a ++ l78r4b
def l78r5a:List AOper :=
  [.mk (some 29) (.fld 2 (.tmp 5)) none [],.mk (some 30) (.load false 1 (.tmp 29)) none [0],.mk (some 31) (.fld 2 (.tmp 2)) none [],.mk (some 32) (.load false 1 (.tmp 31)) none [2],.mk (some 33) (.mv (.tmp 1)) none [],.mk (some 34) (.mv (.tmp 6)) none [],.mk (some 35) (.idxA 1 (.tmp 33) (.tmp 34)) none [4,5],.mk (some 36) (.load false 1 (.tmp 35)) none [6],.mk (some 37) (.idxA 1 (.tmp 32) (.tmp 36)) none [3,7],.mk (some 38) (.load false 1 (.tmp 37)) none [8],.mk (some 39) (.bslice 1 [.int .i64 0] [(0,.tmp 38)] 1) none [9]]
def l78r5b:List AOper :=
  [.mk (some 40) (.append 1 (.tmp 30) (.tmp 39)) none [1,10],.mk (some 41) (.fld 2 (.tmp 5)) none [0,1,2,3,4,5,6,7,8,9,10,11],.mk none (.store 1 (.tmp 41) (.tmp 40)) none [12,11,11,0,1,2,3,4,5,6,7,8,9,10,11]]
def l78r5:List AOper:=l78r5a ++ l78r5b
def l78r6:List AOper :=
  [.mk (some 14) (.mv (.tmp 6)) none [],.mk (some 15) (.bin .add (.tmp 14) (.const (.int .i64 1))) none [0],.mk (some 6) (.mv (.tmp 15)) none [1,0,1]]
def l78r7:List AOper :=
  [.mk (some 42) (.load true 3 (.tmp 5)) none [],.mk none (.store 3 (.tmp 4) (.tmp 42)) none [0,0]]
def l78:AFn :=
  (AFn.mk 43 2 (.seq (.reg l78r0) (.seq (.reg l78r1) (.seq (.seq (.reg l78r2) (.block 0 (.loop (.seq (.seq (.reg l78r3) (.cond (.tmp 13) .skip (.exit 0))) (.seq (.block 1 (.seq (.draw l78r4) (.draw l78r5))) (.reg l78r6)))))) (.seq (.reg l78r7) .ret)))) [.cell 4 true 3])
theorem l78_eq:lowFn Tryz.prog 78=some l78:=by kernel_rfl
def l81r0:List AOper :=
  [.mk (some 2) (.alloc [.int .i64 0,.int .i64 0,.int .i64 0]) none []]
def l81r1:List AOper :=
  [.mk (some 5) (.mv (.tmp 0)) none [],.mk (some 6) (.len (.tmp 5)) none [0]]
def l81r2:List AOper :=
  [.mk (some 8) (.bin .eql (.tmp 6) (.const (.int .i64 0))) none [],.mk (some 7) (.mv (.tmp 8)) none [0]]
def l81r3:List AOper :=
  [.mk (some 9) (.build [.int .i64 0,.int .i64 0,.int .i64 0] [(0,1,.const (.int .i64 0)),(1,1,.const (.int .i64 0)),(2,1,.const (.int .i64 1))]) none [],.mk none (.store 3 (.tmp 2) (.tmp 9)) none [0,0]]
def l81r4:List AOper :=
  [.mk (some 11) (.bin .eql (.tmp 6) (.const (.int .i64 1))) none [],.mk (some 10) (.mv (.tmp 11)) none [0]]
def l81r5a:List AOper :=
  [.mk (some 12) (.mv (.tmp 0)) none [],.mk (some 13) (.idxA 1 (.tmp 12) (.const (.int .i64 0))) none [0],.mk (some 14) (.load false 1 (.tmp 13)) none [1],.mk (some 15) (.mv (.tmp 0)) none [],.mk (some 16) (.idxA 1 (.tmp 15) (.const (.int .i64 0))) none [3],.mk (some 17) (.load false 1 (.tmp 16)) none [4],.mk (some 18) (.bin .add (.tmp 17) (.const (.int .i64 1))) none [5]]
def l81r5b:List AOper :=
  [.mk (some 19) (.build [.int .i64 0,.int .i64 0,.int .i64 0] [(0,1,.tmp 14),(1,1,.tmp 18),(2,1,.const (.int .i64 1))]) none [2,6],.mk none (.store 3 (.tmp 2) (.tmp 19)) none [7,0,1,2,3,4,5,6,7]]
def l81r5:List AOper:=l81r5a ++ l81r5b
def l81r6a:List AOper :=
  [.mk (some 20) (.mv (.tmp 0)) none [],.mk (some 21) (.idxA 1 (.tmp 20) (.const (.int .i64 1))) none [0],.mk (some 22) (.load false 1 (.tmp 21)) none [1],.mk (some 23) (.mv (.tmp 0)) none [],.mk (some 24) (.idxA 1 (.tmp 23) (.const (.int .i64 0))) none [3],.mk (some 25) (.load false 1 (.tmp 24)) none [4]]
def l81r6b:List AOper :=
  [.mk (some 26) (.bin .sub (.tmp 22) (.tmp 25)) none [2,5],.mk (some 3) (.mv (.tmp 26)) none [6,0,1,2,3,4,5,6]]
def l81r6:List AOper:=l81r6a ++ l81r6b
def l81r7:List AOper :=
  [.mk (some 27) (.mv (.tmp 0)) none [],.mk (some 28) (.mv (.tmp 0)) none [],.mk (some 29) (.len (.tmp 28)) none [1],.mk (some 30) (.bin .sub (.tmp 29) (.const (.int .i64 1))) none [2],.mk (some 31) (.idxA 1 (.tmp 27) (.tmp 30)) none [0,3],.mk (some 32) (.load false 1 (.tmp 31)) none [4],.mk (some 33) (.bin .add (.tmp 32) (.const (.int .i64 1))) none [5],.mk (some 4) (.mv (.tmp 33)) none [6,0,1,2,3,4,5,6]]
def l81r8:List AOper :=
  [.mk (some 34) (.mv (.tmp 3)) none [],.mk (some 35) (.bin .lss (.tmp 34) (.const (.int .i64 0))) none [0]]
def l81r9:List AOper :=
  [.mk (some 36) (.mv (.tmp 0)) none [],.mk (some 37) (.mv (.tmp 0)) none [],.mk (some 38) (.len (.tmp 37)) none [1],.mk (some 39) (.bin .sub (.tmp 38) (.const (.int .i64 1))) none [2],.mk (some 40) (.idxA 1 (.tmp 36) (.tmp 39)) none [0,3],.mk (some 41) (.load false 1 (.tmp 40)) none [4],.mk (some 42) (.bin .sub (.tmp 41) (.const (.int .i64 1))) none [5],.mk (some 4) (.mv (.tmp 42)) none [6,0,1,2,3,4,5,6]]
def l81r10:List AOper :=
  [.mk (some 43) (.mv (.tmp 0)) none [],.mk (some 44) (.idxA 1 (.tmp 43) (.const (.int .i64 0))) none [0],.mk (some 45) (.load false 1 (.tmp 44)) none [1],.mk (some 46) (.mv (.tmp 4)) none [],.mk (some 47) (.mv (.tmp 3)) none [],.mk (some 48) (.build [.int .i64 0,.int .i64 0,.int .i64 0] [(0,1,.tmp 45),(1,1,.tmp 46),(2,1,.tmp 47)]) none [2,3,4],.mk none (.store 3 (.tmp 2) (.tmp 48)) none [5,0,1,2,3,4,5]]
def l81:AFn :=
  (AFn.mk 49 1 (.seq (.reg l81r0) (.seq (.seq (.reg l81r1) (.block 0 (.seq (.reg l81r2) (.cond (.tmp 7) (.seq (.reg l81r3) .ret) (.seq (.reg l81r4) (.cond (.tmp 10) (.seq (.draw l81r5) .ret) .skip)))))) (.seq (.draw l81r6) (.seq (.reg l81r7) (.seq (.seq (.reg l81r8) (.cond (.tmp 35) (.reg l81r9) .skip)) (.seq (.reg l81r10) .ret)))))) [.cell 2 true 3])
theorem l81_eq:lowFn Tryz.prog 81=some l81:=by kernel_rfl
def l82r0:List AOper :=
  [.mk (some 3) (.box (.tmp 1)) none [],.mk (some 4) (.mv (.const (.slice none 0 0))) none []]
def l82r1:List AOper :=
  [.mk (some 5) (.mv (.const (.int .i64 0))) none []]
def l82r2:List AOper :=
  [.mk (some 7) (.mv (.tmp 0)) none [],.mk (some 6) (.mv (.tmp 7)) none [0,0]]
def l82r3:List AOper :=
  [.mk (some 8) (.fld 2 (.tmp 3)) none [],.mk (some 9) (.load false 1 (.tmp 8)) none [0],.mk (some 10) (.bin .lss (.tmp 9) (.const (.int .i64 0))) none [1]]
def l82r4:List AOper :=
  [.mk (some 11) (.mv (.tmp 0)) none [],.mk (some 12) (.bin .sub (.tmp 11) (.const (.int .i64 1))) none [0],.mk (some 5) (.mv (.tmp 12)) none [1,0,1]]
def l82r5:List AOper :=
  [.mk (some 6) (.mv (.const (.int .i64 (-1)))) none []]
def l82r6:List AOper :=
  [.mk (some 13) (.fld 3 (.tmp 3)) none [],.mk (some 14) (.load false 1 (.tmp 13)) none [0]]
def l82r7:List AOper :=
  [.mk (some 15) (.mv (.tmp 0)) none [],.mk (some 16) (.fld 0 (.tmp 3)) none [],.mk (some 17) (.load false 1 (.tmp 16)) none [1],.mk (some 18) (.fld 2 (.tmp 3)) none [],.mk (some 19) (.load false 1 (.tmp 18)) none [3],.mk (some 20) (.call 97 [.tmp 15,.tmp 17,.tmp 19]) none [0,2,4],.mk (some 5) (.mv (.tmp 20)) none [5,5,0,1,2,3,4,5]]
def l82r8:List AOper :=
  [.mk (some 21) (.fld 4 (.tmp 3)) none [],.mk (some 22) (.load false 1 (.tmp 21)) none [0]]
def l82r9:List AOper :=
  [.mk (some 23) (.mv (.tmp 0)) none [],.mk (some 24) (.fld 1 (.tmp 3)) none [],.mk (some 25) (.load false 1 (.tmp 24)) none [1],.mk (some 26) (.fld 2 (.tmp 3)) none [],.mk (some 27) (.load false 1 (.tmp 26)) none [3],.mk (some 28) (.call 97 [.tmp 23,.tmp 25,.tmp 27]) none [0,2,4],.mk (some 6) (.mv (.tmp 28)) none [5,5,0,1,2,3,4,5]]
def l82r10:List AOper :=
  [.mk (some 29) (.mv (.tmp 5)) none [],.mk (some 30) (.mv (.tmp 6)) none [],.mk (some 31) (.fld 2 (.tmp 3)) none [],.mk (some 32) (.load false 1 (.tmp 31)) none [2],.mk (some 33) (.build [.int .i64 0,.int .i64 0,.int .i64 0] [(0,1,.tmp 29),(1,1,.tmp 30),(2,1,.tmp 32)]) none [0,1,3],.mk (some 34) (.call 83 [.tmp 33]) none [4],.mk (some 4) (.mv (.tmp 34)) none [5,5,0,1,2,3,4,5]]
def l82:AFn :=
  (AFn.mk 35 2 (.seq (.reg l82r0) (.seq (.reg l82r1) (.seq (.reg l82r2) (.seq (.seq (.reg l82r3) (.cond (.tmp 10) (.seq (.reg l82r4) (.reg l82r5)) .skip)) (.seq (.seq (.reg l82r6) (.cond (.tmp 14) (.reg l82r7) .skip)) (.seq (.seq (.reg l82r8) (.cond (.tmp 22) (.reg l82r9) .skip)) (.seq (.reg l82r10) .ret))))))) [.tmp 4])
theorem l82_eq:lowFn Tryz.prog 82=some l82:=by kernel_rfl
def l83r0:List AOper :=
  [.mk (some 1) (.box (.tmp 0)) none [],.mk (some 2) (.mv (.const (.slice none 0 0))) none []]
def l83r1:List AOper :=
  [.mk (some 5) (.bslice 1 [.int .i64 0] [] 0) none [],.mk (some 3) (.mv (.tmp 5)) none [0,0]]
def l83r2:List AOper :=
  [.mk (some 6) (.fld 0 (.tmp 1)) none [],.mk (some 7) (.load false 1 (.tmp 6)) none [0],.mk (some 4) (.mv (.tmp 7)) none [1,0,1]]
def l83r3:List AOper :=
  [.mk (some 8) (.fld 2 (.tmp 1)) none [],.mk (some 9) (.load false 1 (.tmp 8)) none [0],.mk (some 10) (.bin .gtr (.tmp 9) (.const (.int .i64 0))) none [1],.mk (some 11) (.mv (.tmp 10)) none [2],.mk (some 12) (.mv (.tmp 4)) (some (11,true)) [3],.mk (some 13) (.fld 1 (.tmp 1)) (some (11,true)) [3],.mk (some 14) (.load false 1 (.tmp 13)) (some (11,true)) [5,3],.mk (some 15) (.bin .lss (.tmp 12) (.tmp 14)) (some (11,true)) [4,6,3],.mk (some 16) (.pick (.tmp 11) (.tmp 15) (.const (.bool false))) none [3,7],.mk (some 17) (.mv (.tmp 16)) none [8,3],.mk (some 18) (.fld 2 (.tmp 1)) (some (17,false)) [9],.mk (some 19) (.load false 1 (.tmp 18)) (some (17,false)) [10,9],.mk (some 20) (.bin .lss (.tmp 19) (.const (.int .i64 0))) (some (17,false)) [11,9],.mk (some 21) (.mv (.tmp 20)) (some (17,false)) [12,9,9],.mk (some 22) (.mv (.tmp 4)) (some (21,true)) [13],.mk (some 23) (.fld 1 (.tmp 1)) (some (21,true)) [13],.mk (some 24) (.load false 1 (.tmp 23)) (some (21,true)) [15,13],.mk (some 25) (.bin .gtr (.tmp 22) (.tmp 24)) (some (21,true)) [14,16,13],.mk (some 26) (.pick (.tmp 21) (.tmp 25) (.const (.bool false))) (some (17,false)) [13,17,9],.mk (some 27) (.pick (.tmp 17) (.const (.bool true)) (.tmp 26)) none [9,18]]
def l83r4:List AOper :=
  [.mk (some 32) (.mv (.tmp 3)) none [],.mk (some 33) (.mv (.tmp 4)) none [],.mk (some 34) (.bslice 1 [.int .i64 0] [(0,.tmp 33)] 1) none [1],.mk (some 35) (.append 1 (.tmp 32) (.tmp 34)) none [0,2],.mk (some 3) (.mv (.tmp 35)) none [3,3,0,1,2,3]]
def l83r5:List AOper :=
  [.mk (some 28) (.mv (.tmp 4)) none [],.mk (some 29) (.fld 2 (.tmp 1)) none [],.mk (some 30) (.load false 1 (.tmp 29)) none [1],.mk (some 31) (.bin .add (.tmp 28) (.tmp 30)) none [0,2],.mk (some 4) (.mv (.tmp 31)) none [3,0,1,2,3]]
def l83r6:List AOper :=
  [.mk (some 36) (.mv (.tmp 3)) none [],.mk (some 2) (.mv (.tmp 36)) none [0,0]]
def l83:AFn :=
  (AFn.mk 37 1 (.seq (.reg l83r0) (.seq (.reg l83r1) (.seq (.seq (.reg l83r2) (.block 0 (.loop (.seq (.seq (.reg l83r3) (.cond (.tmp 27) .skip (.exit 0))) (.seq (.block 1 (.reg l83r4)) (.reg l83r5)))))) (.seq (.reg l83r6) .ret)))) [.tmp 2])
theorem l83_eq:lowFn Tryz.prog 83=some l83:=by kernel_rfl
def l84r0:List AOper :=
  [.mk (some 1) (.box (.tmp 0)) none [],.mk (some 2) (.alloc [.int .i64 0,.slice none 0 0,.slice none 0 0]) none []]
def l84r1:List AOper :=
  [.mk (some 3) (.fld 1 (.tmp 1)) none [],.mk (some 4) (.load false 1 (.tmp 3)) none [0],.mk (some 5) (.call 50 [.tmp 4]) none [1],.mk (some 6) (.bin .eql (.tmp 5) (.const (.int .i64 0))) none [2]]
def l84r2a:List AOper :=
  [.mk (some 7) (.fld 1 (.tmp 1)) none [],.mk (some 8) (.load false 1 (.tmp 7)) none [0],.mk (some 9) (.fld 1 (.tmp 1)) none [],.mk (some 10) (.load false 1 (.tmp 9)) none [2],.mk (some 11) (.len (.tmp 10)) none [3],.mk (some 12) (.mkslice 1 [.int .i64 0] (.tmp 11) (.tmp 11)) none [4,4]]
def l84r2b:List AOper :=
  [.mk (some 13) (.build [.int .i64 0,.slice none 0 0,.slice none 0 0] [(1,1,.tmp 8),(2,1,.tmp 12)]) none [1,5],.mk none (.store 3 (.tmp 2) (.tmp 13)) none [6,0,1,2,3,4,5,6]]
def l84r2:List AOper:=l84r2a ++ l84r2b
def l84r3:List AOper :=
  [.mk (some 14) (.load true 3 (.tmp 1)) none [],.mk none (.store 3 (.tmp 2) (.tmp 14)) none [0,0]]
def l84:AFn :=
  (AFn.mk 15 1 (.seq (.reg l84r0) (.seq (.seq (.reg l84r1) (.cond (.tmp 6) (.seq (.draw l84r2) .ret) .skip)) (.seq (.reg l84r3) .ret))) [.cell 2 true 3])
theorem l84_eq:lowFn Tryz.prog 84=some l84:=by kernel_rfl
def l85r0:List AOper :=
  [.mk (some 2) (.mv (.const (.bool false))) none []]
def l85r1:List AOper :=
  [.mk (some 3) (.mv (.const (.int .i64 0))) none []]
def l85r2:List AOper :=
  [.mk (some 4) (.mv (.tmp 3)) none [],.mk (some 5) (.mv (.tmp 0)) none [],.mk (some 6) (.len (.tmp 5)) none [1],.mk (some 7) (.bin .lss (.tmp 4) (.tmp 6)) none [0,2]]
def l85r3a:List AOper :=
  [.mk (some 10) (.mv (.tmp 0)) none [],.mk (some 11) (.mv (.tmp 3)) none [],.mk (some 12) (.slice 1 (.tmp 10) none (some (.tmp 11))) none [0,1],.mk (some 13) (.mv (.tmp 0)) none [],.mk (some 14) (.mv (.tmp 3)) none [],.mk (some 15) (.idxA 1 (.tmp 13) (.tmp 14)) none [3,4],.mk (some 16) (.load false 1 (.tmp 15)) none [5]]
def l85r3b:List AOper :=
  [.mk (some 17) (.call 98 [.tmp 12,.tmp 16]) none [2,6],.mk (some 18) (.bin .geq (.tmp 17) (.const (.int .i64 0))) none [7]]
def l85r3:List AOper:=l85r3a ++ l85r3b
def l85r4:List AOper :=
  [.mk (some 2) (.mv (.const (.bool false))) none []]
def l85r5:List AOper :=
  [.mk (some 8) (.mv (.tmp 3)) none [],.mk (some 9) (.bin .add (.tmp 8) (.const (.int .i64 1))) none [0],.mk (some 3) (.mv (.tmp 9)) none [1,0,1]]
def l85r6:List AOper :=
  [.mk (some 2) (.mv (.const (.bool true))) none []]
def l85:AFn :=
  (AFn.mk 19 1 (.seq (.reg l85r0) (.seq (.seq (.reg l85r1) (.block 0 (.loop (.seq (.seq (.reg l85r2) (.cond (.tmp 7) .skip (.exit 0))) (.seq (.block 1 (.seq (.draw l85r3) (.cond (.tmp 18) (.seq (.reg l85r4) .ret) .skip))) (.reg l85r5)))))) (.seq (.reg l85r6) .ret))) [.tmp 2])
theorem l85_eq:lowFn Tryz.prog 85=some l85:=by kernel_rfl
def l97r0:List AOper :=
  [.mk (some 6) (.mv (.const (.int .i64 0))) none []]
def l97r1:List AOper :=
  [.mk (some 7) (.mv (.const (.int .i64 0))) none []]
def l97r2:List AOper :=
  [.mk (some 9) (.mv (.tmp 0)) none [],.mk (some 8) (.mv (.tmp 9)) none [0,0]]
def l97r3:List AOper :=
  [.mk (some 10) (.mv (.tmp 2)) none [],.mk (some 11) (.bin .lss (.tmp 10) (.const (.int .i64 0))) none [0]]
def l97r4:List AOper :=
  [.mk (some 7) (.mv (.const (.int .i64 (-1)))) none []]
def l97r5:List AOper :=
  [.mk (some 12) (.mv (.tmp 0)) none [],.mk (some 13) (.bin .sub (.tmp 12) (.const (.int .i64 1))) none [0],.mk (some 8) (.mv (.tmp 13)) none [1,0,1]]
def l97r6:List AOper :=
  [.mk (some 14) (.mv (.tmp 1)) none [],.mk (some 15) (.bin .lss (.tmp 14) (.const (.int .i64 0))) none [0]]
def l97r7:List AOper :=
  [.mk (some 16) (.mv (.tmp 1)) none [],.mk (some 17) (.mv (.tmp 0)) none [],.mk (some 18) (.bin .add (.tmp 16) (.tmp 17)) none [0,1],.mk (some 1) (.mv (.tmp 18)) none [2,0,1,2]]
def l97r8:List AOper :=
  [.mk (some 19) (.mv (.tmp 8)) none [],.mk (some 20) (.mv (.tmp 7)) none [],.mk (some 21) (.mv (.tmp 1)) none [],.mk (some 22) (.minmax true (.tmp 20) (.tmp 21)) none [1,2],.mk (some 23) (.minmax false (.tmp 19) (.tmp 22)) none [0,3],.mk (some 6) (.mv (.tmp 23)) none [4,0,1,2,3,4]]
def l97:AFn :=
  (AFn.mk 24 3 (.seq (.reg l97r0) (.seq (.reg l97r1) (.seq (.reg l97r2) (.seq (.seq (.reg l97r3) (.cond (.tmp 11) (.seq (.reg l97r4) (.reg l97r5)) .skip)) (.seq (.seq (.reg l97r6) (.cond (.tmp 15) (.reg l97r7) .skip)) (.seq (.reg l97r8) .ret)))))) [.tmp 6])
theorem l97_eq:lowFn Tryz.prog 97=some l97:=by kernel_rfl
def l98r0:List AOper :=
  [.mk (some 4) (.mv (.const (.int .i64 0))) none []]
def l98r1:List AOper :=
  [.mk (some 5) (.mv (.const (.int .i64 0))) none []]
def l98r2:List AOper :=
  [.mk (some 6) (.mv (.tmp 5)) none [],.mk (some 7) (.mv (.tmp 0)) none [],.mk (some 8) (.len (.tmp 7)) none [1],.mk (some 9) (.bin .lss (.tmp 6) (.tmp 8)) none [0,2]]
def l98r3:List AOper :=
  [.mk (some 12) (.mv (.tmp 0)) none [],.mk (some 13) (.mv (.tmp 5)) none [],.mk (some 14) (.idxA 1 (.tmp 12) (.tmp 13)) none [0,1],.mk (some 15) (.load false 1 (.tmp 14)) none [2],.mk (some 16) (.mv (.tmp 1)) none [],.mk (some 17) (.bin .eql (.tmp 15) (.tmp 16)) none [3,4]]
def l98r4:List AOper :=
  [.mk (some 18) (.mv (.tmp 5)) none [],.mk (some 4) (.mv (.tmp 18)) none [0,0]]
def l98r5:List AOper :=
  [.mk (some 10) (.mv (.tmp 5)) none [],.mk (some 11) (.bin .add (.tmp 10) (.const (.int .i64 1))) none [0],.mk (some 5) (.mv (.tmp 11)) none [1,0,1]]
def l98r6:List AOper :=
  [.mk (some 4) (.mv (.const (.int .i64 (-1)))) none []]
def l98:AFn :=
  (AFn.mk 19 2 (.seq (.reg l98r0) (.seq (.seq (.reg l98r1) (.block 0 (.loop (.seq (.seq (.reg l98r2) (.cond (.tmp 9) .skip (.exit 0))) (.seq (.block 1 (.seq (.reg l98r3) (.cond (.tmp 17) (.seq (.reg l98r4) .ret) .skip))) (.reg l98r5)))))) (.seq (.reg l98r6) .ret))) [.tmp 4])
theorem l98_eq:lowFn Tryz.prog 98=some l98:=by kernel_rfl
end Go.Proofs.YtejbfjmiidofcaaGreat
