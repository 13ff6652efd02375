import Derived.Test.YtkpcjppnjmhanaaDoorCW3
import Derived.Test.YtkpcjppnjmhanaaDoorProg
import Derived.KernelRfl
set_option maxRecDepth 100000
namespace Go.Proofs.YtkpcjppnjmhanaaDoor
open Vw Go
/-- Where the sentinel error lies. -/
class SentA where
  a:Addr
instance globs [SentA]:Inhabited GlobT:=⟨⟨[(0,[.iface 133 (.pointer (some SentA.a))])]⟩⟩
attribute [push_cast] Bool.false_eq_true List.length_replicate
attribute [bitvec_to_nat] decide_eq_true_eq decide_eq_false_iff_not Bool.not_eq_true' Bool.not_eq_false' Bool.and_eq_true Bool.or_eq_true Bool.and_eq_false_iff Bool.or_eq_false_iff Int.not_le Int.not_lt bne_iff_ne ne_eq beq_iff_eq Bool.not_eq_true Bool.not_eq_false
theorem sd {P:Prop} (h:P:=by first|assumption|rfl|omega|(simp<;>omega)|(simp_all<;>omega)):P:=h
def l4r0:List AOper :=
  [.mk (some 2) (.mv (.const (.bool false))) none []]
def l4r1:List AOper :=
  [.mk (some 8) (.mv (.tmp 0)) none [],.mk (some 9) (.len (.tmp 8)) none [0],.mk (some 10) (.bin .gtr (.tmp 9) (.const (.int .i64 1048576))) none [1]]
def l4r2:List AOper :=
  [.mk (some 2) (.mv (.const (.bool true))) none []]
def l4r3:List AOper :=
  [.mk (some 12) (.mv (.tmp 0)) none [],.mk (some 13) (.call 11 [.tmp 12]) none [0],.mk (some 11) (.mv (.tmp 13)) none [1],.mk (some 14) (.extract (.tmp 11) 0) none [2],.mk (some 15) (.extract (.tmp 11) 1) none [2],.mk (some 3) (.alloc [.slice none 0 0,.slice none 0 0]) none [],.mk none (.store 2 (.tmp 3) (.tmp 14)) none [5,3,1,0,1,2,3,5],.mk (some 4) (.mv (.tmp 15)) none [4,6,0,1,2,3,4,5,6]]
def l4r4:List AOper :=
  [.mk (some 16) (.load true 2 (.tmp 3)) none [],.mk (some 17) (.mv (.tmp 4)) none [],.mk (some 18) (.call 12 [.tmp 16,.tmp 17]) none [0,1],.mk (some 5) (.mv (.tmp 18)) none [2,2,0,1,2]]
def l4r5:List AOper :=
  [.mk (some 19) (.mv (.tmp 5)) none [],.mk (some 20) (.load true 2 (.tmp 3)) none [],.mk (some 21) (.mv (.tmp 4)) none [],.mk (some 22) (.call 14 [.tmp 20,.tmp 21]) none [1,2],.mk (some 23) (.call 13 [.tmp 19,.tmp 22]) none [0,3,3],.mk (some 24) (.un .not (.tmp 23)) none [4],.mk (some 25) (.mv (.tmp 24)) none [5,4],.mk (some 26) (.load true 2 (.tmp 3)) (some (25,false)) [6],.mk (some 27) (.call 8 [.tmp 26]) (some (25,false)) [7,6,6],.mk (some 28) (.un .not (.tmp 27)) (some (25,false)) [8,6],.mk (some 29) (.pick (.tmp 25) (.const (.bool true)) (.tmp 28)) none [6,9],.mk (some 30) (.mv (.tmp 29)) none [10,8],.mk (some 31) (.mv (.tmp 4)) (some (30,false)) [11],.mk (some 32) (.bin .lss (.tmp 31) (.const (.int .i64 (-1)))) (some (30,false)) [12,11],.mk (some 33) (.pick (.tmp 30) (.const (.bool true)) (.tmp 32)) none [11,13],.mk (some 34) (.mv (.tmp 33)) none [14,11],.mk (some 35) (.mv (.tmp 4)) (some (34,false)) [15],.mk (some 36) (.fld 1 (.tmp 3)) (some (34,false)) [15],.mk (some 37) (.load false 1 (.tmp 36)) (some (34,false)) [17,15],.mk (some 38) (.len (.tmp 37)) (some (34,false)) [18,15],.mk (some 39) (.bin .geq (.tmp 35) (.tmp 38)) (some (34,false)) [16,19,15],.mk (some 40) (.pick (.tmp 34) (.const (.bool true)) (.tmp 39)) none [15,20]]
def l4r6:List AOper :=
  [.mk (some 41) (.mv (.tmp 5)) none [],.mk (some 42) (.load true 2 (.tmp 3)) none [],.mk (some 43) (.mv (.tmp 4)) none [],.mk (some 44) (.call 14 [.tmp 42,.tmp 43]) none [1,2],.mk (some 45) (.call 13 [.tmp 41,.tmp 44]) none [0,3,3],.mk (some 2) (.mv (.tmp 45)) none [4,4,0,1,2,3,4]]
def l4r7:List AOper :=
  [.mk (some 46) (.load true 2 (.tmp 3)) none [],.mk (some 47) (.call 12 [.tmp 46,.const (.int .i64 (-1))]) none [0],.mk (some 48) (.len (.tmp 47)) none [1],.mk (some 6) (.mv (.tmp 48)) none [2,1,0,1,2]]
def l4r8:List AOper :=
  [.mk (some 7) (.mv (.const (.int .i64 0))) none []]
def l4r9:List AOper :=
  [.mk (some 49) (.mv (.tmp 7)) none [],.mk (some 50) (.fld 1 (.tmp 3)) none [],.mk (some 51) (.load false 1 (.tmp 50)) none [1],.mk (some 52) (.len (.tmp 51)) none [2],.mk (some 53) (.bin .lss (.tmp 49) (.tmp 52)) none [0,3]]
def l4r10:List AOper :=
  [.mk (some 56) (.mv (.tmp 6)) none [],.mk (some 57) (.load true 2 (.tmp 3)) none [],.mk (some 58) (.mv (.tmp 7)) none [],.mk (some 59) (.call 12 [.tmp 57,.tmp 58]) none [1,2],.mk (some 60) (.len (.tmp 59)) none [3],.mk (some 61) (.bin .add (.tmp 56) (.tmp 60)) none [0,4],.mk (some 6) (.mv (.tmp 61)) none [5,3,0,1,2,3,4,5]]
def l4r11:List AOper :=
  [.mk (some 54) (.mv (.tmp 7)) none [],.mk (some 55) (.bin .add (.tmp 54) (.const (.int .i64 1))) none [0],.mk (some 7) (.mv (.tmp 55)) none [1,0,1]]
def l4r12:List AOper :=
  [.mk (some 62) (.mv (.tmp 5)) none [],.mk (some 63) (.call 15 [.tmp 62]) none [0],.mk (some 64) (.mv (.tmp 63)) none [1,1],.mk (some 65) (.mv (.tmp 5)) (some (64,true)) [2],.mk (some 66) (.load true 2 (.tmp 3)) (some (64,true)) [2],.mk (some 67) (.call 10 [.tmp 66]) (some (64,true)) [4,2,2],.mk (some 68) (.call 16 [.tmp 65,.tmp 67]) (some (64,true)) [3,5,5,2],.mk (some 69) (.pick (.tmp 64) (.tmp 68) (.const (.bool false))) none [2,6],.mk (some 70) (.mv (.tmp 69)) none [7,6],.mk (some 71) (.mv (.tmp 6)) (some (70,true)) [8],.mk (some 72) (.load true 2 (.tmp 3)) (some (70,true)) [8],.mk (some 73) (.call 10 [.tmp 72]) (some (70,true)) [10,8,8],.mk (some 74) (.len (.tmp 73)) (some (70,true)) [11,8],.mk (some 75) (.bin .eql (.tmp 71) (.tmp 74)) (some (70,true)) [9,12,8],.mk (some 76) (.pick (.tmp 70) (.tmp 75) (.const (.bool false))) none [8,13],.mk (some 77) (.mv (.tmp 76)) none [14,11],.mk (some 78) (.mv (.tmp 4)) (some (77,true)) [15],.mk (some 79) (.bin .lss (.tmp 78) (.const (.int .i64 0))) (some (77,true)) [16,15],.mk (some 80) (.mv (.tmp 79)) (some (77,true)) [17,15,15],.mk (some 81) (.fld 1 (.tmp 3)) (some (80,false)) [18],.mk (some 82) (.load false 1 (.tmp 81)) (some (80,false)) [19,18],.mk (some 83) (.mv (.tmp 4)) (some (80,false)) [18],.mk (some 84) (.idxA 5 (.tmp 82) (.tmp 83)) (some (80,false)) [20,21,18],.mk (some 85) (.fld 4 (.tmp 84)) (some (80,false)) [22,18],.mk (some 86) (.load false 1 (.tmp 85)) (some (80,false)) [23,18],.mk (some 87) (.pick (.tmp 80) (.const (.bool true)) (.tmp 86)) (some (77,true)) [18,24,15],.mk (some 88) (.mv (.tmp 87)) (some (77,true)) [25,18,15],.mk (some 89) (.mv (.tmp 5)) (some (88,false)) [26],.mk (some 90) (.len (.tmp 89)) (some (88,false)) [27,26],.mk (some 91) (.bin .eql (.tmp 90) (.const (.int .i64 0))) (some (88,false)) [28,26],.mk (some 92) (.pick (.tmp 88) (.const (.bool true)) (.tmp 91)) (some (77,true)) [26,29,15],.mk (some 93) (.pick (.tmp 77) (.tmp 92) (.const (.bool false))) none [15,30],.mk (some 2) (.mv (.tmp 93)) none [31,26,0,1,2,3,4,5,6,7,8,9,10,11,12,13,14,15,16,17,18,19,20,21,22,23,24,25,26,27,28,29,30,31]]
def l4:AFn :=
  (AFn.mk 94 1 (.seq (.reg l4r0) (.seq (.seq (.reg l4r1) (.cond (.tmp 10) (.seq (.reg l4r2) .ret) .skip)) (.seq (.reg l4r3) (.seq (.reg l4r4) (.seq (.seq (.reg l4r5) (.cond (.tmp 40) (.seq (.reg l4r6) .ret) .skip)) (.seq (.reg l4r7) (.seq (.seq (.reg l4r8) (.block 0 (.loop (.seq (.seq (.reg l4r9) (.cond (.tmp 53) .skip (.exit 0))) (.seq (.block 1 (.reg l4r10)) (.reg l4r11)))))) (.seq (.reg l4r12) .ret)))))))) [.tmp 2])
theorem l4_eq:lowFn Tryd.prog 4=some l4:=by kernel_rfl
def l8r0:List AOper :=
  [.mk (some 1) (.box (.tmp 0)) none [],.mk (some 2) (.mv (.const (.bool false))) none []]
def l8r1:List AOper :=
  [.mk (some 7) (.fld 0 (.tmp 1)) none [],.mk (some 8) (.load false 1 (.tmp 7)) none [0],.mk (some 9) (.call 26 [.tmp 8]) none [1],.mk (some 10) (.un .not (.tmp 9)) none [2],.mk (some 11) (.mv (.tmp 10)) none [3,2],.mk (some 12) (.fld 1 (.tmp 1)) (some (11,false)) [4],.mk (some 13) (.load false 1 (.tmp 12)) (some (11,false)) [5,4],.mk (some 14) (.len (.tmp 13)) (some (11,false)) [6,4],.mk (some 15) (.bin .gtr (.tmp 14) (.const (.int .i64 8))) (some (11,false)) [7,4],.mk (some 16) (.pick (.tmp 11) (.const (.bool true)) (.tmp 15)) none [4,8]]
def l8r2:List AOper :=
  [.mk (some 2) (.mv (.const (.bool false))) none []]
def l8r3:List AOper :=
  [.mk (some 17) (.fld 1 (.tmp 1)) none [],.mk (some 18) (.load false 1 (.tmp 17)) none [0],.mk (some 19) (.len (.tmp 18)) none [1],.mk (some 20) (.mv (.const (.int .i64 0))) none []]
def l8r4:List AOper :=
  [.mk (some 21) (.bin .lss (.tmp 20) (.tmp 19)) none []]
def l8r5:List AOper :=
  [.mk (some 22) (.mv (.tmp 20)) none [],.mk (some 23) (.idxA 5 (.tmp 18) (.tmp 20)) none [],.mk (some 24) (.load true 5 (.tmp 23)) none [1],.mk (some 4) (.alloc [.int .i64 0,.int .i64 0,.slice none 0 0,.slice none 0 0,.bool false]) none [],.mk (some 3) (.mv (.tmp 22)) none [0,0,1,2,3],.mk none (.store 5 (.tmp 4) (.tmp 24)) none [3,2,4,0,1,2,3,4]]
def l8r6:List AOper :=
  [.mk (some 25) (.load true 5 (.tmp 4)) none [],.mk (some 26) (.mv (.tmp 3)) none [],.mk (some 27) (.fld 0 (.tmp 1)) none [],.mk (some 28) (.load false 1 (.tmp 27)) none [2],.mk (some 29) (.len (.tmp 28)) none [3],.mk (some 30) (.call 27 [.tmp 25,.tmp 26,.tmp 29]) none [0,1,4],.mk (some 31) (.un .not (.tmp 30)) none [5]]
def l8r7:List AOper :=
  [.mk (some 2) (.mv (.const (.bool false))) none []]
def l8r8:List AOper :=
  [.mk (some 32) (.bin .add (.tmp 20) (.const (.int .i64 1))) none [],.mk (some 20) (.mv (.tmp 32)) none [0]]
def l8r9:List AOper :=
  [.mk (some 33) (.fld 1 (.tmp 1)) none [],.mk (some 34) (.load false 1 (.tmp 33)) none [0],.mk (some 35) (.len (.tmp 34)) none [1],.mk (some 36) (.mv (.const (.int .i64 0))) none []]
def l8r10:List AOper :=
  [.mk (some 37) (.bin .lss (.tmp 36) (.tmp 35)) none []]
def l8r11:List AOper :=
  [.mk (some 38) (.mv (.tmp 36)) none [],.mk (some 39) (.idxA 5 (.tmp 34) (.tmp 36)) none [],.mk (some 40) (.load true 5 (.tmp 39)) none [1],.mk (some 6) (.alloc [.int .i64 0,.int .i64 0,.slice none 0 0,.slice none 0 0,.bool false]) none [],.mk (some 5) (.mv (.tmp 38)) none [0,0,1,2,3],.mk none (.store 5 (.tmp 6) (.tmp 40)) none [3,2,4,0,1,2,3,4]]
def l8r12a:List AOper :=
  [.mk (some 41) (.fld 4 (.tmp 6)) none [],.mk (some 42) (.load false 1 (.tmp 41)) none [0],.mk (some 43) (.un .not (.tmp 42)) none [1],.mk (some 44) (.mv (.tmp 43)) none [2],.mk (some 45) (.load true 2 (.tmp 1)) (some (44,true)) [3],.mk (some 46) (.mv (.tmp 5)) (some (44,true)) [3],.mk (some 47) (.call 29 [.tmp 45,.tmp 46]) (some (44,true)) [4,5,3,3],.mk (some 48) (.call 30 [.tmp 47]) (some (44,true)) [6,6,3],.mk (some 49) (.load false 1 (.global 0)) (some (44,true)) [3]]
def l8r12b:List AOper :=
  [.mk (some 50) (.call 28 [.tmp 48,.tmp 49]) (some (44,true)) [7,8,7,3],.mk (some 51) (.pick (.tmp 44) (.tmp 50) (.const (.bool false))) none [3,9]]
def l8r12:List AOper:=l8r12a ++ l8r12b
def l8r13:List AOper :=
  [.mk (some 2) (.mv (.const (.bool false))) none []]
def l8r14:List AOper :=
  [.mk (some 52) (.bin .add (.tmp 36) (.const (.int .i64 1))) none [],.mk (some 36) (.mv (.tmp 52)) none [0]]
def l8r15:List AOper :=
  [.mk (some 2) (.mv (.const (.bool true))) none []]
def l8:AFn :=
  (AFn.mk 53 1 (.seq (.reg l8r0) (.seq (.seq (.reg l8r1) (.cond (.tmp 16) (.seq (.reg l8r2) .ret) .skip)) (.seq (.seq (.reg l8r3) (.block 0 (.loop (.seq (.reg l8r4) (.seq (.cond (.tmp 21) .skip (.exit 0)) (.seq (.block 1 (.seq (.reg l8r5) (.seq (.reg l8r6) (.cond (.tmp 31) (.seq (.reg l8r7) .ret) .skip)))) (.reg l8r8))))))) (.seq (.seq (.reg l8r9) (.block 2 (.loop (.seq (.reg l8r10) (.seq (.cond (.tmp 37) .skip (.exit 2)) (.seq (.block 3 (.seq (.reg l8r11) (.seq (.draw l8r12) (.cond (.tmp 51) (.seq (.reg l8r13) .ret) .skip)))) (.reg l8r14))))))) (.seq (.reg l8r15) .ret))))) [.tmp 2])
theorem l8_eq:lowFn Tryd.prog 8=some l8:=by kernel_rfl
def l10r0:List AOper :=
  [.mk (some 1) (.box (.tmp 0)) none [],.mk (some 2) (.mv (.const (.slice none 0 0))) none []]
def l10r1:List AOper :=
  [.mk (some 6) (.load true 2 (.tmp 1)) none [],.mk (some 7) (.call 8 [.tmp 6]) none [0],.mk (some 8) (.un .not (.tmp 7)) none [1]]
def l10r2:List AOper :=
  [.mk (some 2) (.mv (.const (.slice none 0 0))) none []]
def l10r3:List AOper :=
  [.mk (some 3) (.mv (.const (.slice none 0 0))) none []]
def l10r4:List AOper :=
  [.mk (some 9) (.fld 1 (.tmp 1)) none [],.mk (some 10) (.load false 1 (.tmp 9)) none [0],.mk (some 11) (.len (.tmp 10)) none [1],.mk (some 12) (.mv (.const (.int .i64 0))) none []]
def l10r5:List AOper :=
  [.mk (some 13) (.bin .lss (.tmp 12) (.tmp 11)) none []]
def l10r6:List AOper :=
  [.mk (some 14) (.mv (.tmp 12)) none [],.mk (some 15) (.idxA 5 (.tmp 10) (.tmp 12)) none [],.mk (some 16) (.load true 5 (.tmp 15)) none [1],.mk (some 5) (.alloc [.int .i64 0,.int .i64 0,.slice none 0 0,.slice none 0 0,.bool false]) none [],.mk (some 4) (.mv (.tmp 14)) none [0,0,1,2,3],.mk none (.store 5 (.tmp 5) (.tmp 16)) none [3,2,4,0,1,2,3,4]]
def l10r7:List AOper :=
  [.mk (some 17) (.fld 4 (.tmp 5)) none [],.mk (some 18) (.load false 1 (.tmp 17)) none [0]]
def l10r8:List AOper :=
  [.mk (some 19) (.mv (.tmp 3)) none [],.mk (some 20) (.mv (.tmp 4)) none [],.mk (some 21) (.bslice 1 [.int .i64 0] [(0,.tmp 20)] 1) none [1],.mk (some 22) (.append 1 (.tmp 19) (.tmp 21)) none [0,2],.mk (some 3) (.mv (.tmp 22)) none [3,3,0,1,2,3]]
def l10r9:List AOper :=
  [.mk (some 23) (.bin .add (.tmp 12) (.const (.int .i64 1))) none [],.mk (some 12) (.mv (.tmp 23)) none [0]]
def l10r10:List AOper :=
  [.mk (some 24) (.mv (.tmp 3)) none [],.mk (some 2) (.mv (.tmp 24)) none [0,0]]
def l10:AFn :=
  (AFn.mk 25 1 (.seq (.reg l10r0) (.seq (.seq (.reg l10r1) (.cond (.tmp 8) (.seq (.reg l10r2) .ret) .skip)) (.seq (.reg l10r3) (.seq (.seq (.reg l10r4) (.block 0 (.loop (.seq (.reg l10r5) (.seq (.cond (.tmp 13) .skip (.exit 0)) (.seq (.block 1 (.seq (.reg l10r6) (.seq (.reg l10r7) (.cond (.tmp 18) (.reg l10r8) .skip)))) (.reg l10r9))))))) (.seq (.reg l10r10) .ret))))) [.tmp 2])
theorem l10_eq:lowFn Tryd.prog 10=some l10:=by kernel_rfl
def l11r0:List AOper :=
  [.mk (some 2) (.alloc [.slice none 0 0,.slice none 0 0]) none [],.mk (some 3) (.mv (.const (.int .i64 0))) none []]
def l11r1:List AOper :=
  [.mk (some 4) (.mv (.tmp 0)) none [],.mk (some 5) (.call 25 [.tmp 4]) none [0],.mk (some 6) (.call 32 [.tmp 5]) none [1,1],.mk (some 7) (.extract (.tmp 6) 0) none [2],.mk (some 8) (.extract (.tmp 6) 1) none [2],.mk none (.store 2 (.tmp 2) (.tmp 7)) none [3,2,0,1,2,3,4],.mk (some 3) (.mv (.tmp 8)) none [4,5,0,1,2,3,4,5]]
def l11:AFn :=
  (AFn.mk 9 1 (.seq (.reg l11r0) (.seq (.reg l11r1) .ret)) [.cell 2 true 2,.tmp 3])
theorem l11_eq:lowFn Tryd.prog 11=some l11:=by kernel_rfl
def l12r0:List AOper :=
  [.mk (some 2) (.box (.tmp 0)) none [],.mk (some 4) (.mv (.const (.slice none 0 0))) none []]
def l12r1:List AOper :=
  [.mk (some 5) (.load true 2 (.tmp 2)) none [],.mk (some 6) (.call 8 [.tmp 5]) none [0],.mk (some 7) (.un .not (.tmp 6)) none [1],.mk (some 8) (.mv (.tmp 7)) none [2,1],.mk (some 9) (.mv (.tmp 1)) (some (8,false)) [3],.mk (some 10) (.bin .lss (.tmp 9) (.const (.int .i64 (-1)))) (some (8,false)) [4,3],.mk (some 11) (.pick (.tmp 8) (.const (.bool true)) (.tmp 10)) none [3,5],.mk (some 12) (.mv (.tmp 11)) none [6,3],.mk (some 13) (.mv (.tmp 1)) (some (12,false)) [7],.mk (some 14) (.fld 1 (.tmp 2)) (some (12,false)) [7],.mk (some 15) (.load false 1 (.tmp 14)) (some (12,false)) [9,7],.mk (some 16) (.len (.tmp 15)) (some (12,false)) [10,7],.mk (some 17) (.bin .geq (.tmp 13) (.tmp 16)) (some (12,false)) [8,11,7],.mk (some 18) (.pick (.tmp 12) (.const (.bool true)) (.tmp 17)) none [7,12]]
def l12r2:List AOper :=
  [.mk (some 4) (.mv (.const (.slice none 0 0))) none []]
def l12r3:List AOper :=
  [.mk (some 19) (.load true 2 (.tmp 2)) none [],.mk (some 20) (.mv (.tmp 1)) none [],.mk (some 21) (.call 29 [.tmp 19,.tmp 20]) none [0,1],.mk (some 22) (.nilck (.tmp 21)) none [2],.mk (some 23) (.fld 0 (.tmp 22)) none [3],.mk (some 24) (.load false 1 (.tmp 23)) none [4],.mk (some 4) (.mv (.tmp 24)) none [5,2,0,1,2,3,4,5]]
def l12:AFn :=
  (AFn.mk 25 2 (.seq (.reg l12r0) (.seq (.seq (.reg l12r1) (.cond (.tmp 18) (.seq (.reg l12r2) .ret) .skip)) (.seq (.reg l12r3) .ret))) [.tmp 4])
theorem l12_eq:lowFn Tryd.prog 12=some l12:=by kernel_rfl
def l13r0:List AOper :=
  [.mk (some 4) (.mv (.const (.bool false))) none []]
def l13r1:List AOper :=
  [.mk (some 6) (.mv (.tmp 0)) none [],.mk (some 7) (.len (.tmp 6)) none [0],.mk (some 8) (.mv (.tmp 1)) none [],.mk (some 9) (.len (.tmp 8)) none [2],.mk (some 10) (.bin .neq (.tmp 7) (.tmp 9)) none [1,3]]
def l13r2:List AOper :=
  [.mk (some 4) (.mv (.const (.bool false))) none []]
def l13r3:List AOper :=
  [.mk (some 5) (.mv (.const (.int .i64 0))) none []]
def l13r4:List AOper :=
  [.mk (some 11) (.mv (.tmp 5)) none [],.mk (some 12) (.mv (.tmp 0)) none [],.mk (some 13) (.len (.tmp 12)) none [1],.mk (some 14) (.bin .lss (.tmp 11) (.tmp 13)) none [0,2]]
def l13r5a:List AOper :=
  [.mk (some 17) (.mv (.tmp 0)) none [],.mk (some 18) (.mv (.tmp 5)) none [],.mk (some 19) (.idxA 1 (.tmp 17) (.tmp 18)) none [0,1],.mk (some 20) (.load false 1 (.tmp 19)) none [2],.mk (some 21) (.mv (.tmp 1)) none [],.mk (some 22) (.mv (.tmp 5)) none [],.mk (some 23) (.idxA 1 (.tmp 21) (.tmp 22)) none [4,5],.mk (some 24) (.load false 1 (.tmp 23)) none [6]]
def l13r5b:List AOper :=
  [.mk (some 25) (.bin .neq (.tmp 20) (.tmp 24)) none [3,7]]
def l13r5:List AOper:=l13r5a ++ l13r5b
def l13r6:List AOper :=
  [.mk (some 4) (.mv (.const (.bool false))) none []]
def l13r7:List AOper :=
  [.mk (some 15) (.mv (.tmp 5)) none [],.mk (some 16) (.bin .add (.tmp 15) (.const (.int .i64 1))) none [0],.mk (some 5) (.mv (.tmp 16)) none [1,0,1]]
def l13r8:List AOper :=
  [.mk (some 4) (.mv (.const (.bool true))) none []]
def l13:AFn :=
  (AFn.mk 26 2 (.seq (.reg l13r0) (.seq (.seq (.reg l13r1) (.cond (.tmp 10) (.seq (.reg l13r2) .ret) .skip)) (.seq (.seq (.reg l13r3) (.block 0 (.loop (.seq (.seq (.reg l13r4) (.cond (.tmp 14) .skip (.exit 0))) (.seq (.block 1 (.seq (.draw l13r5) (.cond (.tmp 25) (.seq (.reg l13r6) .ret) .skip))) (.reg l13r7)))))) (.seq (.reg l13r8) .ret)))) [.tmp 4])
theorem l13_eq:lowFn Tryd.prog 13=some l13:=by kernel_rfl
def l14r0:List AOper :=
  [.mk (some 2) (.box (.tmp 0)) none [],.mk (some 4) (.mv (.const (.slice none 0 0))) none []]
def l14r1:List AOper :=
  [.mk (some 5) (.load true 2 (.tmp 2)) none [],.mk (some 6) (.call 31 [.tmp 5]) none [0],.mk (some 7) (.un .not (.tmp 6)) none [1],.mk (some 8) (.mv (.tmp 7)) none [2,1],.mk (some 9) (.mv (.tmp 1)) (some (8,false)) [3],.mk (some 10) (.fld 1 (.tmp 2)) (some (8,false)) [3],.mk (some 11) (.load false 1 (.tmp 10)) (some (8,false)) [5,3],.mk (some 12) (.len (.tmp 11)) (some (8,false)) [6,3],.mk (some 13) (.bin .sub (.tmp 12) (.const (.int .i64 1))) (some (8,false)) [7,3],.mk (some 14) (.call 33 [.tmp 9,.const (.int .i64 (-1)),.tmp 13]) (some (8,false)) [4,8,3,3],.mk (some 15) (.un .not (.tmp 14)) (some (8,false)) [9,3],.mk (some 16) (.pick (.tmp 8) (.const (.bool true)) (.tmp 15)) none [3,10]]
def l14r2:List AOper :=
  [.mk (some 4) (.mv (.const (.slice none 0 0))) none []]
def l14r3:List AOper :=
  [.mk (some 17) (.load true 2 (.tmp 2)) none [],.mk (some 18) (.mv (.tmp 1)) none [],.mk (some 19) (.call 34 [.tmp 17,.tmp 18]) none [0,1],.mk (some 4) (.mv (.tmp 19)) none [2,2,0,1,2]]
def l14:AFn :=
  (AFn.mk 20 2 (.seq (.reg l14r0) (.seq (.seq (.reg l14r1) (.cond (.tmp 16) (.seq (.reg l14r2) .ret) .skip)) (.seq (.reg l14r3) .ret))) [.tmp 4])
theorem l14_eq:lowFn Tryd.prog 14=some l14:=by kernel_rfl
def l15r0:List AOper :=
  [.mk (some 2) (.mv (.const (.bool false))) none []]
def l15r1:List AOper :=
  [.mk (some 3) (.mv (.const (.int .i64 1))) none []]
def l15r2:List AOper :=
  [.mk (some 4) (.mv (.tmp 3)) none [],.mk (some 5) (.mv (.tmp 0)) none [],.mk (some 6) (.len (.tmp 5)) none [1],.mk (some 7) (.bin .lss (.tmp 4) (.tmp 6)) none [0,2]]
def l15r3a:List AOper :=
  [.mk (some 10) (.mv (.tmp 0)) none [],.mk (some 11) (.mv (.tmp 3)) none [],.mk (some 12) (.idxA 1 (.tmp 10) (.tmp 11)) none [0,1],.mk (some 13) (.load false 1 (.tmp 12)) none [2],.mk (some 14) (.mv (.tmp 0)) none [],.mk (some 15) (.mv (.tmp 3)) none [],.mk (some 16) (.bin .sub (.tmp 15) (.const (.int .i64 1))) none [5],.mk (some 17) (.idxA 1 (.tmp 14) (.tmp 16)) none [4,6],.mk (some 18) (.load false 1 (.tmp 17)) none [7]]
def l15r3b:List AOper :=
  [.mk (some 19) (.bin .leq (.tmp 13) (.tmp 18)) none [3,8]]
def l15r3:List AOper:=l15r3a ++ l15r3b
def l15r4:List AOper :=
  [.mk (some 2) (.mv (.const (.bool false))) none []]
def l15r5:List AOper :=
  [.mk (some 8) (.mv (.tmp 3)) none [],.mk (some 9) (.bin .add (.tmp 8) (.const (.int .i64 1))) none [0],.mk (some 3) (.mv (.tmp 9)) none [1,0,1]]
def l15r6:List AOper :=
  [.mk (some 2) (.mv (.const (.bool true))) none []]
def l15:AFn :=
  (AFn.mk 20 1 (.seq (.reg l15r0) (.seq (.seq (.reg l15r1) (.block 0 (.loop (.seq (.seq (.reg l15r2) (.cond (.tmp 7) .skip (.exit 0))) (.seq (.block 1 (.seq (.draw l15r3) (.cond (.tmp 19) (.seq (.reg l15r4) .ret) .skip))) (.reg l15r5)))))) (.seq (.reg l15r6) .ret))) [.tmp 2])
theorem l15_eq:lowFn Tryd.prog 15=some l15:=by kernel_rfl
def l16r0:List AOper :=
  [.mk (some 4) (.mv (.const (.bool false))) none []]
def l16r1:List AOper :=
  [.mk (some 5) (.mv (.const (.int .i64 0))) none []]
def l16r2:List AOper :=
  [.mk (some 6) (.mv (.tmp 5)) none [],.mk (some 7) (.mv (.tmp 0)) none [],.mk (some 8) (.len (.tmp 7)) none [1],.mk (some 9) (.bin .lss (.tmp 6) (.tmp 8)) none [0,2]]
def l16r3:List AOper :=
  [.mk (some 12) (.mv (.tmp 1)) none [],.mk (some 13) (.mv (.tmp 0)) none [],.mk (some 14) (.mv (.tmp 5)) none [],.mk (some 15) (.idxA 1 (.tmp 13) (.tmp 14)) none [1,2],.mk (some 16) (.load false 1 (.tmp 15)) none [3],.mk (some 17) (.call 35 [.tmp 12,.tmp 16]) none [0,4],.mk (some 18) (.un .not (.tmp 17)) none [5]]
def l16r4:List AOper :=
  [.mk (some 4) (.mv (.const (.bool false))) none []]
def l16r5:List AOper :=
  [.mk (some 10) (.mv (.tmp 5)) none [],.mk (some 11) (.bin .add (.tmp 10) (.const (.int .i64 1))) none [0],.mk (some 5) (.mv (.tmp 11)) none [1,0,1]]
def l16r6:List AOper :=
  [.mk (some 4) (.mv (.const (.bool true))) none []]
def l16:AFn :=
  (AFn.mk 19 2 (.seq (.reg l16r0) (.seq (.seq (.reg l16r1) (.block 0 (.loop (.seq (.seq (.reg l16r2) (.cond (.tmp 9) .skip (.exit 0))) (.seq (.block 1 (.seq (.reg l16r3) (.cond (.tmp 18) (.seq (.reg l16r4) .ret) .skip))) (.reg l16r5)))))) (.seq (.reg l16r6) .ret))) [.tmp 4])
theorem l16_eq:lowFn Tryd.prog 16=some l16:=by kernel_rfl
def l18r0:List AOper :=
  [.mk (some 1) (.box (.tmp 0)) none [],.mk (some 2) (.mv (.const (.slice none 0 0))) none []]
def l18r1:List AOper :=
  [.mk (some 5) (.load true 2 (.tmp 1)) none [],.mk (some 6) (.call 31 [.tmp 5]) none [0],.mk (some 7) (.un .not (.tmp 6)) none [1]]
def l18r2:List AOper :=
  [.mk (some 2) (.mv (.const (.slice none 0 0))) none []]
def l18r3:List AOper :=
  [.mk (some 8) (.bslice 1 [.int .i64 0] [] 0) none [],.mk (some 3) (.mv (.tmp 8)) none [0,0]]
def l18r4:List AOper :=
  [.mk (some 4) (.mv (.const (.int .i64 0))) none []]
def l18r5:List AOper :=
  [.mk (some 9) (.mv (.tmp 4)) none [],.mk (some 10) (.fld 1 (.tmp 1)) none [],.mk (some 11) (.load false 1 (.tmp 10)) none [1],.mk (some 12) (.len (.tmp 11)) none [2],.mk (some 13) (.bin .lss (.tmp 9) (.tmp 12)) none [0,3]]
def l18r6:List AOper :=
  [.mk (some 16) (.fld 1 (.tmp 1)) none [],.mk (some 17) (.load false 1 (.tmp 16)) none [0],.mk (some 18) (.mv (.tmp 4)) none [],.mk (some 19) (.idxA 5 (.tmp 17) (.tmp 18)) none [1,2],.mk (some 20) (.fld 4 (.tmp 19)) none [3],.mk (some 21) (.load false 1 (.tmp 20)) none [4]]
def l18r7:List AOper :=
  [.mk (some 22) (.mv (.tmp 3)) none [],.mk (some 23) (.mv (.tmp 4)) none [],.mk (some 24) (.bslice 1 [.int .i64 0] [(0,.tmp 23)] 1) none [1],.mk (some 25) (.append 1 (.tmp 22) (.tmp 24)) none [0,2],.mk (some 3) (.mv (.tmp 25)) none [3,3,0,1,2,3]]
def l18r8:List AOper :=
  [.mk (some 14) (.mv (.tmp 4)) none [],.mk (some 15) (.bin .add (.tmp 14) (.const (.int .i64 1))) none [0],.mk (some 4) (.mv (.tmp 15)) none [1,0,1]]
def l18r9:List AOper :=
  [.mk (some 26) (.mv (.tmp 3)) none [],.mk (some 2) (.mv (.tmp 26)) none [0,0]]
def l18:AFn :=
  (AFn.mk 27 1 (.seq (.reg l18r0) (.seq (.seq (.reg l18r1) (.cond (.tmp 7) (.seq (.reg l18r2) .ret) .skip)) (.seq (.reg l18r3) (.seq (.seq (.reg l18r4) (.block 0 (.loop (.seq (.seq (.reg l18r5) (.cond (.tmp 13) .skip (.exit 0))) (.seq (.block 1 (.seq (.reg l18r6) (.cond (.tmp 21) (.reg l18r7) .skip))) (.reg l18r8)))))) (.seq (.reg l18r9) .ret))))) [.tmp 2])
theorem l18_eq:lowFn Tryd.prog 18=some l18:=by kernel_rfl
def l22r0:List AOper :=
  [.mk (some 2) (.box (.tmp 0)) none [],.mk (some 4) (.alloc [.slice none 0 0,.slice none 0 0]) none [],.mk (some 5) (.mv (.const (.bool false))) none []]
def l22r1:List AOper :=
  [.mk (some 8) (.load true 2 (.tmp 2)) none [],.mk (some 9) (.call 31 [.tmp 8]) none [0],.mk (some 10) (.un .not (.tmp 9)) none [1],.mk (some 11) (.mv (.tmp 10)) none [2,1],.mk (some 12) (.mv (.tmp 1)) (some (11,false)) [3],.mk (some 13) (.call 33 [.tmp 12,.const (.int .i64 0),.const (.int .i64 60)]) (some (11,false)) [4,3,3],.mk (some 14) (.un .not (.tmp 13)) (some (11,false)) [5,3],.mk (some 15) (.pick (.tmp 11) (.const (.bool true)) (.tmp 14)) none [3,6],.mk (some 16) (.mv (.tmp 15)) none [7,5],.mk (some 17) (.load true 2 (.tmp 2)) (some (16,false)) [8],.mk (some 18) (.call 18 [.tmp 17]) (some (16,false)) [9,8,8],.mk (some 19) (.len (.tmp 18)) (some (16,false)) [10,8],.mk (some 20) (.bin .gtr (.tmp 19) (.const (.int .i64 0))) (some (16,false)) [11,8],.mk (some 21) (.pick (.tmp 16) (.const (.bool true)) (.tmp 20)) none [8,12]]
def l22r2:List AOper :=
  [.mk (some 22) (.build [.slice none 0 0,.slice none 0 0] []) none [],.mk none (.store 2 (.tmp 4) (.tmp 22)) none [0,0],.mk (some 5) (.mv (.const (.bool false))) none [1,0,1]]
def l22r3:List AOper :=
  [.mk (some 23) (.load true 2 (.tmp 2)) none [],.mk (some 24) (.call 42 [.tmp 23]) none [0],.mk (some 6) (.alloc [.slice none 0 0,.slice none 0 0]) none [],.mk none (.store 2 (.tmp 6) (.tmp 24)) none [2,1,1,0,1,2]]
def l22r4:List AOper :=
  [.mk (some 25) (.mv (.tmp 1)) none [],.mk (some 26) (.mkslice 1 [.int .i64 0] (.tmp 25) (.tmp 25)) none [0,0],.mk (some 27) (.fld 0 (.tmp 6)) none [0,1],.mk none (.store 1 (.tmp 27) (.tmp 26)) none [2,1,0,1]]
def l22r5:List AOper :=
  [.mk (some 7) (.mv (.const (.int .i64 0))) none []]
def l22r6:List AOper :=
  [.mk (some 28) (.mv (.tmp 7)) none [],.mk (some 29) (.mv (.tmp 1)) none [],.mk (some 30) (.bin .lss (.tmp 28) (.tmp 29)) none [0,1],.mk (some 31) (.mv (.tmp 30)) none [2],.mk (some 32) (.mv (.tmp 7)) (some (31,true)) [3],.mk (some 33) (.fld 0 (.tmp 2)) (some (31,true)) [3],.mk (some 34) (.load false 1 (.tmp 33)) (some (31,true)) [5,3],.mk (some 35) (.len (.tmp 34)) (some (31,true)) [6,3],.mk (some 36) (.bin .lss (.tmp 32) (.tmp 35)) (some (31,true)) [4,7,3],.mk (some 37) (.pick (.tmp 31) (.tmp 36) (.const (.bool false))) none [3,8]]
def l22r7a:List AOper :=
  [.mk (some 40) (.fld 0 (.tmp 6)) none [],.mk (some 41) (.load false 1 (.tmp 40)) none [0],.mk (some 42) (.mv (.tmp 7)) none [],.mk (some 43) (.fld 0 (.tmp 2)) none [],.mk (some 44) (.load false 1 (.tmp 43)) none [3],.mk (some 45) (.mv (.tmp 7)) none [],.mk (some 46) (.idxA 1 (.tmp 44) (.tmp 45)) none [4,5],.mk (some 47) (.load false 1 (.tmp 46)) none [6]]
def l22r7b:List AOper :=
  [.mk (some 48) (.idxA 1 (.tmp 41) (.tmp 42)) none [1,2,0,1,2,3,4,5,6,7],.mk none (.store 1 (.tmp 48) (.tmp 47)) none [8,7,0,1,2,3,4,5,6,7]]
def l22r7:List AOper:=l22r7a ++ l22r7b
def l22r8:List AOper :=
  [.mk (some 38) (.mv (.tmp 7)) none [],.mk (some 39) (.bin .add (.tmp 38) (.const (.int .i64 1))) none [0],.mk (some 7) (.mv (.tmp 39)) none [1,0,1]]
def l22r9:List AOper :=
  [.mk (some 49) (.load true 2 (.tmp 6)) none [],.mk none (.store 2 (.tmp 4) (.tmp 49)) none [0,0],.mk (some 5) (.mv (.const (.bool true))) none [1,0,1]]
def l22:AFn :=
  (AFn.mk 50 2 (.seq (.reg l22r0) (.seq (.seq (.reg l22r1) (.cond (.tmp 21) (.seq (.reg l22r2) .ret) .skip)) (.seq (.reg l22r3) (.seq (.reg l22r4) (.seq (.seq (.reg l22r5) (.block 0 (.loop (.seq (.seq (.reg l22r6) (.cond (.tmp 37) .skip (.exit 0))) (.seq (.block 1 (.draw l22r7)) (.reg l22r8)))))) (.seq (.reg l22r9) .ret)))))) [.cell 4 true 2,.tmp 5])
theorem l22_eq:lowFn Tryd.prog 22=some l22:=by kernel_rfl
def l24r0:List AOper :=
  [.mk (some 2) (.alloc [.slice none 0 0,.slice none 0 0]) none []]
def l24r1:List AOper :=
  [.mk (some 4) (.mv (.tmp 0)) none [],.mk (some 5) (.call 44 [.tmp 4]) none [0],.mk (some 3) (.alloc [.slice none 0 0,.slice none 0 0]) none [],.mk none (.store 2 (.tmp 3) (.tmp 5)) none [2,1,1,0,1,2]]
def l24r2:List AOper :=
  [.mk (some 6) (.mv (.tmp 0)) none [],.mk (some 7) (.call 40 [.tmp 6,.const (.int .i64 20)]) none [0]]
def l24r3:List AOper :=
  [.mk (some 9) (.bin .eql (.tmp 7) (.const (.int .i64 0))) none [],.mk (some 8) (.mv (.tmp 9)) none [0]]
def l24r4:List AOper :=
  [.mk (some 10) (.fld 0 (.tmp 3)) none [],.mk (some 11) (.load false 1 (.tmp 10)) none [0],.mk (some 12) (.bslice 1 [.int .i64 0] [(0,.const (.int .i64 256))] 1) none [],.mk (some 13) (.append 1 (.tmp 11) (.tmp 12)) none [1,2],.mk (some 14) (.fld 0 (.tmp 3)) none [0,1,2,3],.mk none (.store 1 (.tmp 14) (.tmp 13)) none [4,3,3,0,1,2,3]]
def l24r5:List AOper :=
  [.mk (some 16) (.bin .eql (.tmp 7) (.const (.int .i64 1))) none [],.mk (some 15) (.mv (.tmp 16)) none [0]]
def l24r6a:List AOper :=
  [.mk (some 17) (.fld 1 (.tmp 3)) none [],.mk (some 18) (.load false 1 (.tmp 17)) none [0],.mk (some 19) (.mv (.tmp 0)) none [],.mk (some 20) (.bslice 1 [.int .i64 0] [(0,.const (.int .i64 (-2))),(1,.const (.int .i64 8))] 2) none [],.mk (some 21) (.call 41 [.tmp 19,.tmp 20]) none [2,3],.mk (some 22) (.build [.int .i64 0,.int .i64 0,.slice none 0 0,.slice none 0 0,.bool false] [(0,1,.tmp 21),(4,1,.const (.bool true))]) none [4],.mk (some 23) (.bslice 5 [.int .i64 0,.int .i64 0,.slice none 0 0,.slice none 0 0,.bool false] [(0,.tmp 22)] 1) none [5]]
def l24r6b:List AOper :=
  [.mk (some 24) (.append 5 (.tmp 18) (.tmp 23)) none [1,6,4],.mk (some 25) (.fld 1 (.tmp 3)) none [0,1,2,3,4,5,6,7],.mk none (.store 1 (.tmp 25) (.tmp 24)) none [8,7,7,0,1,2,3,4,5,6,7]]
def l24r6:List AOper:=l24r6a ++ l24r6b
def l24r7:List AOper :=
  [.mk (some 27) (.bin .eql (.tmp 7) (.const (.int .i64 2))) none [],.mk (some 26) (.mv (.tmp 27)) none [0]]
def l24r8:List AOper :=
  [.mk (some 28) (.fld 1 (.tmp 3)) none [],.mk (some 29) (.load false 1 (.tmp 28)) none [0],.mk (some 30) (.build [.int .i64 0,.slice none 0 0,.slice none 0 0] [(0,1,.const (.int .i64 59))]) none [],.mk (some 31) (.build [.int .i64 0,.int .i64 0,.slice none 0 0,.slice none 0 0,.bool false] [(0,1,.const (.int .i64 (-1))),(1,3,.tmp 30),(4,1,.const (.bool true))]) none [2],.mk (some 32) (.bslice 5 [.int .i64 0,.int .i64 0,.slice none 0 0,.slice none 0 0,.bool false] [(0,.tmp 31)] 1) none [3],.mk (some 33) (.append 5 (.tmp 29) (.tmp 32)) none [1,4],.mk (some 34) (.fld 1 (.tmp 3)) none [0,1,2,3,4,5],.mk none (.store 1 (.tmp 34) (.tmp 33)) none [6,5,5,0,1,2,3,4,5]]
def l24r9:List AOper :=
  [.mk (some 35) (.load true 2 (.tmp 3)) none [],.mk none (.store 2 (.tmp 2) (.tmp 35)) none [0,0]]
def l24:AFn :=
  (AFn.mk 36 1 (.seq (.reg l24r0) (.seq (.reg l24r1) (.seq (.seq (.reg l24r2) (.block 0 (.seq (.reg l24r3) (.cond (.tmp 8) (.reg l24r4) (.seq (.reg l24r5) (.cond (.tmp 15) (.draw l24r6) (.seq (.reg l24r7) (.cond (.tmp 26) (.reg l24r8) .skip)))))))) (.seq (.reg l24r9) .ret)))) [.cell 2 true 2])
theorem l24_eq:lowFn Tryd.prog 24=some l24:=by kernel_rfl
def l25r0:List AOper :=
  [.mk (some 2) (.mv (.const (.pointer none))) none []]
def l25r1:List AOper :=
  [.mk (some 3) (.mv (.tmp 0)) none [],.mk (some 4) (.len (.tmp 3)) none [0],.mk (some 5) (.bin .gtr (.tmp 4) (.const (.int .i64 2000))) none [1]]
def l25r2:List AOper :=
  [.mk (some 6) (.mv (.tmp 0)) none [],.mk (some 7) (.slice 1 (.tmp 6) none (some (.const (.int .i64 2000)))) none [0],.mk (some 0) (.mv (.tmp 7)) none [1,0,1]]
def l25r3:List AOper :=
  [.mk (some 8) (.mv (.tmp 0)) none [],.mk (some 9) (.build [.slice none 0 0,.int .i64 0] [(0,1,.tmp 8)]) none [0],.mk (some 10) (.box (.tmp 9)) none [1],.mk (some 2) (.mv (.tmp 10)) none [2,0,1,2]]
def l25:AFn :=
  (AFn.mk 11 1 (.seq (.reg l25r0) (.seq (.seq (.reg l25r1) (.cond (.tmp 5) (.reg l25r2) .skip)) (.seq (.reg l25r3) .ret))) [.tmp 2])
theorem l25_eq:lowFn Tryd.prog 25=some l25:=by kernel_rfl
def l26r0:List AOper :=
  [.mk (some 2) (.mv (.const (.bool false))) none []]
def l26r1:List AOper :=
  [.mk (some 3) (.mv (.tmp 0)) none [],.mk (some 4) (.len (.tmp 3)) none [0],.mk (some 5) (.call 38 [.tmp 4]) none [1],.mk (some 6) (.mv (.tmp 5)) none [2,2],.mk (some 7) (.mv (.tmp 0)) (some (6,true)) [3],.mk (some 8) (.call 45 [.tmp 7]) (some (6,true)) [4,3,3],.mk (some 9) (.pick (.tmp 6) (.tmp 8) (.const (.bool false))) none [3,5],.mk (some 2) (.mv (.tmp 9)) none [6,5,0,1,2,3,4,5,6]]
def l26:AFn :=
  (AFn.mk 10 1 (.seq (.reg l26r0) (.seq (.reg l26r1) .ret)) [.tmp 2])
theorem l26_eq:lowFn Tryd.prog 26=some l26:=by kernel_rfl
def l27r0:List AOper :=
  [.mk (some 3) (.box (.tmp 0)) none [],.mk (some 6) (.mv (.const (.bool false))) none []]
def l27r1:List AOper :=
  [.mk (some 7) (.fld 1 (.tmp 3)) none [],.mk (some 8) (.load true 3 (.tmp 7)) none [0],.mk (some 9) (.call 46 [.tmp 8]) none [1],.mk (some 10) (.un .not (.tmp 9)) none [2],.mk (some 11) (.mv (.tmp 10)) none [3,2],.mk (some 12) (.fld 0 (.tmp 3)) (some (11,false)) [4],.mk (some 13) (.load false 1 (.tmp 12)) (some (11,false)) [5,4],.mk (some 14) (.bin .lss (.tmp 13) (.const (.int .i64 (-1)))) (some (11,false)) [6,4],.mk (some 15) (.pick (.tmp 11) (.const (.bool true)) (.tmp 14)) none [4,7],.mk (some 16) (.mv (.tmp 15)) none [8,4],.mk (some 17) (.fld 0 (.tmp 3)) (some (16,false)) [9],.mk (some 18) (.load false 1 (.tmp 17)) (some (16,false)) [10,9],.mk (some 19) (.mv (.tmp 1)) (some (16,false)) [9],.mk (some 20) (.bin .geq (.tmp 18) (.tmp 19)) (some (16,false)) [11,12,9],.mk (some 21) (.pick (.tmp 16) (.const (.bool true)) (.tmp 20)) none [9,13]]
def l27r2:List AOper :=
  [.mk (some 6) (.mv (.const (.bool false))) none []]
def l27r3:List AOper :=
  [.mk (some 22) (.fld 4 (.tmp 3)) none [],.mk (some 23) (.load false 1 (.tmp 22)) none [0],.mk (some 24) (.un .not (.tmp 23)) none [1],.mk (some 25) (.mv (.tmp 24)) none [2],.mk (some 26) (.fld 1 (.tmp 3)) (some (25,false)) [3],.mk (some 27) (.load true 3 (.tmp 26)) (some (25,false)) [4,3],.mk (some 28) (.mv (.tmp 2)) (some (25,false)) [3],.mk (some 29) (.call 47 [.tmp 27,.tmp 28]) (some (25,false)) [5,6,3,3],.mk (some 30) (.pick (.tmp 25) (.const (.bool true)) (.tmp 29)) none [3,7],.mk (some 6) (.mv (.tmp 30)) none [8,7,0,1,2,3,4,5,6,7,8]]
def l27:AFn :=
  (AFn.mk 31 3 (.seq (.reg l27r0) (.seq (.seq (.reg l27r1) (.cond (.tmp 21) (.seq (.reg l27r2) .ret) .skip)) (.seq (.reg l27r3) .ret))) [.tmp 6])
theorem l27_eq:lowFn Tryd.prog 27=some l27:=by kernel_rfl
def l28r0:List AOper :=
  [.mk (some 4) (.mv (.const (.bool false))) none []]
def l28r1:List AOper :=
  [.mk (some 6) (.mv (.tmp 0)) none [],.mk (some 7) (.bin .eql (.tmp 6) (.const .nilIface)) none [0],.mk (some 8) (.mv (.tmp 7)) none [1],.mk (some 9) (.mv (.tmp 1)) (some (8,false)) [2],.mk (some 10) (.bin .eql (.tmp 9) (.const .nilIface)) (some (8,false)) [3,2],.mk (some 11) (.pick (.tmp 8) (.const (.bool true)) (.tmp 10)) none [2,4]]
def l28r2:List AOper :=
  [.mk (some 12) (.mv (.tmp 0)) none [],.mk (some 13) (.mv (.tmp 1)) none [],.mk (some 14) (.bin .eql (.tmp 12) (.tmp 13)) none [0,1],.mk (some 4) (.mv (.tmp 14)) none [2,0,1,2]]
def l28r3:List AOper :=
  [.mk (some 15) (.mv (.tmp 1)) none [],.mk (some 16) (.raw (Op.call (Call.mk (Callee.value (.func 48)) (Array.mk [.tmp 15]) (Array.mk [20])))) none [0],.mk (some 17) (.raw (Op.call (Call.mk (Callee.invoke (.tmp 16) "Comparable") (Array.mk []) (Array.mk [])))) none [1,1],.mk (some 5) (.mv (.tmp 17)) none [2,2,0,1,2]]
def l28r4:List AOper :=
  [.mk (some 18) (.mv (.tmp 0)) none [],.mk (some 19) (.mv (.tmp 1)) none [],.mk (some 20) (.mv (.tmp 5)) none [],.mk (some 21) (.call 49 [.tmp 18,.tmp 19,.tmp 20]) none [0,1,2],.mk (some 4) (.mv (.tmp 21)) none [3,3,0,1,2,3]]
def l28:AFn :=
  (AFn.mk 22 2 (.seq (.reg l28r0) (.seq (.seq (.reg l28r1) (.cond (.tmp 11) (.seq (.reg l28r2) .ret) .skip)) (.seq (.reg l28r3) (.seq (.reg l28r4) .ret)))) [.tmp 4])
theorem l28_eq:lowFn Tryd.prog 28=some l28:=by kernel_rfl
def l29r0:List AOper :=
  [.mk (some 2) (.box (.tmp 0)) none [],.mk (some 4) (.mv (.const (.pointer none))) none []]
def l29r1:List AOper :=
  [.mk (some 10) (.build [.slice none 0 0] []) none [],.mk (some 11) (.box (.tmp 10)) none [0],.mk (some 5) (.mv (.tmp 11)) none [1,0,1]]
def l29r2:List AOper :=
  [.mk (some 6) (.mv (.const (.slice none 0 0))) none []]
def l29r3:List AOper :=
  [.mk (some 12) (.fld 1 (.tmp 2)) none [],.mk (some 13) (.load false 1 (.tmp 12)) none [0],.mk (some 14) (.len (.tmp 13)) none [1],.mk (some 15) (.mv (.const (.int .i64 0))) none []]
def l29r4:List AOper :=
  [.mk (some 16) (.bin .lss (.tmp 15) (.tmp 14)) none []]
def l29r5:List AOper :=
  [.mk (some 17) (.mv (.tmp 15)) none [],.mk (some 18) (.idxA 5 (.tmp 13) (.tmp 15)) none [],.mk (some 19) (.load true 5 (.tmp 18)) none [1],.mk (some 8) (.alloc [.int .i64 0,.int .i64 0,.slice none 0 0,.slice none 0 0,.bool false]) none [],.mk (some 7) (.mv (.tmp 17)) none [0,0,1,2,3],.mk none (.store 5 (.tmp 8) (.tmp 19)) none [3,2,4,0,1,2,3,4]]
def l29r6:List AOper :=
  [.mk (some 20) (.mv (.tmp 5)) none [],.mk (some 9) (.mv (.tmp 20)) none [0,0]]
def l29r7:List AOper :=
  [.mk (some 21) (.fld 0 (.tmp 8)) none [],.mk (some 22) (.load false 1 (.tmp 21)) none [0],.mk (some 23) (.bin .neq (.tmp 22) (.const (.int .i64 (-1)))) none [1]]
def l29r8:List AOper :=
  [.mk (some 24) (.mv (.tmp 6)) none [],.mk (some 25) (.fld 0 (.tmp 8)) none [],.mk (some 26) (.load false 1 (.tmp 25)) none [1],.mk (some 27) (.idxA 1 (.tmp 24) (.tmp 26)) none [0,2],.mk (some 28) (.load false 1 (.tmp 27)) none [3],.mk (some 9) (.mv (.tmp 28)) none [4,0,1,2,3,4]]
def l29r9:List AOper :=
  [.mk (some 29) (.mv (.tmp 6)) none [],.mk (some 30) (.mv (.tmp 9)) none [],.mk (some 31) (.mv (.tmp 7)) none [],.mk (some 32) (.fld 4 (.tmp 8)) none [],.mk (some 33) (.load false 1 (.tmp 32)) none [3],.mk (some 34) (.call 50 [.tmp 30,.tmp 31,.tmp 33]) none [1,2,4],.mk (some 35) (.bslice 1 [.pointer none] [(0,.tmp 34)] 1) none [5],.mk (some 36) (.append 1 (.tmp 29) (.tmp 35)) none [0,6,5],.mk (some 6) (.mv (.tmp 36)) none [7,7,0,1,2,3,4,5,6,7]]
def l29r10:List AOper :=
  [.mk (some 37) (.bin .add (.tmp 15) (.const (.int .i64 1))) none [],.mk (some 15) (.mv (.tmp 37)) none [0]]
def l29r11:List AOper :=
  [.mk (some 38) (.mv (.tmp 1)) none [],.mk (some 39) (.bin .eql (.tmp 38) (.const (.int .i64 (-1)))) none [0]]
def l29r12:List AOper :=
  [.mk (some 40) (.mv (.tmp 5)) none [],.mk (some 4) (.mv (.tmp 40)) none [0,0]]
def l29r13:List AOper :=
  [.mk (some 41) (.mv (.tmp 6)) none [],.mk (some 42) (.mv (.tmp 1)) none [],.mk (some 43) (.idxA 1 (.tmp 41) (.tmp 42)) none [0,1],.mk (some 44) (.load false 1 (.tmp 43)) none [2],.mk (some 4) (.mv (.tmp 44)) none [3,0,1,2,3]]
def l29:AFn :=
  (AFn.mk 45 2 (.seq (.reg l29r0) (.seq (.reg l29r1) (.seq (.reg l29r2) (.seq (.seq (.reg l29r3) (.block 0 (.loop (.seq (.reg l29r4) (.seq (.cond (.tmp 16) .skip (.exit 0)) (.seq (.block 1 (.seq (.reg l29r5) (.seq (.reg l29r6) (.seq (.seq (.reg l29r7) (.cond (.tmp 23) (.reg l29r8) .skip)) (.reg l29r9))))) (.reg l29r10))))))) (.seq (.seq (.reg l29r11) (.cond (.tmp 39) (.seq (.reg l29r12) .ret) .skip)) (.seq (.reg l29r13) .ret)))))) [.tmp 4])
theorem l29_eq:lowFn Tryd.prog 29=some l29:=by kernel_rfl
def l30r0:List AOper :=
  [.mk (some 2) (.mv (.const .nilIface)) none []]
def l30r1:List AOper :=
  [.mk (some 3) (.mv (.tmp 0)) none [],.mk (some 4) (.nilck (.tmp 3)) none [0],.mk (some 5) (.fld 0 (.tmp 4)) none [1],.mk (some 6) (.load false 1 (.tmp 5)) none [2],.mk (some 7) (.len (.tmp 6)) none [3],.mk (some 8) (.bin .gtr (.tmp 7) (.const (.int .i64 0))) none [4]]
def l30r2:List AOper :=
  [.mk (some 9) (.load false 1 (.global 0)) none [],.mk (some 2) (.mv (.tmp 9)) none [0,0]]
def l30r3:List AOper :=
  [.mk (some 2) (.mv (.const .nilIface)) none []]
def l30:AFn :=
  (AFn.mk 10 1 (.seq (.reg l30r0) (.seq (.seq (.reg l30r1) (.cond (.tmp 8) (.seq (.reg l30r2) .ret) .skip)) (.seq (.reg l30r3) .ret))) [.tmp 2])
theorem l30_eq:lowFn Tryd.prog 30=some l30:=by kernel_rfl
def l31r0:List AOper :=
  [.mk (some 1) (.box (.tmp 0)) none [],.mk (some 2) (.mv (.const (.bool false))) none []]
def l31r1:List AOper :=
  [.mk (some 3) (.mv (.const (.int .i64 0))) none []]
def l31r2:List AOper :=
  [.mk (some 4) (.mv (.tmp 3)) none [],.mk (some 5) (.fld 1 (.tmp 1)) none [],.mk (some 6) (.load false 1 (.tmp 5)) none [1],.mk (some 7) (.len (.tmp 6)) none [2],.mk (some 8) (.bin .lss (.tmp 4) (.tmp 7)) none [0,3]]
def l31r3:List AOper :=
  [.mk (some 11) (.load true 2 (.tmp 1)) none [],.mk (some 12) (.mv (.tmp 3)) none [],.mk (some 13) (.call 51 [.tmp 11,.tmp 12]) none [0,1],.mk (some 14) (.un .not (.tmp 13)) none [2]]
def l31r4:List AOper :=
  [.mk (some 2) (.mv (.const (.bool false))) none []]
def l31r5:List AOper :=
  [.mk (some 9) (.mv (.tmp 3)) none [],.mk (some 10) (.bin .add (.tmp 9) (.const (.int .i64 1))) none [0],.mk (some 3) (.mv (.tmp 10)) none [1,0,1]]
def l31r6:List AOper :=
  [.mk (some 15) (.fld 0 (.tmp 1)) none [],.mk (some 16) (.load false 1 (.tmp 15)) none [0],.mk (some 17) (.call 52 [.tmp 16]) none [1],.mk (some 18) (.mv (.tmp 17)) none [2,2],.mk (some 19) (.fld 1 (.tmp 1)) (some (18,true)) [3],.mk (some 20) (.load false 1 (.tmp 19)) (some (18,true)) [4,3],.mk (some 21) (.len (.tmp 20)) (some (18,true)) [5,3],.mk (some 22) (.bin .leq (.tmp 21) (.const (.int .i64 8))) (some (18,true)) [6,3],.mk (some 23) (.pick (.tmp 18) (.tmp 22) (.const (.bool false))) none [3,7],.mk (some 2) (.mv (.tmp 23)) none [8,3,0,1,2,3,4,5,6,7,8]]
def l31:AFn :=
  (AFn.mk 24 1 (.seq (.reg l31r0) (.seq (.seq (.reg l31r1) (.block 0 (.loop (.seq (.seq (.reg l31r2) (.cond (.tmp 8) .skip (.exit 0))) (.seq (.block 1 (.seq (.reg l31r3) (.cond (.tmp 14) (.seq (.reg l31r4) .ret) .skip))) (.reg l31r5)))))) (.seq (.reg l31r6) .ret))) [.tmp 2])
theorem l31_eq:lowFn Tryd.prog 31=some l31:=by kernel_rfl
def l32r0:List AOper :=
  [.mk (some 2) (.alloc [.slice none 0 0,.slice none 0 0]) none [],.mk (some 3) (.mv (.const (.int .i64 0))) none []]
def l32r1:List AOper :=
  [.mk (some 7) (.mv (.tmp 0)) none [],.mk (some 8) (.call 24 [.tmp 7]) none [0],.mk (some 4) (.alloc [.slice none 0 0,.slice none 0 0]) none [],.mk none (.store 2 (.tmp 4) (.tmp 8)) none [2,1,1,0,1,2]]
def l32r2:List AOper :=
  [.mk (some 9) (.bslice 1 [.int .i64 0] [] 0) none [],.mk (some 5) (.mv (.tmp 9)) none [0,0]]
def l32r3:List AOper :=
  [.mk (some 6) (.mv (.const (.int .i64 0))) none []]
def l32r4:List AOper :=
  [.mk (some 10) (.mv (.tmp 6)) none [],.mk (some 11) (.fld 1 (.tmp 4)) none [],.mk (some 12) (.load false 1 (.tmp 11)) none [1],.mk (some 13) (.len (.tmp 12)) none [2],.mk (some 14) (.bin .lss (.tmp 10) (.tmp 13)) none [0,3]]
def l32r5:List AOper :=
  [.mk (some 17) (.fld 1 (.tmp 4)) none [],.mk (some 18) (.load false 1 (.tmp 17)) none [0],.mk (some 19) (.mv (.tmp 6)) none [],.mk (some 20) (.idxA 5 (.tmp 18) (.tmp 19)) none [1,2],.mk (some 21) (.fld 4 (.tmp 20)) none [3],.mk (some 22) (.load false 1 (.tmp 21)) none [4]]
def l32r6:List AOper :=
  [.mk (some 23) (.mv (.tmp 5)) none [],.mk (some 24) (.mv (.tmp 6)) none [],.mk (some 25) (.bslice 1 [.int .i64 0] [(0,.tmp 24)] 1) none [1],.mk (some 26) (.append 1 (.tmp 23) (.tmp 25)) none [0,2],.mk (some 5) (.mv (.tmp 26)) none [3,3,0,1,2,3]]
def l32r7:List AOper :=
  [.mk (some 15) (.mv (.tmp 6)) none [],.mk (some 16) (.bin .add (.tmp 15) (.const (.int .i64 1))) none [0],.mk (some 6) (.mv (.tmp 16)) none [1,0,1]]
def l32r8:List AOper :=
  [.mk (some 27) (.mv (.tmp 5)) none [],.mk (some 28) (.len (.tmp 27)) none [0],.mk (some 29) (.bin .gtr (.tmp 28) (.const (.int .i64 0))) none [1],.mk (some 30) (.mv (.tmp 29)) none [2],.mk (some 31) (.mv (.tmp 0)) (some (30,true)) [3],.mk (some 32) (.call 40 [.tmp 31,.const (.int .i64 4)]) (some (30,true)) [4,3,3],.mk (some 33) (.bin .gtr (.tmp 32) (.const (.int .i64 0))) (some (30,true)) [5,3],.mk (some 34) (.pick (.tmp 30) (.tmp 33) (.const (.bool false))) none [3,6]]
def l32r9a:List AOper :=
  [.mk (some 35) (.load true 2 (.tmp 4)) none [],.mk (some 36) (.mv (.tmp 5)) none [],.mk (some 37) (.mv (.tmp 0)) none [],.mk (some 38) (.mv (.tmp 5)) none [],.mk (some 39) (.len (.tmp 38)) none [3],.mk (some 40) (.call 40 [.tmp 37,.tmp 39]) none [2,4],.mk (some 41) (.idxA 1 (.tmp 36) (.tmp 40)) none [1,5],.mk (some 42) (.load false 1 (.tmp 41)) none [6],.mk none (.store 2 (.tmp 2) (.tmp 35)) none [0,5,0]]
def l32r9b:List AOper :=
  [.mk (some 3) (.mv (.tmp 42)) none [7,8,0,1,2,3,4,5,6,7,8]]
def l32r9:List AOper:=l32r9a ++ l32r9b
def l32r10a:List AOper :=
  [.mk (some 43) (.load true 2 (.tmp 4)) none [],.mk (some 44) (.mv (.tmp 0)) none [],.mk (some 45) (.mv (.tmp 0)) none [],.mk (some 46) (.fld 1 (.tmp 4)) none [],.mk (some 47) (.load false 1 (.tmp 46)) none [3],.mk (some 48) (.len (.tmp 47)) none [4],.mk (some 49) (.bin .add (.tmp 48) (.const (.int .i64 1))) none [5],.mk (some 50) (.call 40 [.tmp 45,.tmp 49]) none [2,6],.mk (some 51) (.bslice 1 [.int .i64 0] [(0,.tmp 50),(1,.const (.int .i64 (-1)))] 2) none [7],.mk (some 52) (.call 41 [.tmp 44,.tmp 51]) none [1,8,7]]
def l32r10b:List AOper :=
  [.mk none (.store 2 (.tmp 2) (.tmp 43)) none [0,9,0],.mk (some 3) (.mv (.tmp 52)) none [9,10,0,1,2,3,4,5,6,7,8,9,10]]
def l32r10:List AOper:=l32r10a ++ l32r10b
def l32:AFn :=
  (AFn.mk 53 1 (.seq (.reg l32r0) (.seq (.reg l32r1) (.seq (.reg l32r2) (.seq (.seq (.reg l32r3) (.block 0 (.loop (.seq (.seq (.reg l32r4) (.cond (.tmp 14) .skip (.exit 0))) (.seq (.block 1 (.seq (.reg l32r5) (.cond (.tmp 22) (.reg l32r6) .skip))) (.reg l32r7)))))) (.seq (.seq (.reg l32r8) (.cond (.tmp 34) (.seq (.draw l32r9) .ret) .skip)) (.seq (.draw l32r10) .ret)))))) [.cell 2 true 2,.tmp 3])
theorem l32_eq:lowFn Tryd.prog 32=some l32:=by kernel_rfl
def l33r0:List AOper :=
  [.mk (some 6) (.mv (.const (.bool false))) none []]
def l33r1:List AOper :=
  [.mk (some 7) (.mv (.tmp 1)) none [],.mk (some 8) (.mv (.tmp 0)) none [],.mk (some 9) (.bin .leq (.tmp 7) (.tmp 8)) none [0,1],.mk (some 10) (.mv (.tmp 9)) none [2],.mk (some 11) (.mv (.tmp 0)) (some (10,true)) [3],.mk (some 12) (.mv (.tmp 2)) (some (10,true)) [3],.mk (some 13) (.bin .leq (.tmp 11) (.tmp 12)) (some (10,true)) [4,5,3],.mk (some 14) (.pick (.tmp 10) (.tmp 13) (.const (.bool false))) none [3,6],.mk (some 6) (.mv (.tmp 14)) none [7,3,0,1,2,3,4,5,6,7]]
def l33:AFn :=
  (AFn.mk 15 3 (.seq (.reg l33r0) (.seq (.reg l33r1) .ret)) [.tmp 6])
theorem l33_eq:lowFn Tryd.prog 33=some l33:=by kernel_rfl
def l34r0:List AOper :=
  [.mk (some 2) (.box (.tmp 0)) none [],.mk (some 4) (.mv (.const (.slice none 0 0))) none []]
def l34r1:List AOper :=
  [.mk (some 7) (.bslice 1 [.int .i64 0] [] 0) none [],.mk (some 5) (.mv (.tmp 7)) none [0,0]]
def l34r2:List AOper :=
  [.mk (some 6) (.mv (.const (.int .i64 0))) none []]
def l34r3:List AOper :=
  [.mk (some 8) (.mv (.tmp 6)) none [],.mk (some 9) (.fld 1 (.tmp 2)) none [],.mk (some 10) (.load false 1 (.tmp 9)) none [1],.mk (some 11) (.len (.tmp 10)) none [2],.mk (some 12) (.bin .lss (.tmp 8) (.tmp 11)) none [0,3]]
def l34r4:List AOper :=
  [.mk (some 15) (.fld 1 (.tmp 2)) none [],.mk (some 16) (.load false 1 (.tmp 15)) none [0],.mk (some 17) (.mv (.tmp 6)) none [],.mk (some 18) (.idxA 5 (.tmp 16) (.tmp 17)) none [1,2],.mk (some 19) (.fld 4 (.tmp 18)) none [3],.mk (some 20) (.load false 1 (.tmp 19)) none [4],.mk (some 21) (.mv (.tmp 20)) none [5],.mk (some 22) (.fld 1 (.tmp 2)) (some (21,true)) [6],.mk (some 23) (.load false 1 (.tmp 22)) (some (21,true)) [7,6],.mk (some 24) (.mv (.tmp 6)) (some (21,true)) [6],.mk (some 25) (.idxA 5 (.tmp 23) (.tmp 24)) (some (21,true)) [8,9,6],.mk (some 26) (.fld 0 (.tmp 25)) (some (21,true)) [10,6],.mk (some 27) (.load false 1 (.tmp 26)) (some (21,true)) [11,6],.mk (some 28) (.mv (.tmp 1)) (some (21,true)) [6],.mk (some 29) (.bin .eql (.tmp 27) (.tmp 28)) (some (21,true)) [12,13,6],.mk (some 30) (.pick (.tmp 21) (.tmp 29) (.const (.bool false))) none [6,14]]
def l34r5:List AOper :=
  [.mk (some 31) (.mv (.tmp 5)) none [],.mk (some 32) (.mv (.tmp 6)) none [],.mk (some 33) (.bslice 1 [.int .i64 0] [(0,.tmp 32)] 1) none [1],.mk (some 34) (.append 1 (.tmp 31) (.tmp 33)) none [0,2],.mk (some 5) (.mv (.tmp 34)) none [3,3,0,1,2,3]]
def l34r6:List AOper :=
  [.mk (some 13) (.mv (.tmp 6)) none [],.mk (some 14) (.bin .add (.tmp 13) (.const (.int .i64 1))) none [0],.mk (some 6) (.mv (.tmp 14)) none [1,0,1]]
def l34r7:List AOper :=
  [.mk (some 35) (.mv (.tmp 5)) none [],.mk (some 4) (.mv (.tmp 35)) none [0,0]]
def l34:AFn :=
  (AFn.mk 36 2 (.seq (.reg l34r0) (.seq (.reg l34r1) (.seq (.seq (.reg l34r2) (.block 0 (.loop (.seq (.seq (.reg l34r3) (.cond (.tmp 12) .skip (.exit 0))) (.seq (.block 1 (.seq (.reg l34r4) (.cond (.tmp 30) (.reg l34r5) .skip))) (.reg l34r6)))))) (.seq (.reg l34r7) .ret)))) [.tmp 4])
theorem l34_eq:lowFn Tryd.prog 34=some l34:=by kernel_rfl
def l35r0:List AOper :=
  [.mk (some 4) (.mv (.const (.bool false))) none []]
def l35r1:List AOper :=
  [.mk (some 5) (.mv (.const (.int .i64 0))) none []]
def l35r2:List AOper :=
  [.mk (some 6) (.mv (.tmp 5)) none [],.mk (some 7) (.mv (.tmp 0)) none [],.mk (some 8) (.len (.tmp 7)) none [1],.mk (some 9) (.bin .lss (.tmp 6) (.tmp 8)) none [0,2]]
def l35r3:List AOper :=
  [.mk (some 12) (.mv (.tmp 0)) none [],.mk (some 13) (.mv (.tmp 5)) none [],.mk (some 14) (.idxA 1 (.tmp 12) (.tmp 13)) none [0,1],.mk (some 15) (.load false 1 (.tmp 14)) none [2],.mk (some 16) (.mv (.tmp 1)) none [],.mk (some 17) (.bin .eql (.tmp 15) (.tmp 16)) none [3,4]]
def l35r4:List AOper :=
  [.mk (some 4) (.mv (.const (.bool true))) none []]
def l35r5:List AOper :=
  [.mk (some 10) (.mv (.tmp 5)) none [],.mk (some 11) (.bin .add (.tmp 10) (.const (.int .i64 1))) none [0],.mk (some 5) (.mv (.tmp 11)) none [1,0,1]]
def l35r6:List AOper :=
  [.mk (some 4) (.mv (.const (.bool false))) none []]
def l35:AFn :=
  (AFn.mk 18 2 (.seq (.reg l35r0) (.seq (.seq (.reg l35r1) (.block 0 (.loop (.seq (.seq (.reg l35r2) (.cond (.tmp 9) .skip (.exit 0))) (.seq (.block 1 (.seq (.reg l35r3) (.cond (.tmp 17) (.seq (.reg l35r4) .ret) .skip))) (.reg l35r5)))))) (.seq (.reg l35r6) .ret))) [.tmp 4])
theorem l35_eq:lowFn Tryd.prog 35=some l35:=by kernel_rfl
def l38r0:List AOper :=
  [.mk (some 2) (.mv (.const (.bool false))) none []]
def l38r1:List AOper :=
  [.mk (some 3) (.mv (.tmp 0)) none [],.mk (some 4) (.bin .leq (.const (.int .i64 0)) (.tmp 3)) none [0],.mk (some 5) (.mv (.tmp 4)) none [1],.mk (some 6) (.mv (.tmp 0)) (some (5,true)) [2],.mk (some 7) (.bin .leq (.tmp 6) (.const (.int .i64 60))) (some (5,true)) [3,2],.mk (some 8) (.pick (.tmp 5) (.tmp 7) (.const (.bool false))) none [2,4],.mk (some 2) (.mv (.tmp 8)) none [5,2,0,1,2,3,4,5]]
def l38:AFn :=
  (AFn.mk 9 1 (.seq (.reg l38r0) (.seq (.reg l38r1) .ret)) [.tmp 2])
theorem l38_eq:lowFn Tryd.prog 38=some l38:=by kernel_rfl
def l40r0:List AOper :=
  [.mk (some 4) (.mv (.const (.int .i64 0))) none []]
def l40r1:List AOper :=
  [.mk (some 7) (.mv (.tmp 0)) none [],.mk (some 8) (.mv (.tmp 0)) none [],.mk (some 9) (.nilck (.tmp 8)) none [1],.mk (some 10) (.fld 1 (.tmp 9)) none [2],.mk (some 11) (.load false 1 (.tmp 10)) none [3],.mk (some 12) (.bin .add (.tmp 11) (.const (.int .i64 1))) none [4],.mk (some 13) (.nilck (.tmp 7)) none [0,0,1,2,3,4,5],.mk (some 14) (.fld 1 (.tmp 13)) none [6,0,1,2,3,4,5],.mk none (.store 1 (.tmp 14) (.tmp 12)) none [7,5,0,1,2,3,4,5]]
def l40r2:List AOper :=
  [.mk (some 15) (.mv (.tmp 1)) none [],.mk (some 16) (.bin .lss (.tmp 15) (.const (.int .i64 1))) none [0],.mk (some 17) (.mv (.tmp 16)) none [1],.mk (some 18) (.mv (.tmp 0)) (some (17,false)) [2],.mk (some 19) (.nilck (.tmp 18)) (some (17,false)) [3,2],.mk (some 20) (.fld 0 (.tmp 19)) (some (17,false)) [4,2],.mk (some 21) (.load false 1 (.tmp 20)) (some (17,false)) [5,2],.mk (some 22) (.len (.tmp 21)) (some (17,false)) [6,2],.mk (some 23) (.bin .eql (.tmp 22) (.const (.int .i64 0))) (some (17,false)) [7,2],.mk (some 24) (.pick (.tmp 17) (.const (.bool true)) (.tmp 23)) none [2,8]]
def l40r3:List AOper :=
  [.mk (some 4) (.mv (.const (.int .i64 0))) none []]
def l40r4:List AOper :=
  [.mk (some 25) (.mv (.tmp 0)) none [],.mk (some 26) (.nilck (.tmp 25)) none [0],.mk (some 27) (.fld 1 (.tmp 26)) none [1],.mk (some 28) (.load false 1 (.tmp 27)) none [2],.mk (some 29) (.bin .sub (.tmp 28) (.const (.int .i64 1))) none [3],.mk (some 5) (.mv (.tmp 29)) none [4,0,1,2,3,4]]
def l40r5:List AOper :=
  [.mk (some 30) (.mv (.tmp 5)) none [],.mk (some 31) (.mv (.tmp 0)) none [],.mk (some 32) (.nilck (.tmp 31)) none [1],.mk (some 33) (.fld 0 (.tmp 32)) none [2],.mk (some 34) (.load false 1 (.tmp 33)) none [3],.mk (some 35) (.len (.tmp 34)) none [4],.mk (some 36) (.bin .lss (.tmp 30) (.tmp 35)) none [0,5]]
def l40r6:List AOper :=
  [.mk (some 37) (.mv (.tmp 0)) none [],.mk (some 38) (.nilck (.tmp 37)) none [0],.mk (some 39) (.fld 0 (.tmp 38)) none [1],.mk (some 40) (.load false 1 (.tmp 39)) none [2],.mk (some 41) (.mv (.tmp 5)) none [],.mk (some 42) (.idxA 1 (.tmp 40) (.tmp 41)) none [3,4],.mk (some 43) (.load false 1 (.tmp 42)) none [5],.mk (some 44) (.conv .i64 (.tmp 43)) none [6],.mk (some 45) (.mv (.tmp 1)) none [],.mk (some 46) (.bin .rem (.tmp 44) (.tmp 45)) none [7,8],.mk (some 4) (.mv (.tmp 46)) none [9,0,1,2,3,4,5,6,7,8,9]]
def l40r7a:List AOper :=
  [.mk (some 47) (.mv (.tmp 0)) none [],.mk (some 48) (.nilck (.tmp 47)) none [0],.mk (some 49) (.fld 0 (.tmp 48)) none [1],.mk (some 50) (.load false 1 (.tmp 49)) none [2],.mk (some 51) (.mv (.tmp 5)) none [],.mk (some 52) (.mv (.tmp 0)) none [],.mk (some 53) (.nilck (.tmp 52)) none [5],.mk (some 54) (.fld 0 (.tmp 53)) none [6],.mk (some 55) (.load false 1 (.tmp 54)) none [7],.mk (some 56) (.len (.tmp 55)) none [8],.mk (some 57) (.bin .rem (.tmp 51) (.tmp 56)) none [4,9],.mk (some 58) (.idxA 1 (.tmp 50) (.tmp 57)) none [3,10],.mk (some 59) (.load false 1 (.tmp 58)) none [11],.mk (some 60) (.conv .i64 (.tmp 59)) none [12],.mk (some 61) (.bin .mul (.tmp 60) (.const (.int .i64 131))) none [13],.mk (some 62) (.mv (.tmp 0)) none [],.mk (some 63) (.nilck (.tmp 62)) none [15],.mk (some 64) (.fld 0 (.tmp 63)) none [16],.mk (some 65) (.load false 1 (.tmp 64)) none [17],.mk (some 66) (.mv (.tmp 5)) none [],.mk (some 67) (.bin .mul (.tmp 66) (.const (.int .i64 7))) none [19],.mk (some 68) (.bin .add (.tmp 67) (.const (.int .i64 3))) none [20],.mk (some 69) (.mv (.tmp 0)) none [],.mk (some 70) (.nilck (.tmp 69)) none [22],.mk (some 71) (.fld 0 (.tmp 70)) none [23],.mk (some 72) (.load false 1 (.tmp 71)) none [24],.mk (some 73) (.len (.tmp 72)) none [25],.mk (some 74) (.bin .rem (.tmp 68) (.tmp 73)) none [21,26],.mk (some 75) (.idxA 1 (.tmp 65) (.tmp 74)) none [18,27],.mk (some 76) (.load false 1 (.tmp 75)) none [28],.mk (some 77) (.conv .i64 (.tmp 76)) none [29],.mk (some 78) (.bin .mul (.tmp 77) (.const (.int .i64 1117))) none [30],.mk (some 79) (.bin .add (.tmp 61) (.tmp 78)) none [14,31],.mk (some 80) (.mv (.tmp 5)) none [],.mk (some 81) (.bin .mul (.tmp 80) (.const (.int .i64 29))) none [33],.mk (some 82) (.bin .add (.tmp 79) (.tmp 81)) none [32,34],.mk (some 83) (.mv (.tmp 5)) none [],.mk (some 84) (.mv (.tmp 0)) none [],.mk (some 85) (.nilck (.tmp 84)) none [37],.mk (some 86) (.fld 0 (.tmp 85)) none [38],.mk (some 87) (.load false 1 (.tmp 86)) none [39],.mk (some 88) (.len (.tmp 87)) none [40],.mk (some 89) (.bin .quo (.tmp 83) (.tmp 88)) none [36,41],.mk (some 90) (.bin .mul (.tmp 89) (.const (.int .i64 53))) none [42]]
def l40r7b:List AOper :=
  [.mk (some 91) (.bin .add (.tmp 82) (.tmp 90)) none [35,43],.mk (some 6) (.mv (.tmp 91)) none [44,0,1,2,3,4,5,6,7,8,9,10,11,12,13,14,15,16,17,18,19,20,21,22,23,24,25,26,27,28,29,30,31,32,33,34,35,36,37,38,39,40,41,42,43,44]]
def l40r7:List AOper:=l40r7a ++ l40r7b
def l40r8:List AOper :=
  [.mk (some 92) (.mv (.tmp 6)) none [],.mk (some 93) (.mv (.tmp 6)) none [],.mk (some 94) (.bin .quo (.tmp 93) (.const (.int .i64 64))) none [1],.mk (some 95) (.bin .xor (.tmp 92) (.tmp 94)) none [0,2],.mk (some 6) (.mv (.tmp 95)) none [3,0,1,2,3]]
def l40r9:List AOper :=
  [.mk (some 96) (.mv (.tmp 6)) none [],.mk (some 97) (.mv (.tmp 1)) none [],.mk (some 98) (.bin .rem (.tmp 96) (.tmp 97)) none [0,1],.mk (some 4) (.mv (.tmp 98)) none [2,0,1,2]]
def l40:AFn :=
  (AFn.mk 99 2 (.seq (.reg l40r0) (.seq (.reg l40r1) (.seq (.seq (.reg l40r2) (.cond (.tmp 24) (.seq (.reg l40r3) .ret) .skip)) (.seq (.reg l40r4) (.seq (.seq (.reg l40r5) (.cond (.tmp 36) (.seq (.reg l40r6) .ret) .skip)) (.seq (.draw l40r7) (.seq (.reg l40r8) (.seq (.reg l40r9) .ret)))))))) [.tmp 4])
theorem l40_eq:lowFn Tryd.prog 40=some l40:=by kernel_rfl
def l41r0:List AOper :=
  [.mk (some 4) (.mv (.const (.int .i64 0))) none []]
def l41r1:List AOper :=
  [.mk (some 5) (.mv (.tmp 1)) none [],.mk (some 6) (.mv (.tmp 0)) none [],.mk (some 7) (.mv (.tmp 1)) none [],.mk (some 8) (.len (.tmp 7)) none [2],.mk (some 9) (.call 40 [.tmp 6,.tmp 8]) none [1,3],.mk (some 10) (.idxA 1 (.tmp 5) (.tmp 9)) none [0,4],.mk (some 11) (.load false 1 (.tmp 10)) none [5],.mk (some 4) (.mv (.tmp 11)) none [6,4,0,1,2,3,4,5,6]]
def l41:AFn :=
  (AFn.mk 12 2 (.seq (.reg l41r0) (.seq (.reg l41r1) .ret)) [.tmp 4])
theorem l41_eq:lowFn Tryd.prog 41=some l41:=by kernel_rfl
def l42r0:List AOper :=
  [.mk (some 1) (.box (.tmp 0)) none [],.mk (some 2) (.alloc [.slice none 0 0,.slice none 0 0]) none []]
def l42r1:List AOper :=
  [.mk (some 6) (.fld 0 (.tmp 1)) none [],.mk (some 7) (.load false 1 (.tmp 6)) none [0],.mk (some 8) (.call 56 [.tmp 7]) none [1],.mk (some 9) (.build [.slice none 0 0,.slice none 0 0] [(0,1,.tmp 8)]) none [2],.mk (some 3) (.alloc [.slice none 0 0,.slice none 0 0]) none [],.mk none (.store 2 (.tmp 3) (.tmp 9)) none [4,3,2,0,1,2,3,4]]
def l42r2:List AOper :=
  [.mk (some 4) (.mv (.const (.int .i64 0))) none []]
def l42r3:List AOper :=
  [.mk (some 10) (.mv (.tmp 4)) none [],.mk (some 11) (.fld 1 (.tmp 1)) none [],.mk (some 12) (.load false 1 (.tmp 11)) none [1],.mk (some 13) (.len (.tmp 12)) none [2],.mk (some 14) (.bin .lss (.tmp 10) (.tmp 13)) none [0,3]]
def l42r4:List AOper :=
  [.mk (some 17) (.fld 1 (.tmp 1)) none [],.mk (some 18) (.load false 1 (.tmp 17)) none [0],.mk (some 19) (.mv (.tmp 4)) none [],.mk (some 20) (.idxA 5 (.tmp 18) (.tmp 19)) none [1,2],.mk (some 21) (.load true 5 (.tmp 20)) none [3],.mk (some 5) (.alloc [.int .i64 0,.int .i64 0,.slice none 0 0,.slice none 0 0,.bool false]) none [],.mk none (.store 5 (.tmp 5) (.tmp 21)) none [5,4,0,1,2,3,4,5]]
def l42r5:List AOper :=
  [.mk (some 22) (.fld 1 (.tmp 5)) none [],.mk (some 23) (.load true 3 (.tmp 22)) none [0],.mk (some 24) (.call 57 [.tmp 23]) none [1],.mk (some 25) (.fld 1 (.tmp 5)) none [0,1,2],.mk none (.store 3 (.tmp 25) (.tmp 24)) none [3,2,2,0,1,2]]
def l42r6:List AOper :=
  [.mk (some 26) (.fld 1 (.tmp 3)) none [],.mk (some 27) (.load false 1 (.tmp 26)) none [0],.mk (some 28) (.load true 5 (.tmp 5)) none [],.mk (some 29) (.bslice 5 [.int .i64 0,.int .i64 0,.slice none 0 0,.slice none 0 0,.bool false] [(0,.tmp 28)] 1) none [2],.mk (some 30) (.append 5 (.tmp 27) (.tmp 29)) none [1,3],.mk (some 31) (.fld 1 (.tmp 3)) none [0,1,2,3,4],.mk none (.store 1 (.tmp 31) (.tmp 30)) none [5,4,4,0,1,2,3,4]]
def l42r7:List AOper :=
  [.mk (some 15) (.mv (.tmp 4)) none [],.mk (some 16) (.bin .add (.tmp 15) (.const (.int .i64 1))) none [0],.mk (some 4) (.mv (.tmp 16)) none [1,0,1]]
def l42r8:List AOper :=
  [.mk (some 32) (.load true 2 (.tmp 3)) none [],.mk none (.store 2 (.tmp 2) (.tmp 32)) none [0,0]]
def l42:AFn :=
  (AFn.mk 33 1 (.seq (.reg l42r0) (.seq (.reg l42r1) (.seq (.seq (.reg l42r2) (.block 0 (.loop (.seq (.seq (.reg l42r3) (.cond (.tmp 14) .skip (.exit 0))) (.seq (.block 1 (.seq (.reg l42r4) (.seq (.reg l42r5) (.reg l42r6)))) (.reg l42r7)))))) (.seq (.reg l42r8) .ret)))) [.cell 2 true 2])
theorem l42_eq:lowFn Tryd.prog 42=some l42:=by kernel_rfl
def l44r0:List AOper :=
  [.mk (some 2) (.alloc [.slice none 0 0,.slice none 0 0]) none []]
def l44r1:List AOper :=
  [.mk (some 5) (.mv (.tmp 0)) none [],.mk (some 6) (.bslice 1 [.int .i64 0] [(0,.const (.int .i64 12)),(1,.const (.int .i64 20)),(2,.const (.int .i64 16)),(3,.const (.int .i64 8)),(4,.const (.int .i64 0))] 5) none [],.mk (some 7) (.call 41 [.tmp 5,.tmp 6]) none [0,1],.mk (some 8) (.call 58 [.tmp 7]) none [2,2],.mk (some 3) (.alloc [.slice none 0 0,.slice none 0 0]) none [],.mk none (.store 2 (.tmp 3) (.tmp 8)) none [4,3,3,0,1,2,3,4]]
def l44r2:List AOper :=
  [.mk (some 9) (.mv (.tmp 0)) none [],.mk (some 10) (.bslice 1 [.int .i64 0] [(0,.const (.int .i64 5)),(1,.const (.int .i64 4)),(2,.const (.int .i64 6)),(3,.const (.int .i64 3)),(4,.const (.int .i64 8)),(5,.const (.int .i64 0))] 6) none [],.mk (some 11) (.call 41 [.tmp 9,.tmp 10]) none [0,1],.mk (some 4) (.mv (.tmp 11)) none [2,2,0,1,2]]
def l44r3:List AOper :=
  [.mk (some 12) (.mv (.tmp 4)) none [],.mk (some 13) (.bin .gtr (.tmp 12) (.const (.int .i64 0))) none [0]]
def l44r4a:List AOper :=
  [.mk (some 17) (.load true 2 (.tmp 3)) none [],.mk (some 18) (.mv (.tmp 0)) none [],.mk (some 19) (.load true 2 (.tmp 3)) none [],.mk (some 20) (.call 60 [.tmp 18,.tmp 19]) none [1,2],.mk (some 21) (.call 59 [.tmp 17,.tmp 20]) none [0,3,3],.mk (some 16) (.mv (.tmp 21)) none [4],.mk (some 22) (.extract (.tmp 16) 0) none [5],.mk (some 23) (.extract (.tmp 16) 1) none [5],.mk none (.store 2 (.tmp 3) (.tmp 22)) none [6,4,0,1,2,3,4,5,6]]
def l44r4b:List AOper :=
  []
def l44r4:List AOper:=l44r4a ++ l44r4b
def l44r5:List AOper :=
  [.mk (some 14) (.mv (.tmp 4)) none [],.mk (some 15) (.bin .sub (.tmp 14) (.const (.int .i64 1))) none [0],.mk (some 4) (.mv (.tmp 15)) none [1,0,1]]
def l44r6:List AOper :=
  [.mk (some 24) (.load true 2 (.tmp 3)) none [],.mk none (.store 2 (.tmp 2) (.tmp 24)) none [0,0]]
def l44:AFn :=
  (AFn.mk 25 1 (.seq (.reg l44r0) (.seq (.reg l44r1) (.seq (.seq (.reg l44r2) (.block 0 (.loop (.seq (.seq (.reg l44r3) (.cond (.tmp 13) .skip (.exit 0))) (.seq (.block 1 (.draw l44r4)) (.reg l44r5)))))) (.seq (.reg l44r6) .ret)))) [.cell 2 true 2])
theorem l44_eq:lowFn Tryd.prog 44=some l44:=by kernel_rfl
def l45r0:List AOper :=
  [.mk (some 2) (.mv (.const (.bool false))) none []]
def l45r1:List AOper :=
  [.mk (some 5) (.mv (.tmp 0)) none [],.mk (some 6) (.len (.tmp 5)) none [0],.mk (some 7) (.mv (.const (.int .i64 0))) none []]
def l45r2:List AOper :=
  [.mk (some 8) (.bin .lss (.tmp 7) (.tmp 6)) none []]
def l45r3:List AOper :=
  [.mk (some 9) (.idxA 1 (.tmp 5) (.tmp 7)) none [],.mk (some 10) (.load false 1 (.tmp 9)) none [0],.mk (some 4) (.mv (.tmp 10)) none [1,0,1]]
def l45r4:List AOper :=
  [.mk (some 11) (.mv (.tmp 4)) none [],.mk (some 12) (.call 53 [.tmp 11,.const (.int .i64 255)]) none [0],.mk (some 13) (.un .not (.tmp 12)) none [1]]
def l45r5:List AOper :=
  [.mk (some 2) (.mv (.const (.bool false))) none []]
def l45r6:List AOper :=
  [.mk (some 14) (.bin .add (.tmp 7) (.const (.int .i64 1))) none [],.mk (some 7) (.mv (.tmp 14)) none [0]]
def l45r7:List AOper :=
  [.mk (some 2) (.mv (.const (.bool true))) none []]
def l45:AFn :=
  (AFn.mk 15 1 (.seq (.reg l45r0) (.seq (.seq (.reg l45r1) (.block 0 (.loop (.seq (.reg l45r2) (.seq (.cond (.tmp 8) .skip (.exit 0)) (.seq (.block 1 (.seq (.reg l45r3) (.seq (.reg l45r4) (.cond (.tmp 13) (.seq (.reg l45r5) .ret) .skip)))) (.reg l45r6))))))) (.seq (.reg l45r7) .ret))) [.tmp 2])
theorem l45_eq:lowFn Tryd.prog 45=some l45:=by kernel_rfl
def l46r0:List AOper :=
  [.mk (some 1) (.box (.tmp 0)) none [],.mk (some 2) (.mv (.const (.bool false))) none []]
def l46r1:List AOper :=
  [.mk (some 5) (.fld 1 (.tmp 1)) none [],.mk (some 6) (.load false 1 (.tmp 5)) none [0],.mk (some 7) (.call 61 [.tmp 6]) none [1],.mk (some 8) (.un .not (.tmp 7)) none [2],.mk (some 9) (.mv (.tmp 8)) none [3,2],.mk (some 10) (.fld 2 (.tmp 1)) (some (9,false)) [4],.mk (some 11) (.load false 1 (.tmp 10)) (some (9,false)) [5,4],.mk (some 12) (.fld 1 (.tmp 1)) (some (9,false)) [4],.mk (some 13) (.load false 1 (.tmp 12)) (some (9,false)) [7,4],.mk (some 14) (.len (.tmp 13)) (some (9,false)) [8,4],.mk (some 15) (.call 62 [.tmp 11,.tmp 14]) (some (9,false)) [6,9,4,4],.mk (some 16) (.un .not (.tmp 15)) (some (9,false)) [10,4],.mk (some 17) (.pick (.tmp 9) (.const (.bool true)) (.tmp 16)) none [4,11],.mk (some 18) (.mv (.tmp 17)) none [12,10],.mk (some 19) (.fld 0 (.tmp 1)) (some (18,false)) [13],.mk (some 20) (.load false 1 (.tmp 19)) (some (18,false)) [14,13],.mk (some 21) (.call 53 [.tmp 20,.const (.int .i64 60)]) (some (18,false)) [15,13,13],.mk (some 22) (.un .not (.tmp 21)) (some (18,false)) [16,13],.mk (some 23) (.pick (.tmp 18) (.const (.bool true)) (.tmp 22)) none [13,17]]
def l46r2:List AOper :=
  [.mk (some 2) (.mv (.const (.bool false))) none []]
def l46r3:List AOper :=
  [.mk (some 25) (.load true 3 (.tmp 1)) none [],.mk (some 26) (.call 63 [.tmp 25]) none [0],.mk (some 24) (.mv (.tmp 26)) none [1],.mk (some 27) (.extract (.tmp 24) 0) none [2],.mk (some 28) (.extract (.tmp 24) 1) none [2],.mk (some 3) (.mv (.tmp 27)) none [3,1,0,1,2,3],.mk (some 4) (.mv (.tmp 28)) none [4,5,0,1,2,3,4,5]]
def l46r4:List AOper :=
  [.mk (some 29) (.load true 3 (.tmp 1)) none [],.mk (some 30) (.call 64 [.tmp 29]) none [0],.mk (some 31) (.bin .eql (.tmp 30) (.const (.int .i64 0))) none [1],.mk (some 32) (.mv (.tmp 31)) none [2,1],.mk (some 33) (.mv (.tmp 3)) (some (32,false)) [3],.mk (some 34) (.bin .geq (.tmp 33) (.const (.int .i64 0))) (some (32,false)) [4,3],.mk (some 35) (.mv (.tmp 34)) (some (32,false)) [5,3,3],.mk (some 36) (.mv (.tmp 4)) (some (35,true)) [6],.mk (some 37) (.bin .lss (.tmp 36) (.const (.int .i64 60))) (some (35,true)) [7,6],.mk (some 38) (.pick (.tmp 35) (.tmp 37) (.const (.bool false))) (some (32,false)) [6,8,3],.mk (some 39) (.pick (.tmp 32) (.const (.bool true)) (.tmp 38)) none [3,9],.mk (some 2) (.mv (.tmp 39)) none [10,6,0,1,2,3,4,5,6,7,8,9,10]]
def l46:AFn :=
  (AFn.mk 40 1 (.seq (.reg l46r0) (.seq (.seq (.reg l46r1) (.cond (.tmp 23) (.seq (.reg l46r2) .ret) .skip)) (.seq (.reg l46r3) (.seq (.reg l46r4) .ret)))) [.tmp 2])
theorem l46_eq:lowFn Tryd.prog 46=some l46:=by kernel_rfl
def l47r0:List AOper :=
  [.mk (some 2) (.box (.tmp 0)) none [],.mk (some 4) (.mv (.const (.bool false))) none []]
def l47r1:List AOper :=
  [.mk (some 7) (.load true 3 (.tmp 2)) none [],.mk (some 8) (.call 46 [.tmp 7]) none [0],.mk (some 9) (.un .not (.tmp 8)) none [1],.mk (some 10) (.mv (.tmp 9)) none [2,1],.mk (some 11) (.mv (.tmp 1)) (some (10,false)) [3],.mk (some 12) (.call 53 [.tmp 11,.const (.int .i64 60)]) (some (10,false)) [4,3,3],.mk (some 13) (.un .not (.tmp 12)) (some (10,false)) [5,3],.mk (some 14) (.pick (.tmp 10) (.const (.bool true)) (.tmp 13)) none [3,6]]
def l47r2:List AOper :=
  [.mk (some 4) (.mv (.const (.bool false))) none []]
def l47r3:List AOper :=
  [.mk (some 16) (.load true 3 (.tmp 2)) none [],.mk (some 17) (.call 63 [.tmp 16]) none [0],.mk (some 15) (.mv (.tmp 17)) none [1],.mk (some 18) (.extract (.tmp 15) 0) none [2],.mk (some 19) (.extract (.tmp 15) 1) none [2],.mk (some 5) (.mv (.tmp 18)) none [3,1,0,1,2,3],.mk (some 6) (.mv (.tmp 19)) none [4,5,0,1,2,3,4,5]]
def l47r4:List AOper :=
  [.mk (some 20) (.mv (.tmp 6)) none [],.mk (some 21) (.mv (.tmp 1)) none [],.mk (some 22) (.bin .lss (.tmp 20) (.tmp 21)) none [0,1],.mk (some 4) (.mv (.tmp 22)) none [2,0,1,2]]
def l47:AFn :=
  (AFn.mk 23 2 (.seq (.reg l47r0) (.seq (.seq (.reg l47r1) (.cond (.tmp 14) (.seq (.reg l47r2) .ret) .skip)) (.seq (.reg l47r3) (.seq (.reg l47r4) .ret)))) [.tmp 4])
theorem l47_eq:lowFn Tryd.prog 47=some l47:=by kernel_rfl
def l49r0:List AOper :=
  [.mk (some 6) (.mv (.const (.bool false))) none []]
def l49r1:List AOper :=
  [.mk (some 14) (.mv (.tmp 2)) none [],.mk (some 15) (.mv (.tmp 14)) none [0],.mk (some 16) (.mv (.tmp 0)) (some (15,true)) [1],.mk (some 17) (.mv (.tmp 1)) (some (15,true)) [1],.mk (some 18) (.bin .eql (.tmp 16) (.tmp 17)) (some (15,true)) [2,3,1],.mk (some 19) (.pick (.tmp 15) (.tmp 18) (.const (.bool false))) none [1,4]]
def l49r2:List AOper :=
  [.mk (some 6) (.mv (.const (.bool true))) none []]
def l49r3:List AOper :=
  [.mk (some 21) (.mv (.tmp 0)) none [],.mk (some 22) (.raw (Op.typeAssert (.tmp 21) 49 94 true)) none [0],.mk (some 20) (.mv (.tmp 22)) none [1],.mk (some 23) (.extract (.tmp 20) 0) none [2],.mk (some 24) (.extract (.tmp 20) 1) none [2],.mk (some 7) (.mv (.tmp 23)) none [3,0,1,2,3],.mk (some 8) (.mv (.tmp 24)) none [4,5,0,1,2,3,4,5]]
def l49r4:List AOper :=
  [.mk (some 25) (.mv (.tmp 8)) none [],.mk (some 26) (.mv (.tmp 25)) none [0],.mk (some 27) (.mv (.tmp 7)) (some (26,true)) [1],.mk (some 28) (.mv (.tmp 1)) (some (26,true)) [1],.mk (some 29) (.raw (Op.call (Call.mk (Callee.invoke (.tmp 27) "Is") (Array.mk [.tmp 28]) (Array.mk [49])))) (some (26,true)) [2,3,1,1],.mk (some 30) (.pick (.tmp 26) (.tmp 29) (.const (.bool false))) none [1,4]]
def l49r5:List AOper :=
  [.mk (some 6) (.mv (.const (.bool true))) none []]
def l49r6:List AOper :=
  [.mk (some 31) (.mv (.tmp 0)) none []]
def l49r7:List AOper :=
  [.mk (some 32) (.raw (Op.typeAssert (.tmp 31) 49 97 true)) none [],.mk (some 33) (.extract (.tmp 32) 1) none [0],.mk (some 34) (.extract (.tmp 32) 0) none [0]]
def l49r8:List AOper :=
  [.mk (some 9) (.mv (.tmp 34)) none []]
def l49r9:List AOper :=
  [.mk (some 35) (.mv (.tmp 9)) none [],.mk (some 36) (.raw (Op.call (Call.mk (Callee.invoke (.tmp 35) "Unwrap") (Array.mk []) (Array.mk [])))) none [0],.mk (some 0) (.mv (.tmp 36)) none [1,1,0,1]]
def l49r10:List AOper :=
  [.mk (some 37) (.mv (.tmp 0)) none [],.mk (some 38) (.bin .eql (.tmp 37) (.const .nilIface)) none [0]]
def l49r11:List AOper :=
  [.mk (some 6) (.mv (.const (.bool false))) none []]
def l49r12:List AOper :=
  [.mk (some 39) (.raw (Op.typeAssert (.tmp 31) 49 98 true)) none [],.mk (some 40) (.extract (.tmp 39) 1) none [0],.mk (some 41) (.extract (.tmp 39) 0) none [0]]
def l49r13:List AOper :=
  [.mk (some 10) (.mv (.tmp 41)) none []]
def l49r14:List AOper :=
  [.mk (some 42) (.mv (.tmp 10)) none [],.mk (some 43) (.raw (Op.call (Call.mk (Callee.invoke (.tmp 42) "Unwrap") (Array.mk []) (Array.mk [])))) none [0],.mk (some 44) (.len (.tmp 43)) none [1],.mk (some 45) (.mv (.const (.int .i64 0))) none []]
def l49r15:List AOper :=
  [.mk (some 46) (.bin .lss (.tmp 45) (.tmp 44)) none []]
def l49r16:List AOper :=
  [.mk (some 47) (.idxA 1 (.tmp 43) (.tmp 45)) none [],.mk (some 48) (.load false 1 (.tmp 47)) none [0],.mk (some 12) (.mv (.tmp 48)) none [1,0,1]]
def l49r17:List AOper :=
  [.mk (some 49) (.mv (.tmp 12)) none [],.mk (some 50) (.mv (.tmp 1)) none [],.mk (some 51) (.mv (.tmp 2)) none [],.mk (some 52) (.call 49 [.tmp 49,.tmp 50,.tmp 51]) none [0,1,2]]
def l49r18:List AOper :=
  [.mk (some 6) (.mv (.const (.bool true))) none []]
def l49r19:List AOper :=
  [.mk (some 53) (.bin .add (.tmp 45) (.const (.int .i64 1))) none [],.mk (some 45) (.mv (.tmp 53)) none [0]]
def l49r20:List AOper :=
  [.mk (some 6) (.mv (.const (.bool false))) none []]
def l49r21:List AOper :=
  [.mk (some 13) (.mv (.tmp 31)) none []]
def l49r22:List AOper :=
  [.mk (some 6) (.mv (.const (.bool false))) none []]
def l49:AFn :=
  (AFn.mk 54 3 (.seq (.reg l49r0) (.block 0 (.loop (.block 1 (.seq (.seq (.reg l49r1) (.cond (.tmp 19) (.seq (.reg l49r2) .ret) .skip)) (.seq (.seq (.reg l49r3) (.seq (.reg l49r4) (.cond (.tmp 30) (.seq (.reg l49r5) .ret) .skip))) (.seq (.reg l49r6) (.block 2 (.seq (.reg l49r7) (.cond (.tmp 33) (.seq (.reg l49r8) (.seq (.reg l49r9) (.seq (.reg l49r10) (.cond (.tmp 38) (.seq (.reg l49r11) .ret) .skip)))) (.seq (.reg l49r12) (.cond (.tmp 40) (.seq (.reg l49r13) (.seq (.seq (.reg l49r14) (.block 3 (.loop (.seq (.reg l49r15) (.seq (.cond (.tmp 46) .skip (.exit 3)) (.seq (.block 4 (.seq (.reg l49r16) (.seq (.reg l49r17) (.cond (.tmp 52) (.seq (.reg l49r18) .ret) .skip)))) (.reg l49r19))))))) (.seq (.reg l49r20) .ret))) (.seq (.reg l49r21) (.seq (.reg l49r22) .ret)))))))))))))) [.tmp 6])
theorem l49_eq:lowFn Tryd.prog 49=some l49:=by kernel_rfl
def l50r0:List AOper :=
  [.mk (some 6) (.mv (.const (.pointer none))) none []]
def l50r1:List AOper :=
  [.mk (some 7) (.mv (.tmp 2)) none []]
def l50r2:List AOper :=
  [.mk (some 8) (.mv (.tmp 0)) none [],.mk (some 9) (.mv (.tmp 0)) none [],.mk (some 10) (.nilck (.tmp 9)) none [1],.mk (some 11) (.fld 0 (.tmp 10)) none [2],.mk (some 12) (.load false 1 (.tmp 11)) none [3],.mk (some 13) (.mv (.tmp 1)) none [],.mk (some 14) (.bslice 1 [.int .i64 0] [(0,.tmp 13)] 1) none [5],.mk (some 15) (.append 1 (.tmp 12) (.tmp 14)) none [4,6],.mk (some 16) (.nilck (.tmp 8)) none [0,0,1,2,3,4,5,6,7],.mk (some 17) (.fld 0 (.tmp 16)) none [8,0,1,2,3,4,5,6,7],.mk none (.store 1 (.tmp 17) (.tmp 15)) none [9,7,7,0,1,2,3,4,5,6,7]]
def l50r3:List AOper :=
  [.mk (some 18) (.build [.slice none 0 0] []) none [],.mk (some 19) (.box (.tmp 18)) none [0],.mk (some 6) (.mv (.tmp 19)) none [1,0,1]]
def l50:AFn :=
  (AFn.mk 20 3 (.seq (.reg l50r0) (.seq (.seq (.reg l50r1) (.cond (.tmp 7) (.reg l50r2) .skip)) (.seq (.reg l50r3) .ret))) [.tmp 6])
theorem l50_eq:lowFn Tryd.prog 50=some l50:=by kernel_rfl
def l51r0:List AOper :=
  [.mk (some 2) (.box (.tmp 0)) none [],.mk (some 4) (.mv (.const (.bool false))) none []]
def l51r1:List AOper :=
  [.mk (some 6) (.fld 1 (.tmp 2)) none [],.mk (some 7) (.load false 1 (.tmp 6)) none [0],.mk (some 8) (.mv (.tmp 1)) none [],.mk (some 9) (.idxA 5 (.tmp 7) (.tmp 8)) none [1,2],.mk (some 10) (.load true 5 (.tmp 9)) none [3],.mk (some 5) (.alloc [.int .i64 0,.int .i64 0,.slice none 0 0,.slice none 0 0,.bool false]) none [],.mk none (.store 5 (.tmp 5) (.tmp 10)) none [5,4,0,1,2,3,4,5]]
def l51r2:List AOper :=
  [.mk (some 11) (.fld 0 (.tmp 5)) none [],.mk (some 12) (.load false 1 (.tmp 11)) none [0],.mk (some 13) (.mv (.tmp 1)) none [],.mk (some 14) (.bin .sub (.tmp 13) (.const (.int .i64 1))) none [2],.mk (some 15) (.call 33 [.tmp 12,.const (.int .i64 (-1)),.tmp 14]) none [1,3],.mk (some 16) (.un .not (.tmp 15)) none [4],.mk (some 17) (.mv (.tmp 16)) none [5,4],.mk (some 18) (.fld 1 (.tmp 5)) (some (17,false)) [6],.mk (some 19) (.load true 3 (.tmp 18)) (some (17,false)) [7,6],.mk (some 20) (.call 65 [.tmp 19]) (some (17,false)) [8,6,6],.mk (some 21) (.un .not (.tmp 20)) (some (17,false)) [9,6],.mk (some 22) (.pick (.tmp 17) (.const (.bool true)) (.tmp 21)) none [6,10]]
def l51r3:List AOper :=
  [.mk (some 4) (.mv (.const (.bool false))) none []]
def l51r4:List AOper :=
  [.mk (some 23) (.fld 4 (.tmp 5)) none [],.mk (some 24) (.load false 1 (.tmp 23)) none [0],.mk (some 25) (.un .not (.tmp 24)) none [1],.mk (some 26) (.mv (.tmp 25)) none [2],.mk (some 27) (.fld 1 (.tmp 5)) (some (26,false)) [3],.mk (some 28) (.load true 3 (.tmp 27)) (some (26,false)) [4,3],.mk (some 29) (.fld 0 (.tmp 2)) (some (26,false)) [3],.mk (some 30) (.load false 1 (.tmp 29)) (some (26,false)) [6,3],.mk (some 31) (.len (.tmp 30)) (some (26,false)) [7,3],.mk (some 32) (.call 66 [.tmp 28,.tmp 31]) (some (26,false)) [5,8,3,3],.mk (some 33) (.mv (.tmp 32)) (some (26,false)) [9,9,3],.mk (some 34) (.fld 0 (.tmp 5)) (some (33,true)) [10],.mk (some 35) (.load false 1 (.tmp 34)) (some (33,true)) [11,10],.mk (some 36) (.bin .lss (.tmp 35) (.const (.int .i64 0))) (some (33,true)) [12,10],.mk (some 37) (.mv (.tmp 36)) (some (33,true)) [13,10,10],.mk (some 38) (.fld 1 (.tmp 2)) (some (37,false)) [14],.mk (some 39) (.load false 1 (.tmp 38)) (some (37,false)) [15,14],.mk (some 40) (.fld 0 (.tmp 5)) (some (37,false)) [14],.mk (some 41) (.load false 1 (.tmp 40)) (some (37,false)) [17,14],.mk (some 42) (.idxA 5 (.tmp 39) (.tmp 41)) (some (37,false)) [16,18,14],.mk (some 43) (.fld 4 (.tmp 42)) (some (37,false)) [19,14],.mk (some 44) (.load false 1 (.tmp 43)) (some (37,false)) [20,14],.mk (some 45) (.pick (.tmp 37) (.const (.bool true)) (.tmp 44)) (some (33,true)) [14,21,10],.mk (some 46) (.pick (.tmp 33) (.tmp 45) (.const (.bool false))) (some (26,false)) [10,22,3],.mk (some 47) (.pick (.tmp 26) (.const (.bool true)) (.tmp 46)) none [3,23],.mk (some 4) (.mv (.tmp 47)) none [24,14,0,1,2,3,4,5,6,7,8,9,10,11,12,13,14,15,16,17,18,19,20,21,22,23,24]]
def l51:AFn :=
  (AFn.mk 48 2 (.seq (.reg l51r0) (.seq (.reg l51r1) (.seq (.seq (.reg l51r2) (.cond (.tmp 22) (.seq (.reg l51r3) .ret) .skip)) (.seq (.reg l51r4) .ret)))) [.tmp 4])
theorem l51_eq:lowFn Tryd.prog 51=some l51:=by kernel_rfl
def l52r0:List AOper :=
  [.mk (some 2) (.mv (.const (.bool false))) none []]
def l52r1:List AOper :=
  [.mk (some 3) (.mv (.tmp 0)) none [],.mk (some 4) (.len (.tmp 3)) none [0],.mk (some 5) (.bin .leq (.tmp 4) (.const (.int .i64 60))) none [1],.mk (some 6) (.mv (.tmp 5)) none [2],.mk (some 7) (.mv (.tmp 0)) (some (6,true)) [3],.mk (some 8) (.call 67 [.tmp 7,.const (.int .i64 0),.const (.int .i64 255)]) (some (6,true)) [4,3,3],.mk (some 9) (.pick (.tmp 6) (.tmp 8) (.const (.bool false))) none [3,5],.mk (some 2) (.mv (.tmp 9)) none [6,5,0,1,2,3,4,5,6]]
def l52:AFn :=
  (AFn.mk 10 1 (.seq (.reg l52r0) (.seq (.reg l52r1) .ret)) [.tmp 2])
theorem l52_eq:lowFn Tryd.prog 52=some l52:=by kernel_rfl
def l53r0:List AOper :=
  [.mk (some 4) (.mv (.const (.bool false))) none []]
def l53r1:List AOper :=
  [.mk (some 5) (.mv (.tmp 0)) none [],.mk (some 6) (.bin .leq (.const (.int .i64 0)) (.tmp 5)) none [0],.mk (some 7) (.mv (.tmp 6)) none [1],.mk (some 8) (.mv (.tmp 0)) (some (7,true)) [2],.mk (some 9) (.mv (.tmp 1)) (some (7,true)) [2],.mk (some 10) (.bin .leq (.tmp 8) (.tmp 9)) (some (7,true)) [3,4,2],.mk (some 11) (.pick (.tmp 7) (.tmp 10) (.const (.bool false))) none [2,5],.mk (some 4) (.mv (.tmp 11)) none [6,2,0,1,2,3,4,5,6]]
def l53:AFn :=
  (AFn.mk 12 2 (.seq (.reg l53r0) (.seq (.reg l53r1) .ret)) [.tmp 4])
theorem l53_eq:lowFn Tryd.prog 53=some l53:=by kernel_rfl
def l56r0:List AOper :=
  [.mk (some 2) (.mv (.const (.slice none 0 0))) none []]
def l56r1:List AOper :=
  [.mk (some 3) (.bslice 1 [.int .i64 0] [] 0) none [],.mk (some 4) (.mv (.tmp 0)) none [],.mk (some 5) (.append 1 (.tmp 3) (.tmp 4)) none [0,1],.mk (some 2) (.mv (.tmp 5)) none [2,2,0,1,2]]
def l56:AFn :=
  (AFn.mk 6 1 (.seq (.reg l56r0) (.seq (.reg l56r1) .ret)) [.tmp 2])
theorem l56_eq:lowFn Tryd.prog 56=some l56:=by kernel_rfl
def l57r0:List AOper :=
  [.mk (some 1) (.box (.tmp 0)) none [],.mk (some 2) (.alloc [.int .i64 0,.slice none 0 0,.slice none 0 0]) none []]
def l57r1a:List AOper :=
  [.mk (some 3) (.fld 0 (.tmp 1)) none [],.mk (some 4) (.load false 1 (.tmp 3)) none [0],.mk (some 5) (.fld 1 (.tmp 1)) none [],.mk (some 6) (.load false 1 (.tmp 5)) none [2],.mk (some 7) (.call 56 [.tmp 6]) none [3],.mk (some 8) (.fld 2 (.tmp 1)) none [],.mk (some 9) (.load false 1 (.tmp 8)) none [5],.mk (some 10) (.call 56 [.tmp 9]) none [6,4]]
def l57r1b:List AOper :=
  [.mk (some 11) (.build [.int .i64 0,.slice none 0 0,.slice none 0 0] [(0,1,.tmp 4),(1,1,.tmp 7),(2,1,.tmp 10)]) none [1,4,7],.mk none (.store 3 (.tmp 2) (.tmp 11)) none [8,7,0,1,2,3,4,5,6,7,8]]
def l57r1:List AOper:=l57r1a ++ l57r1b
def l57:AFn :=
  (AFn.mk 12 1 (.seq (.reg l57r0) (.seq (.draw l57r1) .ret)) [.cell 2 true 3])
theorem l57_eq:lowFn Tryd.prog 57=some l57:=by kernel_rfl
def l58r0:List AOper :=
  [.mk (some 2) (.alloc [.slice none 0 0,.slice none 0 0]) none []]
def l58r1:List AOper :=
  [.mk (some 3) (.mv (.tmp 0)) none [],.mk (some 4) (.call 33 [.tmp 3,.const (.int .i64 0),.const (.int .i64 60)]) none [0],.mk (some 5) (.un .not (.tmp 4)) none [1]]
def l58r2:List AOper :=
  [.mk (some 6) (.build [.slice none 0 0,.slice none 0 0] []) none [],.mk none (.store 2 (.tmp 2) (.tmp 6)) none [0,0]]
def l58r3:List AOper :=
  [.mk (some 7) (.mv (.tmp 0)) none [],.mk (some 8) (.mkslice 1 [.int .i64 0] (.tmp 7) (.tmp 7)) none [0,0],.mk (some 9) (.build [.slice none 0 0,.slice none 0 0] [(0,1,.tmp 8)]) none [1],.mk none (.store 2 (.tmp 2) (.tmp 9)) none [2,0,1,2]]
def l58:AFn :=
  (AFn.mk 10 1 (.seq (.reg l58r0) (.seq (.seq (.reg l58r1) (.cond (.tmp 5) (.seq (.reg l58r2) .ret) .skip)) (.seq (.reg l58r3) .ret))) [.cell 2 true 2])
theorem l58_eq:lowFn Tryd.prog 58=some l58:=by kernel_rfl
def l59r0:List AOper :=
  [.mk (some 2) (.box (.tmp 0)) none [],.mk (some 3) (.box (.tmp 1)) none [],.mk (some 4) (.alloc [.slice none 0 0,.slice none 0 0]) none [],.mk (some 5) (.mv (.const (.string (ByteArray.mk (Array.mk []))))) none []]
def l59r1:List AOper :=
  [.mk (some 9) (.load true 2 (.tmp 2)) none [],.mk (some 10) (.load true 2 (.tmp 3)) none [],.mk (some 11) (.call 68 [.tmp 9,.tmp 10]) none [0,1],.mk (some 8) (.mv (.tmp 11)) none [2],.mk (some 12) (.extract (.tmp 8) 0) none [3],.mk (some 13) (.extract (.tmp 8) 1) none [3],.mk (some 6) (.alloc [.slice none 0 0,.slice none 0 0]) none [],.mk none (.store 2 (.tmp 6) (.tmp 12)) none [6,4,2,0,1,2,3,4,6],.mk (some 7) (.mv (.tmp 13)) none [5,7,0,1,2,3,4,5,6,7]]
def l59r2:List AOper :=
  [.mk (some 15) (.mv (.tmp 7)) none [],.mk (some 16) (.un .not (.tmp 15)) none [0],.mk (some 14) (.mv (.tmp 16)) none [1]]
def l59r3:List AOper :=
  [.mk (some 17) (.load true 2 (.tmp 2)) none [],.mk none (.store 2 (.tmp 4) (.tmp 17)) none [0,0],.mk (some 5) (.mv (.const (.string (ByteArray.mk (Array.mk [(110:UInt8),(111:UInt8)]))))) none [1,0,1]]
def l59r4:List AOper :=
  [.mk (some 19) (.fld 0 (.tmp 3)) none [],.mk (some 20) (.load false 1 (.tmp 19)) none [0],.mk (some 21) (.bin .eql (.tmp 20) (.const (.int .i64 6))) none [1],.mk (some 18) (.mv (.tmp 21)) none [2]]
def l59r5a:List AOper :=
  [.mk (some 22) (.load true 2 (.tmp 2)) none [],.mk (some 23) (.fld 0 (.tmp 2)) none [],.mk (some 24) (.load false 1 (.tmp 23)) none [1],.mk (some 25) (.fld 1 (.tmp 2)) none [],.mk (some 26) (.load false 1 (.tmp 25)) none [3],.mk (some 27) (.fld 1 (.tmp 3)) none [],.mk (some 28) (.load false 1 (.tmp 27)) none [5],.mk (some 29) (.idxA 1 (.tmp 28) (.const (.int .i64 0))) none [6],.mk (some 30) (.load false 1 (.tmp 29)) none [7],.mk (some 31) (.idxA 5 (.tmp 26) (.tmp 30)) none [4,8],.mk (some 32) (.fld 1 (.tmp 31)) none [9],.mk (some 33) (.load true 3 (.tmp 32)) none [10],.mk (some 34) (.call 70 [.tmp 24,.tmp 33]) none [2,11],.mk (some 35) (.call 69 [.tmp 34]) none [12,12],.mk (some 36) (.bin .add (.const (.string (ByteArray.mk (Array.mk [(104:UInt8),(97:UInt8),(115:UInt8)])))) (.tmp 35)) none [13],.mk none (.store 2 (.tmp 4) (.tmp 22)) none [0,13,0]]
def l59r5b:List AOper :=
  [.mk (some 5) (.mv (.tmp 36)) none [14,15,0,1,2,3,4,5,6,7,8,9,10,11,12,13,14,15]]
def l59r5:List AOper:=l59r5a ++ l59r5b
def l59r6:List AOper :=
  [.mk (some 38) (.fld 0 (.tmp 3)) none [],.mk (some 39) (.load false 1 (.tmp 38)) none [0],.mk (some 40) (.bin .eql (.tmp 39) (.const (.int .i64 1))) none [1],.mk (some 41) (.mv (.tmp 40)) none [2],.mk (some 42) (.fld 0 (.tmp 3)) (some (41,false)) [3],.mk (some 43) (.load false 1 (.tmp 42)) (some (41,false)) [4,3],.mk (some 44) (.bin .eql (.tmp 43) (.const (.int .i64 2))) (some (41,false)) [5,3],.mk (some 45) (.pick (.tmp 41) (.const (.bool true)) (.tmp 44)) none [3,6],.mk (some 46) (.mv (.tmp 45)) none [7,3],.mk (some 47) (.fld 0 (.tmp 3)) (some (46,false)) [8],.mk (some 48) (.load false 1 (.tmp 47)) (some (46,false)) [9,8],.mk (some 49) (.bin .eql (.tmp 48) (.const (.int .i64 3))) (some (46,false)) [10,8],.mk (some 50) (.pick (.tmp 46) (.const (.bool true)) (.tmp 49)) none [8,11],.mk (some 37) (.mv (.tmp 50)) none [12,8]]
def l59r7a:List AOper :=
  [.mk (some 51) (.load true 2 (.tmp 6)) none [],.mk (some 52) (.fld 1 (.tmp 6)) none [],.mk (some 53) (.load false 1 (.tmp 52)) none [1],.mk (some 54) (.len (.tmp 53)) none [2],.mk (some 55) (.bin .sub (.tmp 54) (.const (.int .i64 1))) none [3],.mk (some 56) (.call 71 [.tmp 55]) none [4],.mk (some 57) (.bin .add (.const (.string (ByteArray.mk (Array.mk [(97:UInt8),(116:UInt8),(32:UInt8)])))) (.tmp 56)) none [5],.mk none (.store 2 (.tmp 4) (.tmp 51)) none [0,5,0]]
def l59r7b:List AOper :=
  [.mk (some 5) (.mv (.tmp 57)) none [6,7,0,1,2,3,4,5,6,7]]
def l59r7:List AOper:=l59r7a ++ l59r7b
def l59r8:List AOper :=
  [.mk (some 58) (.load true 2 (.tmp 6)) none [],.mk none (.store 2 (.tmp 4) (.tmp 58)) none [0,0],.mk (some 5) (.mv (.const (.string (ByteArray.mk (Array.mk [(111:UInt8),(107:UInt8)]))))) none [1,0,1]]
def l59:AFn :=
  (AFn.mk 59 2 (.seq (.reg l59r0) (.seq (.reg l59r1) (.seq (.block 0 (.seq (.reg l59r2) (.cond (.tmp 14) (.seq (.reg l59r3) .ret) (.seq (.reg l59r4) (.cond (.tmp 18) (.seq (.draw l59r5) .ret) (.seq (.reg l59r6) (.cond (.tmp 37) (.seq (.draw l59r7) .ret) .skip))))))) (.seq (.reg l59r8) .ret)))) [.cell 4 true 2,.tmp 5])
theorem l59_eq:lowFn Tryd.prog 59=some l59:=by kernel_rfl
def l60r0:List AOper :=
  [.mk (some 3) (.box (.tmp 1)) none [],.mk (some 4) (.alloc [.int .i64 0,.slice none 0 0]) none []]
def l60r1:List AOper :=
  [.mk (some 8) (.mv (.tmp 0)) none [],.mk (some 9) (.fld 1 (.tmp 3)) none [],.mk (some 10) (.load false 1 (.tmp 9)) none [1],.mk (some 11) (.len (.tmp 10)) none [2],.mk (some 12) (.bin .add (.tmp 11) (.const (.int .i64 1))) none [3],.mk (some 13) (.call 40 [.tmp 8,.tmp 12]) none [0,4],.mk (some 5) (.mv (.tmp 13)) none [5,5,0,1,2,3,4,5]]
def l60r2:List AOper :=
  [.mk (some 14) (.load true 2 (.tmp 3)) none [],.mk (some 15) (.call 18 [.tmp 14]) none [0],.mk (some 6) (.mv (.tmp 15)) none [1,1,0,1]]
def l60r3:List AOper :=
  [.mk (some 16) (.mv (.tmp 6)) none [],.mk (some 17) (.len (.tmp 16)) none [0],.mk (some 18) (.bin .gtr (.tmp 17) (.const (.int .i64 0))) none [1],.mk (some 19) (.mv (.tmp 18)) none [2],.mk (some 20) (.mv (.tmp 0)) (some (19,true)) [3],.mk (some 21) (.call 40 [.tmp 20,.const (.int .i64 4)]) (some (19,true)) [4,3,3],.mk (some 22) (.bin .gtr (.tmp 21) (.const (.int .i64 0))) (some (19,true)) [5,3],.mk (some 23) (.pick (.tmp 19) (.tmp 22) (.const (.bool false))) none [3,6]]
def l60r4:List AOper :=
  [.mk (some 24) (.mv (.tmp 6)) none [],.mk (some 25) (.mv (.tmp 0)) none [],.mk (some 26) (.mv (.tmp 6)) none [],.mk (some 27) (.len (.tmp 26)) none [2],.mk (some 28) (.call 40 [.tmp 25,.tmp 27]) none [1,3],.mk (some 29) (.idxA 1 (.tmp 24) (.tmp 28)) none [0,4],.mk (some 30) (.load false 1 (.tmp 29)) none [5],.mk (some 5) (.mv (.tmp 30)) none [6,4,0,1,2,3,4,5,6]]
def l60r5:List AOper :=
  [.mk (some 31) (.mv (.tmp 0)) none [],.mk (some 32) (.bslice 1 [.int .i64 0] [(0,.const (.int .i64 1)),(1,.const (.int .i64 2)),(2,.const (.int .i64 3)),(3,.const (.int .i64 4)),(4,.const (.int .i64 5)),(5,.const (.int .i64 6)),(6,.const (.int .i64 7)),(7,.const (.int .i64 0)),(8,.const (.int .i64 6)),(9,.const (.int .i64 4))] 10) none [],.mk (some 33) (.call 41 [.tmp 31,.tmp 32]) none [0,1],.mk (some 7) (.mv (.tmp 33)) none [2,2,0,1,2]]
def l60r6:List AOper :=
  [.mk (some 34) (.mv (.tmp 7)) none []]
def l60r7:List AOper :=
  [.mk (some 40) (.bin .eql (.tmp 34) (.const (.int .i64 0))) none [],.mk (some 39) (.mv (.tmp 40)) none [0]]
def l60r8:List AOper :=
  [.mk (some 41) (.mv (.tmp 7)) none [],.mk (some 42) (.mv (.tmp 0)) none [],.mk (some 43) (.bslice 1 [.int .i64 0] [(0,.const (.int .i64 12)),(1,.const (.int .i64 20)),(2,.const (.int .i64 8)),(3,.const (.int .i64 30)),(4,.const (.int .i64 0))] 5) none [],.mk (some 44) (.call 41 [.tmp 42,.tmp 43]) none [1,2],.mk (some 45) (.bslice 1 [.int .i64 0] [(0,.tmp 44)] 1) none [3],.mk (some 46) (.build [.int .i64 0,.slice none 0 0] [(0,1,.tmp 41),(1,1,.tmp 45)]) none [0,4],.mk none (.store 2 (.tmp 4) (.tmp 46)) none [5,3,0,1,2,3,4,5]]
def l60r9:List AOper :=
  [.mk (some 48) (.bin .eql (.tmp 34) (.const (.int .i64 1))) none [],.mk (some 47) (.mv (.tmp 48)) none [0]]
def l60r10:List AOper :=
  [.mk (some 49) (.mv (.tmp 7)) none [],.mk (some 50) (.mv (.tmp 0)) none [],.mk (some 51) (.call 40 [.tmp 50,.const (.int .i64 6)]) none [1],.mk (some 52) (.mv (.tmp 0)) none [],.mk (some 53) (.bslice 1 [.int .i64 0] [(0,.const (.int .i64 4)),(1,.const (.int .i64 3)),(2,.const (.int .i64 5)),(3,.const (.int .i64 2)),(4,.const (.int .i64 0))] 5) none [],.mk (some 54) (.call 41 [.tmp 52,.tmp 53]) none [3,4,2],.mk (some 55) (.mv (.tmp 0)) none [],.mk (some 56) (.bslice 1 [.int .i64 0] [(0,.const (.int .i64 1)),(1,.const (.int .i64 2)),(2,.const (.int .i64 3)),(3,.const (.int .i64 0)),(4,.const (.int .i64 (-1)))] 5) none [],.mk (some 57) (.call 41 [.tmp 55,.tmp 56]) none [6,7,5],.mk (some 58) (.bslice 1 [.int .i64 0] [(0,.tmp 51),(1,.tmp 54),(2,.tmp 57)] 3) none [2,5,8],.mk (some 59) (.build [.int .i64 0,.slice none 0 0] [(0,1,.tmp 49),(1,1,.tmp 58)]) none [0,9],.mk none (.store 2 (.tmp 4) (.tmp 59)) none [10,8,0,1,2,3,4,5,6,7,8,9,10]]
def l60r11:List AOper :=
  [.mk (some 61) (.bin .eql (.tmp 34) (.const (.int .i64 2))) none [],.mk (some 60) (.mv (.tmp 61)) none [0]]
def l60r12:List AOper :=
  [.mk (some 62) (.mv (.tmp 7)) none [],.mk (some 63) (.mv (.tmp 5)) none [],.mk (some 64) (.mv (.tmp 0)) none [],.mk (some 65) (.call 40 [.tmp 64,.const (.int .i64 4)]) none [2],.mk (some 66) (.mv (.tmp 0)) none [],.mk (some 67) (.bslice 1 [.int .i64 0] [(0,.const (.int .i64 3)),(1,.const (.int .i64 4)),(2,.const (.int .i64 (-1))),(3,.const (.int .i64 2))] 4) none [],.mk (some 68) (.call 41 [.tmp 66,.tmp 67]) none [4,5,3],.mk (some 69) (.mv (.tmp 0)) none [],.mk (some 70) (.bslice 1 [.int .i64 0] [(0,.const (.int .i64 1)),(1,.const (.int .i64 2)),(2,.const (.int .i64 (-1))),(3,.const (.int .i64 1))] 4) none [],.mk (some 71) (.call 41 [.tmp 69,.tmp 70]) none [7,8,6],.mk (some 72) (.bslice 1 [.int .i64 0] [(0,.tmp 63),(1,.tmp 65),(2,.tmp 68),(3,.tmp 71)] 4) none [1,3,6,9],.mk (some 73) (.build [.int .i64 0,.slice none 0 0] [(0,1,.tmp 62),(1,1,.tmp 72)]) none [0,10],.mk none (.store 2 (.tmp 4) (.tmp 73)) none [11,9,0,1,2,3,4,5,6,7,8,9,10,11]]
def l60r13:List AOper :=
  [.mk (some 75) (.bin .eql (.tmp 34) (.const (.int .i64 4))) none [],.mk (some 74) (.mv (.tmp 75)) none [0]]
def l60r14:List AOper :=
  [.mk (some 76) (.mv (.tmp 7)) none [],.mk (some 77) (.mv (.tmp 5)) none [],.mk (some 78) (.mv (.tmp 0)) none [],.mk (some 79) (.call 40 [.tmp 78,.const (.int .i64 100)]) none [2],.mk (some 80) (.bslice 1 [.int .i64 0] [(0,.tmp 77),(1,.tmp 79)] 2) none [1,3],.mk (some 81) (.build [.int .i64 0,.slice none 0 0] [(0,1,.tmp 76),(1,1,.tmp 80)]) none [0,4],.mk none (.store 2 (.tmp 4) (.tmp 81)) none [5,3,0,1,2,3,4,5]]
def l60r15:List AOper :=
  [.mk (some 83) (.bin .eql (.tmp 34) (.const (.int .i64 5))) none [],.mk (some 82) (.mv (.tmp 83)) none [0]]
def l60r16:List AOper :=
  [.mk (some 84) (.mv (.tmp 7)) none [],.mk (some 85) (.mv (.tmp 5)) none [],.mk (some 86) (.mv (.tmp 0)) none [],.mk (some 87) (.fld 1 (.tmp 3)) none [],.mk (some 88) (.load false 1 (.tmp 87)) none [3],.mk (some 89) (.len (.tmp 88)) none [4],.mk (some 90) (.bin .add (.tmp 89) (.const (.int .i64 1))) none [5],.mk (some 91) (.call 40 [.tmp 86,.tmp 90]) none [2,6],.mk (some 92) (.bslice 1 [.int .i64 0] [(0,.tmp 85),(1,.tmp 91)] 2) none [1,7],.mk (some 93) (.build [.int .i64 0,.slice none 0 0] [(0,1,.tmp 84),(1,1,.tmp 92)]) none [0,8],.mk none (.store 2 (.tmp 4) (.tmp 93)) none [9,7,0,1,2,3,4,5,6,7,8,9]]
def l60r17:List AOper :=
  [.mk (some 35) (.mv (.tmp 7)) none [],.mk (some 36) (.mv (.tmp 5)) none [],.mk (some 37) (.bslice 1 [.int .i64 0] [(0,.tmp 36)] 1) none [1],.mk (some 38) (.build [.int .i64 0,.slice none 0 0] [(0,1,.tmp 35),(1,1,.tmp 37)]) none [0,2],.mk none (.store 2 (.tmp 4) (.tmp 38)) none [3,0,1,2,3]]
def l60:AFn :=
  (AFn.mk 94 2 (.seq (.reg l60r0) (.seq (.reg l60r1) (.seq (.seq (.reg l60r2) (.seq (.reg l60r3) (.cond (.tmp 23) (.reg l60r4) .skip))) (.seq (.reg l60r5) (.seq (.reg l60r6) (.block 0 (.seq (.reg l60r7) (.cond (.tmp 39) (.seq (.reg l60r8) .ret) (.seq (.reg l60r9) (.cond (.tmp 47) (.seq (.reg l60r10) .ret) (.seq (.reg l60r11) (.cond (.tmp 60) (.seq (.reg l60r12) .ret) (.seq (.reg l60r13) (.cond (.tmp 74) (.seq (.reg l60r14) .ret) (.seq (.reg l60r15) (.cond (.tmp 82) (.seq (.reg l60r16) .ret) (.seq (.reg l60r17) .ret))))))))))))))))) [.cell 4 true 2])
theorem l60_eq:lowFn Tryd.prog 60=some l60:=by kernel_rfl
def l61r0:List AOper :=
  [.mk (some 2) (.mv (.const (.bool false))) none []]
def l61r1:List AOper :=
  [.mk (some 5) (.mv (.tmp 0)) none [],.mk (some 6) (.len (.tmp 5)) none [0],.mk (some 7) (.bin .gtr (.tmp 6) (.const (.int .i64 4))) none [1]]
def l61r2:List AOper :=
  [.mk (some 2) (.mv (.const (.bool false))) none []]
def l61r3:List AOper :=
  [.mk (some 8) (.mv (.tmp 0)) none [],.mk (some 9) (.len (.tmp 8)) none [0],.mk (some 10) (.mv (.const (.int .i64 0))) none []]
def l61r4:List AOper :=
  [.mk (some 11) (.bin .lss (.tmp 10) (.tmp 9)) none []]
def l61r5:List AOper :=
  [.mk (some 12) (.idxA 1 (.tmp 8) (.tmp 10)) none [],.mk (some 13) (.load false 1 (.tmp 12)) none [0],.mk (some 4) (.mv (.tmp 13)) none [1,0,1]]
def l61r6:List AOper :=
  [.mk (some 14) (.mv (.tmp 4)) none [],.mk (some 15) (.call 53 [.tmp 14,.const (.int .i64 60)]) none [0],.mk (some 16) (.un .not (.tmp 15)) none [1]]
def l61r7:List AOper :=
  [.mk (some 2) (.mv (.const (.bool false))) none []]
def l61r8:List AOper :=
  [.mk (some 17) (.bin .add (.tmp 10) (.const (.int .i64 1))) none [],.mk (some 10) (.mv (.tmp 17)) none [0]]
def l61r9:List AOper :=
  [.mk (some 18) (.mv (.tmp 0)) none [],.mk (some 19) (.call 72 [.tmp 18]) none [0],.mk (some 20) (.bin .leq (.tmp 19) (.const (.int .i64 60))) none [1],.mk (some 2) (.mv (.tmp 20)) none [2,1,0,1,2]]
def l61:AFn :=
  (AFn.mk 21 1 (.seq (.reg l61r0) (.seq (.seq (.reg l61r1) (.cond (.tmp 7) (.seq (.reg l61r2) .ret) .skip)) (.seq (.seq (.reg l61r3) (.block 0 (.loop (.seq (.reg l61r4) (.seq (.cond (.tmp 11) .skip (.exit 0)) (.seq (.block 1 (.seq (.reg l61r5) (.seq (.reg l61r6) (.cond (.tmp 16) (.seq (.reg l61r7) .ret) .skip)))) (.reg l61r8))))))) (.seq (.reg l61r9) .ret)))) [.tmp 2])
theorem l61_eq:lowFn Tryd.prog 61=some l61:=by kernel_rfl
def l62r0:List AOper :=
  [.mk (some 4) (.mv (.const (.bool false))) none []]
def l62r1:List AOper :=
  [.mk (some 7) (.mv (.tmp 0)) none [],.mk (some 8) (.len (.tmp 7)) none [0],.mk (some 9) (.mv (.tmp 1)) none [],.mk (some 10) (.bin .neq (.tmp 8) (.tmp 9)) none [1,2]]
def l62r2:List AOper :=
  [.mk (some 4) (.mv (.const (.bool false))) none []]
def l62r3:List AOper :=
  [.mk (some 11) (.mv (.tmp 0)) none [],.mk (some 12) (.len (.tmp 11)) none [0],.mk (some 13) (.mv (.const (.int .i64 0))) none []]
def l62r4:List AOper :=
  [.mk (some 14) (.bin .lss (.tmp 13) (.tmp 12)) none []]
def l62r5:List AOper :=
  [.mk (some 15) (.idxA 1 (.tmp 11) (.tmp 13)) none [],.mk (some 16) (.load false 1 (.tmp 15)) none [0],.mk (some 6) (.mv (.tmp 16)) none [1,0,1]]
def l62r6:List AOper :=
  [.mk (some 17) (.mv (.tmp 6)) none [],.mk (some 18) (.call 73 [.tmp 17,.const (.int .i64 60)]) none [0],.mk (some 19) (.un .not (.tmp 18)) none [1]]
def l62r7:List AOper :=
  [.mk (some 4) (.mv (.const (.bool false))) none []]
def l62r8:List AOper :=
  [.mk (some 20) (.bin .add (.tmp 13) (.const (.int .i64 1))) none [],.mk (some 13) (.mv (.tmp 20)) none [0]]
def l62r9:List AOper :=
  [.mk (some 4) (.mv (.const (.bool true))) none []]
def l62:AFn :=
  (AFn.mk 21 2 (.seq (.reg l62r0) (.seq (.seq (.reg l62r1) (.cond (.tmp 10) (.seq (.reg l62r2) .ret) .skip)) (.seq (.seq (.reg l62r3) (.block 0 (.loop (.seq (.reg l62r4) (.seq (.cond (.tmp 14) .skip (.exit 0)) (.seq (.block 1 (.seq (.reg l62r5) (.seq (.reg l62r6) (.cond (.tmp 19) (.seq (.reg l62r7) .ret) .skip)))) (.reg l62r8))))))) (.seq (.reg l62r9) .ret)))) [.tmp 4])
theorem l62_eq:lowFn Tryd.prog 62=some l62:=by kernel_rfl
def l63r0:List AOper :=
  [.mk (some 1) (.box (.tmp 0)) none [],.mk (some 2) (.mv (.const (.int .i64 0))) none [],.mk (some 3) (.mv (.const (.int .i64 0))) none [1]]
def l63r1:List AOper :=
  [.mk (some 9) (.load true 3 (.tmp 1)) none [],.mk (some 10) (.call 64 [.tmp 9]) none [0],.mk (some 11) (.bin .eql (.tmp 10) (.const (.int .i64 0))) none [1]]
def l63r2:List AOper :=
  [.mk (some 2) (.mv (.const (.int .i64 (-1)))) none [],.mk (some 3) (.mv (.const (.int .i64 (-1)))) none [0,0]]
def l63r3a:List AOper :=
  [.mk (some 12) (.fld 0 (.tmp 1)) none [],.mk (some 13) (.load false 1 (.tmp 12)) none [0],.mk (some 14) (.fld 0 (.tmp 1)) none [],.mk (some 15) (.load false 1 (.tmp 14)) none [2],.mk (some 4) (.mv (.tmp 13)) none [1,0,1]]
def l63r3b:List AOper :=
  [.mk (some 5) (.mv (.tmp 15)) none [3,4,0,1,2,3,4]]
def l63r3:List AOper:=l63r3a ++ l63r3b
def l63r4:List AOper :=
  [.mk (some 16) (.fld 2 (.tmp 1)) none [],.mk (some 17) (.load false 1 (.tmp 16)) none [0],.mk (some 18) (.len (.tmp 17)) none [1],.mk (some 19) (.mv (.const (.int .i64 0))) none []]
def l63r5:List AOper :=
  [.mk (some 20) (.bin .lss (.tmp 19) (.tmp 18)) none []]
def l63r6:List AOper :=
  [.mk (some 21) (.mv (.tmp 19)) none [],.mk (some 22) (.idxA 1 (.tmp 17) (.tmp 19)) none [],.mk (some 23) (.load false 1 (.tmp 22)) none [1],.mk (some 6) (.mv (.tmp 21)) none [0,0,1,2],.mk (some 7) (.mv (.tmp 23)) none [2,3,0,1,2,3]]
def l63r7:List AOper :=
  [.mk (some 24) (.fld 1 (.tmp 1)) none [],.mk (some 25) (.load false 1 (.tmp 24)) none [0],.mk (some 26) (.mv (.tmp 6)) none [],.mk (some 27) (.idxA 1 (.tmp 25) (.tmp 26)) none [1,2],.mk (some 28) (.load false 1 (.tmp 27)) none [3],.mk (some 29) (.bin .sub (.tmp 28) (.const (.int .i64 1))) none [4],.mk (some 30) (.mv (.tmp 7)) none [],.mk (some 31) (.bin .mul (.tmp 29) (.tmp 30)) none [5,6],.mk (some 8) (.mv (.tmp 31)) none [7,0,1,2,3,4,5,6,7]]
def l63r8:List AOper :=
  [.mk (some 32) (.mv (.tmp 4)) none [],.mk (some 33) (.mv (.tmp 8)) none [],.mk (some 34) (.minmax false (.tmp 33) (.const (.int .i64 0))) none [1],.mk (some 35) (.bin .add (.tmp 32) (.tmp 34)) none [0,2],.mk (some 4) (.mv (.tmp 35)) none [3,0,1,2,3]]
def l63r9:List AOper :=
  [.mk (some 36) (.mv (.tmp 5)) none [],.mk (some 37) (.mv (.tmp 8)) none [],.mk (some 38) (.minmax true (.tmp 37) (.const (.int .i64 0))) none [1],.mk (some 39) (.bin .add (.tmp 36) (.tmp 38)) none [0,2],.mk (some 5) (.mv (.tmp 39)) none [3,0,1,2,3]]
def l63r10:List AOper :=
  [.mk (some 40) (.bin .add (.tmp 19) (.const (.int .i64 1))) none [],.mk (some 19) (.mv (.tmp 40)) none [0]]
def l63r11:List AOper :=
  [.mk (some 41) (.mv (.tmp 4)) none [],.mk (some 42) (.mv (.tmp 5)) none [],.mk (some 2) (.mv (.tmp 41)) none [0,0],.mk (some 3) (.mv (.tmp 42)) none [1,2,0,1,2]]
def l63:AFn :=
  (AFn.mk 43 1 (.seq (.reg l63r0) (.seq (.seq (.reg l63r1) (.cond (.tmp 11) (.seq (.reg l63r2) .ret) .skip)) (.seq (.draw l63r3) (.seq (.seq (.reg l63r4) (.block 0 (.loop (.seq (.reg l63r5) (.seq (.cond (.tmp 20) .skip (.exit 0)) (.seq (.block 1 (.seq (.reg l63r6) (.seq (.reg l63r7) (.seq (.reg l63r8) (.reg l63r9))))) (.reg l63r10))))))) (.seq (.reg l63r11) .ret))))) [.tmp 2,.tmp 3])
theorem l63_eq:lowFn Tryd.prog 63=some l63:=by kernel_rfl
def l64r0:List AOper :=
  [.mk (some 1) (.box (.tmp 0)) none [],.mk (some 2) (.mv (.const (.int .i64 0))) none []]
def l64r1:List AOper :=
  [.mk (some 3) (.fld 1 (.tmp 1)) none [],.mk (some 4) (.load false 1 (.tmp 3)) none [0],.mk (some 5) (.call 72 [.tmp 4]) none [1],.mk (some 2) (.mv (.tmp 5)) none [2,2,0,1,2]]
def l64:AFn :=
  (AFn.mk 6 1 (.seq (.reg l64r0) (.seq (.reg l64r1) .ret)) [.tmp 2])
theorem l64_eq:lowFn Tryd.prog 64=some l64:=by kernel_rfl
def l65r0:List AOper :=
  [.mk (some 1) (.box (.tmp 0)) none [],.mk (some 2) (.mv (.const (.bool false))) none []]
def l65r1:List AOper :=
  [.mk (some 3) (.fld 1 (.tmp 1)) none [],.mk (some 4) (.load false 1 (.tmp 3)) none [0],.mk (some 5) (.call 74 [.tmp 4]) none [1],.mk (some 6) (.mv (.tmp 5)) none [2,2],.mk (some 7) (.fld 2 (.tmp 1)) (some (6,true)) [3],.mk (some 8) (.load false 1 (.tmp 7)) (some (6,true)) [4,3],.mk (some 9) (.len (.tmp 8)) (some (6,true)) [5,3],.mk (some 10) (.fld 1 (.tmp 1)) (some (6,true)) [3],.mk (some 11) (.load false 1 (.tmp 10)) (some (6,true)) [7,3],.mk (some 12) (.len (.tmp 11)) (some (6,true)) [8,3],.mk (some 13) (.bin .eql (.tmp 9) (.tmp 12)) (some (6,true)) [6,9,3],.mk (some 14) (.pick (.tmp 6) (.tmp 13) (.const (.bool false))) none [3,10],.mk (some 15) (.mv (.tmp 14)) none [11,3],.mk (some 16) (.fld 2 (.tmp 1)) (some (15,true)) [12],.mk (some 17) (.load false 1 (.tmp 16)) (some (15,true)) [13,12],.mk (some 18) (.call 67 [.tmp 17,.const (.int .i64 (-60)),.const (.int .i64 60)]) (some (15,true)) [14,12,12],.mk (some 19) (.pick (.tmp 15) (.tmp 18) (.const (.bool false))) none [12,15],.mk (some 20) (.mv (.tmp 19)) none [16,15],.mk (some 21) (.fld 0 (.tmp 1)) (some (20,true)) [17],.mk (some 22) (.load false 1 (.tmp 21)) (some (20,true)) [18,17],.mk (some 23) (.call 33 [.tmp 22,.const (.int .i64 0),.const (.int .i64 60)]) (some (20,true)) [19,17,17],.mk (some 24) (.pick (.tmp 20) (.tmp 23) (.const (.bool false))) none [17,20],.mk (some 25) (.mv (.tmp 24)) none [21,20],.mk (some 26) (.fld 1 (.tmp 1)) (some (25,true)) [22],.mk (some 27) (.load false 1 (.tmp 26)) (some (25,true)) [23,22],.mk (some 28) (.call 75 [.tmp 27]) (some (25,true)) [24,22,22],.mk (some 29) (.bin .eql (.tmp 28) (.const (.int .i64 0))) (some (25,true)) [25,22],.mk (some 30) (.mv (.tmp 29)) (some (25,true)) [26,25,22],.mk (some 31) (.load true 3 (.tmp 1)) (some (30,false)) [27],.mk (some 32) (.call 76 [.tmp 31]) (some (30,false)) [28,27,27],.mk (some 33) (.call 67 [.tmp 32,.const (.int .i64 0),.const (.int .i64 59)]) (some (30,false)) [29,29,27],.mk (some 34) (.pick (.tmp 30) (.const (.bool true)) (.tmp 33)) (some (25,true)) [27,30,22],.mk (some 35) (.pick (.tmp 25) (.tmp 34) (.const (.bool false))) none [22,31],.mk (some 2) (.mv (.tmp 35)) none [32,30,0,1,2,3,4,5,6,7,8,9,10,11,12,13,14,15,16,17,18,19,20,21,22,23,24,25,26,27,28,29,30,31,32]]
def l65:AFn :=
  (AFn.mk 36 1 (.seq (.reg l65r0) (.seq (.reg l65r1) .ret)) [.tmp 2])
theorem l65_eq:lowFn Tryd.prog 65=some l65:=by kernel_rfl
def l66r0:List AOper :=
  [.mk (some 2) (.box (.tmp 0)) none [],.mk (some 4) (.mv (.const (.bool false))) none []]
def l66r1:List AOper :=
  [.mk (some 5) (.load true 3 (.tmp 2)) none [],.mk (some 6) (.call 76 [.tmp 5]) none [0],.mk (some 7) (.mv (.tmp 1)) none [],.mk (some 8) (.bin .sub (.tmp 7) (.const (.int .i64 1))) none [2],.mk (some 9) (.call 67 [.tmp 6,.const (.int .i64 0),.tmp 8]) none [1,3,1],.mk (some 4) (.mv (.tmp 9)) none [4,4,0,1,2,3,4]]
def l66:AFn :=
  (AFn.mk 10 2 (.seq (.reg l66r0) (.seq (.reg l66r1) .ret)) [.tmp 4])
theorem l66_eq:lowFn Tryd.prog 66=some l66:=by kernel_rfl
def l67r0:List AOper :=
  [.mk (some 6) (.mv (.const (.bool false))) none []]
def l67r1:List AOper :=
  [.mk (some 7) (.mv (.const (.int .i64 0))) none []]
def l67r2:List AOper :=
  [.mk (some 8) (.mv (.tmp 7)) none [],.mk (some 9) (.mv (.tmp 0)) none [],.mk (some 10) (.len (.tmp 9)) none [1],.mk (some 11) (.bin .lss (.tmp 8) (.tmp 10)) none [0,2]]
def l67r3:List AOper :=
  [.mk (some 14) (.mv (.tmp 0)) none [],.mk (some 15) (.mv (.tmp 7)) none [],.mk (some 16) (.idxA 1 (.tmp 14) (.tmp 15)) none [0,1],.mk (some 17) (.load false 1 (.tmp 16)) none [2],.mk (some 18) (.mv (.tmp 1)) none [],.mk (some 19) (.mv (.tmp 2)) none [],.mk (some 20) (.call 33 [.tmp 17,.tmp 18,.tmp 19]) none [3,4,5],.mk (some 21) (.un .not (.tmp 20)) none [6]]
def l67r4:List AOper :=
  [.mk (some 6) (.mv (.const (.bool false))) none []]
def l67r5:List AOper :=
  [.mk (some 12) (.mv (.tmp 7)) none [],.mk (some 13) (.bin .add (.tmp 12) (.const (.int .i64 1))) none [0],.mk (some 7) (.mv (.tmp 13)) none [1,0,1]]
def l67r6:List AOper :=
  [.mk (some 6) (.mv (.const (.bool true))) none []]
def l67:AFn :=
  (AFn.mk 22 3 (.seq (.reg l67r0) (.seq (.seq (.reg l67r1) (.block 0 (.loop (.seq (.seq (.reg l67r2) (.cond (.tmp 11) .skip (.exit 0))) (.seq (.block 1 (.seq (.reg l67r3) (.cond (.tmp 21) (.seq (.reg l67r4) .ret) .skip))) (.reg l67r5)))))) (.seq (.reg l67r6) .ret))) [.tmp 6])
theorem l67_eq:lowFn Tryd.prog 67=some l67:=by kernel_rfl
def l68r0:List AOper :=
  [.mk (some 2) (.box (.tmp 0)) none [],.mk (some 3) (.box (.tmp 1)) none [],.mk (some 4) (.alloc [.slice none 0 0,.slice none 0 0]) none [],.mk (some 5) (.mv (.const (.bool false))) none []]
def l68r1:List AOper :=
  [.mk (some 7) (.fld 1 (.tmp 3)) none [],.mk (some 8) (.load false 1 (.tmp 7)) none [0],.mk (some 6) (.mv (.tmp 8)) none [1,0,1]]
def l68r2:List AOper :=
  [.mk (some 9) (.fld 0 (.tmp 3)) none [],.mk (some 10) (.load false 1 (.tmp 9)) none [0]]
def l68r3:List AOper :=
  [.mk (some 12) (.bin .eql (.tmp 10) (.const (.int .i64 0))) none [],.mk (some 11) (.mv (.tmp 12)) none [0]]
def l68r4a:List AOper :=
  [.mk (some 13) (.load true 2 (.tmp 2)) none [],.mk (some 14) (.mv (.tmp 6)) none [],.mk (some 15) (.idxA 1 (.tmp 14) (.const (.int .i64 0))) none [1],.mk (some 16) (.load false 1 (.tmp 15)) none [2],.mk (some 17) (.call 22 [.tmp 13,.tmp 16]) none [0,3],.mk (some 18) (.extract (.tmp 17) 0) none [4],.mk (some 19) (.extract (.tmp 17) 1) none [4]]
def l68r4b:List AOper :=
  [.mk none (.store 2 (.tmp 4) (.tmp 18)) none [5,4,0,1,2,3,4,5,6],.mk (some 5) (.mv (.tmp 19)) none [6,7,0,1,2,3,4,5,6,7]]
def l68r4:List AOper:=l68r4a ++ l68r4b
def l68r5:List AOper :=
  [.mk (some 21) (.bin .eql (.tmp 10) (.const (.int .i64 1))) none [],.mk (some 20) (.mv (.tmp 21)) none [0]]
def l68r6a:List AOper :=
  [.mk (some 22) (.load true 2 (.tmp 2)) none [],.mk (some 23) (.mv (.tmp 6)) none [],.mk (some 24) (.idxA 1 (.tmp 23) (.const (.int .i64 0))) none [1],.mk (some 25) (.load false 1 (.tmp 24)) none [2],.mk (some 26) (.mv (.tmp 6)) none [],.mk (some 27) (.idxA 1 (.tmp 26) (.const (.int .i64 1))) none [4],.mk (some 28) (.load false 1 (.tmp 27)) none [5],.mk (some 29) (.bslice 1 [.int .i64 0] [(0,.tmp 28)] 1) none [6],.mk (some 30) (.mv (.tmp 6)) none [],.mk (some 31) (.idxA 1 (.tmp 30) (.const (.int .i64 2))) none [8],.mk (some 32) (.load false 1 (.tmp 31)) none [9],.mk (some 33) (.bslice 1 [.int .i64 0] [(0,.tmp 32)] 1) none [10],.mk (some 34) (.build [.int .i64 0,.slice none 0 0,.slice none 0 0] [(0,1,.tmp 25),(1,1,.tmp 29),(2,1,.tmp 33)]) none [3,7,11],.mk (some 35) (.call 77 [.tmp 22,.tmp 34]) none [0,12],.mk (some 36) (.extract (.tmp 35) 0) none [13],.mk (some 37) (.extract (.tmp 35) 1) none [13]]
def l68r6b:List AOper :=
  [.mk none (.store 2 (.tmp 4) (.tmp 36)) none [14,13,0,1,2,3,4,5,6,7,8,9,10,11,12,13,14,15],.mk (some 5) (.mv (.tmp 37)) none [15,16,0,1,2,3,4,5,6,7,8,9,10,11,12,13,14,15,16]]
def l68r6:List AOper:=l68r6a ++ l68r6b
def l68r7:List AOper :=
  [.mk (some 39) (.bin .eql (.tmp 10) (.const (.int .i64 2))) none [],.mk (some 38) (.mv (.tmp 39)) none [0]]
def l68r8a:List AOper :=
  [.mk (some 40) (.load true 2 (.tmp 2)) none [],.mk (some 41) (.mv (.tmp 6)) none [],.mk (some 42) (.idxA 1 (.tmp 41) (.const (.int .i64 0))) none [1],.mk (some 43) (.load false 1 (.tmp 42)) none [2],.mk (some 44) (.mv (.tmp 6)) none [],.mk (some 45) (.idxA 1 (.tmp 44) (.const (.int .i64 1))) none [4],.mk (some 46) (.load false 1 (.tmp 45)) none [5],.mk (some 47) (.mv (.tmp 6)) none [],.mk (some 48) (.idxA 1 (.tmp 47) (.const (.int .i64 2))) none [7],.mk (some 49) (.load false 1 (.tmp 48)) none [8],.mk (some 50) (.mv (.tmp 6)) none [],.mk (some 51) (.idxA 1 (.tmp 50) (.const (.int .i64 3))) none [10],.mk (some 52) (.load false 1 (.tmp 51)) none [11],.mk (some 53) (.build [.int .i64 0,.int .i64 0,.int .i64 0,.bool false,.bool false] [(0,1,.tmp 46),(1,1,.tmp 49),(2,1,.tmp 52),(3,1,.const (.bool true)),(4,1,.const (.bool true))]) none [6,9,12],.mk (some 54) (.call 78 [.tmp 40,.tmp 43,.const (.int .i64 0),.tmp 53]) none [0,3,13],.mk (some 55) (.extract (.tmp 54) 0) none [14],.mk (some 56) (.extract (.tmp 54) 1) none [14]]
def l68r8b:List AOper :=
  [.mk none (.store 2 (.tmp 4) (.tmp 55)) none [15,14,0,1,2,3,4,5,6,7,8,9,10,11,12,13,14,15,16],.mk (some 5) (.mv (.tmp 56)) none [16,17,0,1,2,3,4,5,6,7,8,9,10,11,12,13,14,15,16,17]]
def l68r8:List AOper:=l68r8a ++ l68r8b
def l68r9:List AOper :=
  [.mk (some 58) (.bin .eql (.tmp 10) (.const (.int .i64 3))) none [],.mk (some 57) (.mv (.tmp 58)) none [0]]
def l68r10a:List AOper :=
  [.mk (some 59) (.load true 2 (.tmp 2)) none [],.mk (some 60) (.mv (.tmp 6)) none [],.mk (some 61) (.idxA 1 (.tmp 60) (.const (.int .i64 0))) none [1],.mk (some 62) (.load false 1 (.tmp 61)) none [2],.mk (some 63) (.build [.int .i64 0,.int .i64 0,.int .i64 0,.bool false,.bool false] [(2,1,.const (.int .i64 (-1)))]) none [],.mk (some 64) (.call 78 [.tmp 59,.tmp 62,.const (.int .i64 0),.tmp 63]) none [0,3,4],.mk (some 65) (.extract (.tmp 64) 0) none [5],.mk (some 66) (.extract (.tmp 64) 1) none [5]]
def l68r10b:List AOper :=
  [.mk none (.store 2 (.tmp 4) (.tmp 65)) none [6,5,0,1,2,3,4,5,6,7],.mk (some 5) (.mv (.tmp 66)) none [7,8,0,1,2,3,4,5,6,7,8]]
def l68r10:List AOper:=l68r10a ++ l68r10b
def l68r11:List AOper :=
  [.mk (some 68) (.bin .eql (.tmp 10) (.const (.int .i64 4))) none [],.mk (some 67) (.mv (.tmp 68)) none [0]]
def l68r12a:List AOper :=
  [.mk (some 69) (.load true 2 (.tmp 2)) none [],.mk (some 70) (.mv (.tmp 6)) none [],.mk (some 71) (.idxA 1 (.tmp 70) (.const (.int .i64 0))) none [1],.mk (some 72) (.load false 1 (.tmp 71)) none [2],.mk (some 73) (.mv (.tmp 6)) none [],.mk (some 74) (.idxA 1 (.tmp 73) (.const (.int .i64 1))) none [4],.mk (some 75) (.load false 1 (.tmp 74)) none [5],.mk (some 76) (.call 79 [.tmp 69,.tmp 72,.tmp 75]) none [0,3,6],.mk (some 77) (.extract (.tmp 76) 0) none [7],.mk (some 78) (.extract (.tmp 76) 1) none [7]]
def l68r12b:List AOper :=
  [.mk none (.store 2 (.tmp 4) (.tmp 77)) none [8,7,0,1,2,3,4,5,6,7,8,9],.mk (some 5) (.mv (.tmp 78)) none [9,10,0,1,2,3,4,5,6,7,8,9,10]]
def l68r12:List AOper:=l68r12a ++ l68r12b
def l68r13:List AOper :=
  [.mk (some 80) (.bin .eql (.tmp 10) (.const (.int .i64 5))) none [],.mk (some 79) (.mv (.tmp 80)) none [0]]
def l68r14a:List AOper :=
  [.mk (some 81) (.load true 2 (.tmp 2)) none [],.mk (some 82) (.mv (.tmp 6)) none [],.mk (some 83) (.idxA 1 (.tmp 82) (.const (.int .i64 0))) none [1],.mk (some 84) (.load false 1 (.tmp 83)) none [2],.mk (some 85) (.mv (.tmp 6)) none [],.mk (some 86) (.idxA 1 (.tmp 85) (.const (.int .i64 1))) none [4],.mk (some 87) (.load false 1 (.tmp 86)) none [5],.mk (some 88) (.call 80 [.tmp 81,.tmp 84,.tmp 87]) none [0,3,6],.mk (some 89) (.extract (.tmp 88) 0) none [7],.mk (some 90) (.extract (.tmp 88) 1) none [7]]
def l68r14b:List AOper :=
  [.mk none (.store 2 (.tmp 4) (.tmp 89)) none [8,7,0,1,2,3,4,5,6,7,8,9],.mk (some 5) (.mv (.tmp 90)) none [9,10,0,1,2,3,4,5,6,7,8,9,10]]
def l68r14:List AOper:=l68r14a ++ l68r14b
def l68r15:List AOper :=
  [.mk (some 92) (.bin .eql (.tmp 10) (.const (.int .i64 7))) none [],.mk (some 91) (.mv (.tmp 92)) none [0]]
def l68r16a:List AOper :=
  [.mk (some 93) (.load true 2 (.tmp 2)) none [],.mk (some 94) (.mv (.tmp 6)) none [],.mk (some 95) (.idxA 1 (.tmp 94) (.const (.int .i64 0))) none [1],.mk (some 96) (.load false 1 (.tmp 95)) none [2],.mk (some 97) (.call 81 [.tmp 93,.tmp 96]) none [0,3],.mk (some 98) (.extract (.tmp 97) 0) none [4],.mk (some 99) (.extract (.tmp 97) 1) none [4]]
def l68r16b:List AOper :=
  [.mk none (.store 2 (.tmp 4) (.tmp 98)) none [5,4,0,1,2,3,4,5,6],.mk (some 5) (.mv (.tmp 99)) none [6,7,0,1,2,3,4,5,6,7]]
def l68r16:List AOper:=l68r16a ++ l68r16b
def l68r17a:List AOper :=
  [.mk (some 100) (.load true 2 (.tmp 2)) none [],.mk (some 101) (.load true 2 (.tmp 2)) none [],.mk (some 102) (.mv (.tmp 6)) none [],.mk (some 103) (.idxA 1 (.tmp 102) (.const (.int .i64 0))) none [2],.mk (some 104) (.load false 1 (.tmp 103)) none [3],.mk (some 105) (.call 82 [.tmp 101,.tmp 104]) none [1,4]]
def l68r17b:List AOper :=
  [.mk none (.store 2 (.tmp 4) (.tmp 100)) none [0,5,0],.mk (some 5) (.mv (.tmp 105)) none [5,6,0,1,2,3,4,5,6]]
def l68r17:List AOper:=l68r17a ++ l68r17b
def l68:AFn :=
  (AFn.mk 106 2 (.seq (.reg l68r0) (.seq (.reg l68r1) (.seq (.seq (.reg l68r2) (.block 0 (.seq (.reg l68r3) (.cond (.tmp 11) (.seq (.draw l68r4) .ret) (.seq (.reg l68r5) (.cond (.tmp 20) (.seq (.draw l68r6) .ret) (.seq (.reg l68r7) (.cond (.tmp 38) (.seq (.draw l68r8) .ret) (.seq (.reg l68r9) (.cond (.tmp 57) (.seq (.draw l68r10) .ret) (.seq (.reg l68r11) (.cond (.tmp 67) (.seq (.draw l68r12) .ret) (.seq (.reg l68r13) (.cond (.tmp 79) (.seq (.draw l68r14) .ret) (.seq (.reg l68r15) (.cond (.tmp 91) (.seq (.draw l68r16) .ret) .skip)))))))))))))))) (.seq (.draw l68r17) .ret)))) [.cell 4 true 2,.tmp 5])
theorem l68_eq:lowFn Tryd.prog 68=some l68:=by kernel_rfl
def l69r0:List AOper :=
  [.mk (some 2) (.mv (.const (.string (ByteArray.mk (Array.mk []))))) none []]
def l69r1:List AOper :=
  [.mk (some 3) (.mv (.const (.string (ByteArray.mk (Array.mk []))))) none []]
def l69r2:List AOper :=
  [.mk (some 4) (.mv (.const (.int .i64 0))) none []]
def l69r3:List AOper :=
  [.mk (some 5) (.mv (.tmp 4)) none [],.mk (some 6) (.mv (.tmp 0)) none [],.mk (some 7) (.len (.tmp 6)) none [1],.mk (some 8) (.bin .lss (.tmp 5) (.tmp 7)) none [0,2]]
def l69r4:List AOper :=
  [.mk (some 11) (.mv (.tmp 3)) none [],.mk (some 12) (.bin .add (.tmp 11) (.const (.string (ByteArray.mk (Array.mk [(32:UInt8)]))))) none [0],.mk (some 13) (.mv (.tmp 0)) none [],.mk (some 14) (.mv (.tmp 4)) none [],.mk (some 15) (.idxA 1 (.tmp 13) (.tmp 14)) none [2,3],.mk (some 16) (.load false 1 (.tmp 15)) none [4],.mk (some 17) (.call 71 [.tmp 16]) none [5],.mk (some 18) (.bin .add (.tmp 12) (.tmp 17)) none [1,6],.mk (some 3) (.mv (.tmp 18)) none [7,6,0,1,2,3,4,5,6,7]]
def l69r5:List AOper :=
  [.mk (some 9) (.mv (.tmp 4)) none [],.mk (some 10) (.bin .add (.tmp 9) (.const (.int .i64 1))) none [0],.mk (some 4) (.mv (.tmp 10)) none [1,0,1]]
def l69r6:List AOper :=
  [.mk (some 19) (.mv (.tmp 3)) none [],.mk (some 2) (.mv (.tmp 19)) none [0,0]]
def l69:AFn :=
  (AFn.mk 20 1 (.seq (.reg l69r0) (.seq (.reg l69r1) (.seq (.seq (.reg l69r2) (.block 0 (.loop (.seq (.seq (.reg l69r3) (.cond (.tmp 8) .skip (.exit 0))) (.seq (.block 1 (.reg l69r4)) (.reg l69r5)))))) (.seq (.reg l69r6) .ret)))) [.tmp 2])
theorem l69_eq:lowFn Tryd.prog 69=some l69:=by kernel_rfl
def l70r0:List AOper :=
  [.mk (some 3) (.box (.tmp 1)) none [],.mk (some 4) (.mv (.const (.slice none 0 0))) none []]
def l70r1:List AOper :=
  [.mk (some 8) (.bslice 1 [.int .i64 0] [] 0) none [],.mk (some 5) (.mv (.tmp 8)) none [0,0]]
def l70r2:List AOper :=
  [.mk (some 9) (.load true 3 (.tmp 3)) none [],.mk (some 10) (.call 76 [.tmp 9]) none [0],.mk (some 6) (.mv (.tmp 10)) none [1,1,0,1]]
def l70r3:List AOper :=
  [.mk (some 7) (.mv (.const (.int .i64 0))) none []]
def l70r4:List AOper :=
  [.mk (some 11) (.mv (.tmp 7)) none [],.mk (some 12) (.mv (.tmp 6)) none [],.mk (some 13) (.len (.tmp 12)) none [1],.mk (some 14) (.bin .lss (.tmp 11) (.tmp 13)) none [0,2]]
def l70r5:List AOper :=
  [.mk (some 17) (.mv (.tmp 5)) none [],.mk (some 18) (.mv (.tmp 0)) none [],.mk (some 19) (.mv (.tmp 6)) none [],.mk (some 20) (.mv (.tmp 7)) none [],.mk (some 21) (.idxA 1 (.tmp 19) (.tmp 20)) none [2,3],.mk (some 22) (.load false 1 (.tmp 21)) none [4],.mk (some 23) (.idxA 1 (.tmp 18) (.tmp 22)) none [1,5],.mk (some 24) (.load false 1 (.tmp 23)) none [6],.mk (some 25) (.bslice 1 [.int .i64 0] [(0,.tmp 24)] 1) none [7],.mk (some 26) (.append 1 (.tmp 17) (.tmp 25)) none [0,8],.mk (some 5) (.mv (.tmp 26)) none [9,9,0,1,2,3,4,5,6,7,8,9]]
def l70r6:List AOper :=
  [.mk (some 15) (.mv (.tmp 7)) none [],.mk (some 16) (.bin .add (.tmp 15) (.const (.int .i64 1))) none [0],.mk (some 7) (.mv (.tmp 16)) none [1,0,1]]
def l70r7:List AOper :=
  [.mk (some 27) (.mv (.tmp 5)) none [],.mk (some 4) (.mv (.tmp 27)) none [0,0]]
def l70:AFn :=
  (AFn.mk 28 2 (.seq (.reg l70r0) (.seq (.reg l70r1) (.seq (.reg l70r2) (.seq (.seq (.reg l70r3) (.block 0 (.loop (.seq (.seq (.reg l70r4) (.cond (.tmp 14) .skip (.exit 0))) (.seq (.block 1 (.reg l70r5)) (.reg l70r6)))))) (.seq (.reg l70r7) .ret))))) [.tmp 4])
theorem l70_eq:lowFn Tryd.prog 70=some l70:=by kernel_rfl
def l71r0:List AOper :=
  [.mk (some 2) (.mv (.const (.string (ByteArray.mk (Array.mk []))))) none []]
def l71r1:List AOper :=
  [.mk (some 3) (.mv (.tmp 0)) none [],.mk (some 4) (.bin .lss (.tmp 3) (.const (.int .i64 0))) none [0],.mk (some 5) (.mv (.tmp 4)) none [1],.mk (some 6) (.mv (.tmp 0)) (some (5,true)) [2],.mk (some 7) (.mv (.tmp 0)) (some (5,true)) [2],.mk (some 8) (.un .neg (.tmp 7)) (some (5,true)) [4,2],.mk (some 9) (.bin .eql (.tmp 6) (.tmp 8)) (some (5,true)) [3,5,2],.mk (some 10) (.pick (.tmp 5) (.tmp 9) (.const (.bool false))) none [2,6]]
def l71r2:List AOper :=
  [.mk (some 2) (.mv (.const (.string (ByteArray.mk (Array.mk [(45:UInt8),(57:UInt8),(50:UInt8),(50:UInt8),(51:UInt8),(51:UInt8),(55:UInt8),(50:UInt8),(48:UInt8),(51:UInt8),(54:UInt8),(56:UInt8),(53:UInt8),(52:UInt8),(55:UInt8),(55:UInt8),(53:UInt8),(56:UInt8),(48:UInt8),(56:UInt8)]))))) none []]
def l71r3:List AOper :=
  [.mk (some 11) (.mv (.tmp 0)) none [],.mk (some 12) (.bin .lss (.tmp 11) (.const (.int .i64 0))) none [0]]
def l71r4:List AOper :=
  [.mk (some 13) (.mv (.tmp 0)) none [],.mk (some 14) (.un .neg (.tmp 13)) none [0],.mk (some 15) (.call 71 [.tmp 14]) none [1],.mk (some 16) (.bin .add (.const (.string (ByteArray.mk (Array.mk [(45:UInt8)])))) (.tmp 15)) none [2],.mk (some 2) (.mv (.tmp 16)) none [3,2,0,1,2,3]]
def l71r5:List AOper :=
  [.mk (some 17) (.mv (.tmp 0)) none [],.mk (some 18) (.bin .lss (.tmp 17) (.const (.int .i64 10))) none [0]]
def l71r6:List AOper :=
  [.mk (some 19) (.mv (.tmp 0)) none [],.mk (some 20) (.mv (.tmp 0)) none [],.mk (some 21) (.bin .add (.tmp 20) (.const (.int .i64 1))) none [1],.mk (some 22) (.sliceS (.const (.string (ByteArray.mk (Array.mk [(48:UInt8),(49:UInt8),(50:UInt8),(51:UInt8),(52:UInt8),(53:UInt8),(54:UInt8),(55:UInt8),(56:UInt8),(57:UInt8)])))) (some (.tmp 19)) (some (.tmp 21))) none [0,2],.mk (some 2) (.mv (.tmp 22)) none [3,0,1,2,3]]
def l71r7:List AOper :=
  [.mk (some 23) (.mv (.tmp 0)) none [],.mk (some 24) (.bin .quo (.tmp 23) (.const (.int .i64 10))) none [0],.mk (some 25) (.call 71 [.tmp 24]) none [1],.mk (some 26) (.mv (.tmp 0)) none [],.mk (some 27) (.bin .rem (.tmp 26) (.const (.int .i64 10))) none [3],.mk (some 28) (.call 71 [.tmp 27]) none [4,2],.mk (some 29) (.bin .add (.tmp 25) (.tmp 28)) none [2,5],.mk (some 2) (.mv (.tmp 29)) none [6,5,0,1,2,3,4,5,6]]
def l71:AFn :=
  (AFn.mk 30 1 (.seq (.reg l71r0) (.seq (.seq (.reg l71r1) (.cond (.tmp 10) (.seq (.reg l71r2) .ret) .skip)) (.seq (.seq (.reg l71r3) (.cond (.tmp 12) (.seq (.reg l71r4) .ret) .skip)) (.seq (.seq (.reg l71r5) (.cond (.tmp 18) (.seq (.reg l71r6) .ret) .skip)) (.seq (.reg l71r7) .ret))))) [.tmp 2])
theorem l71_eq:lowFn Tryd.prog 71=some l71:=by kernel_rfl
def l72r0:List AOper :=
  [.mk (some 2) (.mv (.const (.int .i64 0))) none []]
def l72r1:List AOper :=
  [.mk (some 3) (.mv (.const (.int .i64 1))) none []]
def l72r2:List AOper :=
  [.mk (some 6) (.mv (.tmp 0)) none [],.mk (some 7) (.len (.tmp 6)) none [0],.mk (some 8) (.mv (.const (.int .i64 0))) none []]
def l72r3:List AOper :=
  [.mk (some 9) (.bin .lss (.tmp 8) (.tmp 7)) none []]
def l72r4:List AOper :=
  [.mk (some 10) (.idxA 1 (.tmp 6) (.tmp 8)) none [],.mk (some 11) (.load false 1 (.tmp 10)) none [0],.mk (some 5) (.mv (.tmp 11)) none [1,0,1]]
def l72r5:List AOper :=
  [.mk (some 12) (.mv (.tmp 3)) none [],.mk (some 13) (.mv (.tmp 5)) none [],.mk (some 14) (.bin .mul (.tmp 12) (.tmp 13)) none [0,1],.mk (some 3) (.mv (.tmp 14)) none [2,0,1,2]]
def l72r6:List AOper :=
  [.mk (some 15) (.bin .add (.tmp 8) (.const (.int .i64 1))) none [],.mk (some 8) (.mv (.tmp 15)) none [0]]
def l72r7:List AOper :=
  [.mk (some 16) (.mv (.tmp 3)) none [],.mk (some 2) (.mv (.tmp 16)) none [0,0]]
def l72:AFn :=
  (AFn.mk 17 1 (.seq (.reg l72r0) (.seq (.reg l72r1) (.seq (.seq (.reg l72r2) (.block 0 (.loop (.seq (.reg l72r3) (.seq (.cond (.tmp 9) .skip (.exit 0)) (.seq (.block 1 (.seq (.reg l72r4) (.reg l72r5))) (.reg l72r6))))))) (.seq (.reg l72r7) .ret)))) [.tmp 2])
theorem l72_eq:lowFn Tryd.prog 72=some l72:=by kernel_rfl
def l73r0:List AOper :=
  [.mk (some 4) (.mv (.const (.bool false))) none []]
def l73r1:List AOper :=
  [.mk (some 5) (.mv (.tmp 1)) none [],.mk (some 6) (.un .neg (.tmp 5)) none [0],.mk (some 7) (.mv (.tmp 0)) none [],.mk (some 8) (.bin .leq (.tmp 6) (.tmp 7)) none [1,2],.mk (some 9) (.mv (.tmp 8)) none [3],.mk (some 10) (.mv (.tmp 0)) (some (9,true)) [4],.mk (some 11) (.mv (.tmp 1)) (some (9,true)) [4],.mk (some 12) (.bin .leq (.tmp 10) (.tmp 11)) (some (9,true)) [5,6,4],.mk (some 13) (.pick (.tmp 9) (.tmp 12) (.const (.bool false))) none [4,7],.mk (some 4) (.mv (.tmp 13)) none [8,4,0,1,2,3,4,5,6,7,8]]
def l73:AFn :=
  (AFn.mk 14 2 (.seq (.reg l73r0) (.seq (.reg l73r1) .ret)) [.tmp 4])
theorem l73_eq:lowFn Tryd.prog 73=some l73:=by kernel_rfl
def l74r0:List AOper :=
  [.mk (some 2) (.mv (.const (.bool false))) none []]
def l74r1:List AOper :=
  [.mk (some 3) (.mv (.tmp 0)) none [],.mk (some 4) (.len (.tmp 3)) none [0],.mk (some 5) (.bin .leq (.tmp 4) (.const (.int .i64 4))) none [1],.mk (some 6) (.mv (.tmp 5)) none [2],.mk (some 7) (.mv (.tmp 0)) (some (6,true)) [3],.mk (some 8) (.call 67 [.tmp 7,.const (.int .i64 0),.const (.int .i64 60)]) (some (6,true)) [4,3,3],.mk (some 9) (.pick (.tmp 6) (.tmp 8) (.const (.bool false))) none [3,5],.mk (some 10) (.mv (.tmp 9)) none [6,5],.mk (some 11) (.mv (.tmp 0)) (some (10,true)) [7],.mk (some 12) (.call 75 [.tmp 11]) (some (10,true)) [8,7,7],.mk (some 13) (.bin .leq (.tmp 12) (.const (.int .i64 60))) (some (10,true)) [9,7],.mk (some 14) (.pick (.tmp 10) (.tmp 13) (.const (.bool false))) none [7,10],.mk (some 2) (.mv (.tmp 14)) none [11,9,0,1,2,3,4,5,6,7,8,9,10,11]]
def l74:AFn :=
  (AFn.mk 15 1 (.seq (.reg l74r0) (.seq (.reg l74r1) .ret)) [.tmp 2])
theorem l74_eq:lowFn Tryd.prog 74=some l74:=by kernel_rfl
def l75r0:List AOper :=
  [.mk (some 2) (.mv (.const (.int .i64 0))) none []]
def l75r1:List AOper :=
  [.mk (some 3) (.mv (.const (.int .i64 1))) none []]
def l75r2:List AOper :=
  [.mk (some 4) (.mv (.const (.int .i64 0))) none []]
def l75r3:List AOper :=
  [.mk (some 5) (.mv (.tmp 4)) none [],.mk (some 6) (.mv (.tmp 0)) none [],.mk (some 7) (.len (.tmp 6)) none [1],.mk (some 8) (.bin .lss (.tmp 5) (.tmp 7)) none [0,2]]
def l75r4:List AOper :=
  [.mk (some 11) (.mv (.tmp 3)) none [],.mk (some 12) (.mv (.tmp 0)) none [],.mk (some 13) (.mv (.tmp 4)) none [],.mk (some 14) (.idxA 1 (.tmp 12) (.tmp 13)) none [1,2],.mk (some 15) (.load false 1 (.tmp 14)) none [3],.mk (some 16) (.bin .mul (.tmp 11) (.tmp 15)) none [0,4],.mk (some 3) (.mv (.tmp 16)) none [5,0,1,2,3,4,5]]
def l75r5:List AOper :=
  [.mk (some 9) (.mv (.tmp 4)) none [],.mk (some 10) (.bin .add (.tmp 9) (.const (.int .i64 1))) none [0],.mk (some 4) (.mv (.tmp 10)) none [1,0,1]]
def l75r6:List AOper :=
  [.mk (some 17) (.mv (.tmp 3)) none [],.mk (some 2) (.mv (.tmp 17)) none [0,0]]
def l75:AFn :=
  (AFn.mk 18 1 (.seq (.reg l75r0) (.seq (.reg l75r1) (.seq (.seq (.reg l75r2) (.block 0 (.loop (.seq (.seq (.reg l75r3) (.cond (.tmp 8) .skip (.exit 0))) (.seq (.block 1 (.reg l75r4)) (.reg l75r5)))))) (.seq (.reg l75r6) .ret)))) [.tmp 2])
theorem l75_eq:lowFn Tryd.prog 75=some l75:=by kernel_rfl
def l76r0:List AOper :=
  [.mk (some 1) (.box (.tmp 0)) none [],.mk (some 2) (.mv (.const (.slice none 0 0))) none []]
def l76r1:List AOper :=
  [.mk (some 5) (.bslice 1 [.int .i64 0] [] 0) none [],.mk (some 3) (.mv (.tmp 5)) none [0,0]]
def l76r2:List AOper :=
  [.mk (some 4) (.mv (.const (.int .i64 0))) none []]
def l76r3:List AOper :=
  [.mk (some 6) (.mv (.tmp 4)) none [],.mk (some 7) (.fld 1 (.tmp 1)) none [],.mk (some 8) (.load false 1 (.tmp 7)) none [1],.mk (some 9) (.call 75 [.tmp 8]) none [2],.mk (some 10) (.bin .lss (.tmp 6) (.tmp 9)) none [0,3]]
def l76r4a:List AOper :=
  [.mk (some 13) (.mv (.tmp 3)) none [],.mk (some 14) (.load true 3 (.tmp 1)) none [],.mk (some 15) (.fld 1 (.tmp 1)) none [],.mk (some 16) (.load false 1 (.tmp 15)) none [2],.mk (some 17) (.mv (.tmp 4)) none [],.mk (some 18) (.call 84 [.tmp 16,.tmp 17]) none [3,4],.mk (some 19) (.call 83 [.tmp 14,.tmp 18]) none [1,5,5],.mk (some 20) (.bslice 1 [.int .i64 0] [(0,.tmp 19)] 1) none [6]]
def l76r4b:List AOper :=
  [.mk (some 21) (.append 1 (.tmp 13) (.tmp 20)) none [0,7,6],.mk (some 3) (.mv (.tmp 21)) none [8,8,0,1,2,3,4,5,6,7,8]]
def l76r4:List AOper:=l76r4a ++ l76r4b
def l76r5:List AOper :=
  [.mk (some 11) (.mv (.tmp 4)) none [],.mk (some 12) (.bin .add (.tmp 11) (.const (.int .i64 1))) none [0],.mk (some 4) (.mv (.tmp 12)) none [1,0,1]]
def l76r6:List AOper :=
  [.mk (some 22) (.mv (.tmp 3)) none [],.mk (some 2) (.mv (.tmp 22)) none [0,0]]
def l76:AFn :=
  (AFn.mk 23 1 (.seq (.reg l76r0) (.seq (.reg l76r1) (.seq (.seq (.reg l76r2) (.block 0 (.loop (.seq (.seq (.reg l76r3) (.cond (.tmp 10) .skip (.exit 0))) (.seq (.block 1 (.draw l76r4)) (.reg l76r5)))))) (.seq (.reg l76r6) .ret)))) [.tmp 2])
theorem l76_eq:lowFn Tryd.prog 76=some l76:=by kernel_rfl
def l77r0:List AOper :=
  [.mk (some 2) (.box (.tmp 0)) none [],.mk (some 3) (.box (.tmp 1)) none [],.mk (some 4) (.alloc [.slice none 0 0,.slice none 0 0]) none [],.mk (some 5) (.mv (.const (.bool false))) none []]
def l77r1:List AOper :=
  [.mk (some 6) (.load true 2 (.tmp 2)) none [],.mk (some 7) (.call 31 [.tmp 6]) none [0],.mk (some 8) (.un .not (.tmp 7)) none [1],.mk (some 9) (.mv (.tmp 8)) none [2,1],.mk (some 10) (.load true 3 (.tmp 3)) (some (9,false)) [3],.mk (some 11) (.call 65 [.tmp 10]) (some (9,false)) [4,3,3],.mk (some 12) (.un .not (.tmp 11)) (some (9,false)) [5,3],.mk (some 13) (.pick (.tmp 9) (.const (.bool true)) (.tmp 12)) none [3,6],.mk (some 14) (.mv (.tmp 13)) none [7,5],.mk (some 15) (.load true 3 (.tmp 3)) (some (14,false)) [8],.mk (some 16) (.fld 0 (.tmp 2)) (some (14,false)) [8],.mk (some 17) (.load false 1 (.tmp 16)) (some (14,false)) [10,8],.mk (some 18) (.len (.tmp 17)) (some (14,false)) [11,8],.mk (some 19) (.call 66 [.tmp 15,.tmp 18]) (some (14,false)) [9,12,8,8],.mk (some 20) (.un .not (.tmp 19)) (some (14,false)) [13,8],.mk (some 21) (.pick (.tmp 14) (.const (.bool true)) (.tmp 20)) none [8,14],.mk (some 22) (.mv (.tmp 21)) none [15,13],.mk (some 23) (.fld 1 (.tmp 2)) (some (22,false)) [16],.mk (some 24) (.load false 1 (.tmp 23)) (some (22,false)) [17,16],.mk (some 25) (.len (.tmp 24)) (some (22,false)) [18,16],.mk (some 26) (.bin .eql (.tmp 25) (.const (.int .i64 8))) (some (22,false)) [19,16],.mk (some 27) (.pick (.tmp 22) (.const (.bool true)) (.tmp 26)) none [16,20]]
def l77r2:List AOper :=
  [.mk (some 28) (.build [.slice none 0 0,.slice none 0 0] []) none [],.mk none (.store 2 (.tmp 4) (.tmp 28)) none [0,0],.mk (some 5) (.mv (.const (.bool false))) none [1,0,1]]
def l77r3:List AOper :=
  [.mk (some 29) (.load true 2 (.tmp 2)) none [],.mk (some 30) (.load true 3 (.tmp 3)) none [],.mk (some 31) (.call 85 [.tmp 29,.const (.int .i64 (-1)),.tmp 30]) none [0,1],.mk none (.store 2 (.tmp 4) (.tmp 31)) none [2,2,0,1,2],.mk (some 5) (.mv (.const (.bool true))) none [3,0,1,2,3]]
def l77:AFn :=
  (AFn.mk 32 2 (.seq (.reg l77r0) (.seq (.seq (.reg l77r1) (.cond (.tmp 27) (.seq (.reg l77r2) .ret) .skip)) (.seq (.reg l77r3) .ret))) [.cell 4 true 2,.tmp 5])
theorem l77_eq:lowFn Tryd.prog 77=some l77:=by kernel_rfl
def l78r0:List AOper :=
  [.mk (some 4) (.box (.tmp 0)) none [],.mk (some 7) (.box (.tmp 3)) none [],.mk (some 8) (.alloc [.slice none 0 0,.slice none 0 0]) none [],.mk (some 9) (.mv (.const (.bool false))) none []]
def l78r1:List AOper :=
  [.mk (some 12) (.load true 2 (.tmp 4)) none [],.mk (some 13) (.call 31 [.tmp 12]) none [0],.mk (some 14) (.un .not (.tmp 13)) none [1],.mk (some 15) (.mv (.tmp 14)) none [2,1],.mk (some 16) (.load true 2 (.tmp 4)) (some (15,false)) [3],.mk (some 17) (.mv (.tmp 1)) (some (15,false)) [3],.mk (some 18) (.call 82 [.tmp 16,.tmp 17]) (some (15,false)) [4,5,3,3],.mk (some 19) (.un .not (.tmp 18)) (some (15,false)) [6,3],.mk (some 20) (.pick (.tmp 15) (.const (.bool true)) (.tmp 19)) none [3,7],.mk (some 21) (.mv (.tmp 20)) none [8,6],.mk (some 22) (.fld 1 (.tmp 4)) (some (21,false)) [9],.mk (some 23) (.load false 1 (.tmp 22)) (some (21,false)) [10,9],.mk (some 24) (.len (.tmp 23)) (some (21,false)) [11,9],.mk (some 25) (.bin .eql (.tmp 24) (.const (.int .i64 8))) (some (21,false)) [12,9],.mk (some 26) (.pick (.tmp 21) (.const (.bool true)) (.tmp 25)) none [9,13]]
def l78r2:List AOper :=
  [.mk (some 27) (.build [.slice none 0 0,.slice none 0 0] []) none [],.mk none (.store 2 (.tmp 8) (.tmp 27)) none [0,0],.mk (some 9) (.mv (.const (.bool false))) none [1,0,1]]
def l78r3a:List AOper :=
  [.mk (some 29) (.fld 1 (.tmp 4)) none [],.mk (some 30) (.load false 1 (.tmp 29)) none [0],.mk (some 31) (.mv (.tmp 1)) none [],.mk (some 32) (.idxA 5 (.tmp 30) (.tmp 31)) none [1,2],.mk (some 33) (.fld 1 (.tmp 32)) none [3],.mk (some 34) (.load true 3 (.tmp 33)) none [4],.mk (some 35) (.mv (.tmp 2)) none [],.mk (some 36) (.load true 5 (.tmp 7)) none [],.mk (some 37) (.call 86 [.tmp 34,.tmp 35,.tmp 36]) none [5,6,7],.mk (some 28) (.mv (.tmp 37)) none [8],.mk (some 38) (.extract (.tmp 28) 0) none [9],.mk (some 39) (.extract (.tmp 28) 1) none [9],.mk (some 10) (.alloc [.int .i64 0,.slice none 0 0,.slice none 0 0]) none [],.mk none (.store 3 (.tmp 10) (.tmp 38)) none [12,10,8,0,1,2,3,4,5,6,7,8,9,10,12]]
def l78r3b:List AOper :=
  [.mk (some 11) (.mv (.tmp 39)) none [11,13,0,1,2,3,4,5,6,7,8,9,10,11,12,13]]
def l78r3:List AOper:=l78r3a ++ l78r3b
def l78r4:List AOper :=
  [.mk (some 40) (.mv (.tmp 11)) none [],.mk (some 41) (.un .not (.tmp 40)) none [0]]
def l78r5:List AOper :=
  [.mk (some 42) (.build [.slice none 0 0,.slice none 0 0] []) none [],.mk none (.store 2 (.tmp 8) (.tmp 42)) none [0,0],.mk (some 9) (.mv (.const (.bool false))) none [1,0,1]]
def l78r6:List AOper :=
  [.mk (some 43) (.load true 2 (.tmp 4)) none [],.mk (some 44) (.mv (.tmp 1)) none [],.mk (some 45) (.load true 3 (.tmp 10)) none [],.mk (some 46) (.call 85 [.tmp 43,.tmp 44,.tmp 45]) none [0,1,2],.mk none (.store 2 (.tmp 8) (.tmp 46)) none [3,3,0,1,2,3],.mk (some 9) (.mv (.const (.bool true))) none [4,0,1,2,3,4]]
def l78:AFn :=
  (AFn.mk 47 4 (.seq (.reg l78r0) (.seq (.seq (.reg l78r1) (.cond (.tmp 26) (.seq (.reg l78r2) .ret) .skip)) (.seq (.draw l78r3) (.seq (.seq (.reg l78r4) (.cond (.tmp 41) (.seq (.reg l78r5) .ret) .skip)) (.seq (.reg l78r6) .ret))))) [.cell 8 true 2,.tmp 9])
theorem l78_eq:lowFn Tryd.prog 78=some l78:=by kernel_rfl
def l79r0:List AOper :=
  [.mk (some 3) (.box (.tmp 0)) none [],.mk (some 6) (.alloc [.slice none 0 0,.slice none 0 0]) none [],.mk (some 7) (.mv (.const (.bool false))) none []]
def l79r1:List AOper :=
  [.mk (some 9) (.load true 2 (.tmp 3)) none [],.mk (some 10) (.call 31 [.tmp 9]) none [0],.mk (some 11) (.un .not (.tmp 10)) none [1],.mk (some 12) (.mv (.tmp 11)) none [2,1],.mk (some 13) (.load true 2 (.tmp 3)) (some (12,false)) [3],.mk (some 14) (.mv (.tmp 1)) (some (12,false)) [3],.mk (some 15) (.call 82 [.tmp 13,.tmp 14]) (some (12,false)) [4,5,3,3],.mk (some 16) (.un .not (.tmp 15)) (some (12,false)) [6,3],.mk (some 17) (.pick (.tmp 12) (.const (.bool true)) (.tmp 16)) none [3,7],.mk (some 18) (.mv (.tmp 17)) none [8,6],.mk (some 19) (.mv (.tmp 2)) (some (18,false)) [9],.mk (some 20) (.call 33 [.tmp 19,.const (.int .i64 0),.const (.int .i64 255)]) (some (18,false)) [10,9,9],.mk (some 21) (.un .not (.tmp 20)) (some (18,false)) [11,9],.mk (some 22) (.pick (.tmp 18) (.const (.bool true)) (.tmp 21)) none [9,12]]
def l79r2:List AOper :=
  [.mk (some 23) (.build [.slice none 0 0,.slice none 0 0] []) none [],.mk none (.store 2 (.tmp 6) (.tmp 23)) none [0,0],.mk (some 7) (.mv (.const (.bool false))) none [1,0,1]]
def l79r3:List AOper :=
  [.mk (some 24) (.load true 2 (.tmp 3)) none [],.mk (some 25) (.call 42 [.tmp 24]) none [0],.mk (some 8) (.alloc [.slice none 0 0,.slice none 0 0]) none [],.mk none (.store 2 (.tmp 8) (.tmp 25)) none [2,1,1,0,1,2]]
def l79r4a:List AOper :=
  [.mk (some 27) (.fld 0 (.tmp 3)) none [],.mk (some 28) (.load false 1 (.tmp 27)) none [0],.mk (some 29) (.fld 1 (.tmp 3)) none [],.mk (some 30) (.load false 1 (.tmp 29)) none [2],.mk (some 31) (.mv (.tmp 1)) none [],.mk (some 32) (.idxA 5 (.tmp 30) (.tmp 31)) none [3,4],.mk (some 33) (.fld 1 (.tmp 32)) none [5],.mk (some 34) (.load true 3 (.tmp 33)) none [6],.mk (some 35) (.mv (.tmp 2)) none [],.mk (some 36) (.call 87 [.tmp 28,.tmp 34,.tmp 35]) none [1,7,8],.mk (some 26) (.mv (.tmp 36)) none [9],.mk (some 37) (.extract (.tmp 26) 0) none [10],.mk (some 38) (.extract (.tmp 26) 1) none [10],.mk (some 39) (.fld 0 (.tmp 8)) none [0,1,2,3,4,5,6,7,8,9,10,11],.mk none (.store 1 (.tmp 39) (.tmp 37)) none [13,11,9,0,1,2,3,4,5,6,7,8,9,10,11]]
def l79r4b:List AOper :=
  []
def l79r4:List AOper:=l79r4a ++ l79r4b
def l79r5:List AOper :=
  [.mk (some 40) (.load true 2 (.tmp 8)) none [],.mk none (.store 2 (.tmp 6) (.tmp 40)) none [0,0],.mk (some 7) (.mv (.const (.bool true))) none [1,0,1]]
def l79:AFn :=
  (AFn.mk 41 3 (.seq (.reg l79r0) (.seq (.seq (.reg l79r1) (.cond (.tmp 22) (.seq (.reg l79r2) .ret) .skip)) (.seq (.reg l79r3) (.seq (.draw l79r4) (.seq (.reg l79r5) .ret))))) [.cell 6 true 2,.tmp 7])
theorem l79_eq:lowFn Tryd.prog 79=some l79:=by kernel_rfl
def l80r0:List AOper :=
  [.mk (some 3) (.box (.tmp 0)) none [],.mk (some 6) (.alloc [.slice none 0 0,.slice none 0 0]) none [],.mk (some 7) (.mv (.const (.bool false))) none []]
def l80r1:List AOper :=
  [.mk (some 11) (.load true 2 (.tmp 3)) none [],.mk (some 12) (.call 31 [.tmp 11]) none [0],.mk (some 13) (.un .not (.tmp 12)) none [1],.mk (some 14) (.mv (.tmp 13)) none [2,1],.mk (some 15) (.load true 2 (.tmp 3)) (some (14,false)) [3],.mk (some 16) (.mv (.tmp 1)) (some (14,false)) [3],.mk (some 17) (.call 82 [.tmp 15,.tmp 16]) (some (14,false)) [4,5,3,3],.mk (some 18) (.un .not (.tmp 17)) (some (14,false)) [6,3],.mk (some 19) (.pick (.tmp 14) (.const (.bool true)) (.tmp 18)) none [3,7],.mk (some 20) (.mv (.tmp 19)) none [8,6],.mk (some 21) (.load true 2 (.tmp 3)) (some (20,false)) [9],.mk (some 22) (.mv (.tmp 2)) (some (20,false)) [9],.mk (some 23) (.call 82 [.tmp 21,.tmp 22]) (some (20,false)) [10,11,9,9],.mk (some 24) (.un .not (.tmp 23)) (some (20,false)) [12,9],.mk (some 25) (.pick (.tmp 20) (.const (.bool true)) (.tmp 24)) none [9,13]]
def l80r2:List AOper :=
  [.mk (some 26) (.build [.slice none 0 0,.slice none 0 0] []) none [],.mk none (.store 2 (.tmp 6) (.tmp 26)) none [0,0],.mk (some 7) (.mv (.const (.bool false))) none [1,0,1]]
def l80r3a:List AOper :=
  [.mk (some 28) (.fld 0 (.tmp 3)) none [],.mk (some 29) (.load false 1 (.tmp 28)) none [0],.mk (some 30) (.fld 1 (.tmp 3)) none [],.mk (some 31) (.load false 1 (.tmp 30)) none [2],.mk (some 32) (.mv (.tmp 1)) none [],.mk (some 33) (.idxA 5 (.tmp 31) (.tmp 32)) none [3,4],.mk (some 34) (.fld 1 (.tmp 33)) none [5],.mk (some 35) (.load true 3 (.tmp 34)) none [6],.mk (some 36) (.fld 1 (.tmp 3)) none [],.mk (some 37) (.load false 1 (.tmp 36)) none [8],.mk (some 38) (.mv (.tmp 2)) none [],.mk (some 39) (.idxA 5 (.tmp 37) (.tmp 38)) none [9,10],.mk (some 40) (.fld 1 (.tmp 39)) none [11],.mk (some 41) (.load true 3 (.tmp 40)) none [12],.mk (some 42) (.call 88 [.tmp 29,.tmp 35,.tmp 41]) none [1,7,13],.mk (some 27) (.mv (.tmp 42)) none [14],.mk (some 43) (.extract (.tmp 27) 0) none [15],.mk (some 44) (.extract (.tmp 27) 1) none [15],.mk (some 8) (.mv (.tmp 43)) none [16,14,0,1,2,3,4,5,6,7,8,9,10,11,12,13,14,15,16]]
def l80r3b:List AOper :=
  [.mk (some 9) (.mv (.tmp 44)) none [17,18,0,1,2,3,4,5,6,7,8,9,10,11,12,13,14,15,16,17,18]]
def l80r3:List AOper:=l80r3a ++ l80r3b
def l80r4:List AOper :=
  [.mk (some 45) (.mv (.tmp 9)) none [],.mk (some 46) (.un .not (.tmp 45)) none [0]]
def l80r5:List AOper :=
  [.mk (some 47) (.build [.slice none 0 0,.slice none 0 0] []) none [],.mk none (.store 2 (.tmp 6) (.tmp 47)) none [0,0],.mk (some 7) (.mv (.const (.bool false))) none [1,0,1]]
def l80r6:List AOper :=
  [.mk (some 48) (.load true 2 (.tmp 3)) none [],.mk (some 49) (.call 42 [.tmp 48]) none [0],.mk (some 10) (.alloc [.slice none 0 0,.slice none 0 0]) none [],.mk none (.store 2 (.tmp 10) (.tmp 49)) none [2,1,1,0,1,2]]
def l80r7:List AOper :=
  [.mk (some 50) (.mv (.tmp 8)) none [],.mk (some 51) (.fld 0 (.tmp 10)) none [0],.mk none (.store 1 (.tmp 51) (.tmp 50)) none [1,0,0]]
def l80r8:List AOper :=
  [.mk (some 52) (.load true 2 (.tmp 10)) none [],.mk none (.store 2 (.tmp 6) (.tmp 52)) none [0,0],.mk (some 7) (.mv (.const (.bool true))) none [1,0,1]]
def l80:AFn :=
  (AFn.mk 53 3 (.seq (.reg l80r0) (.seq (.seq (.reg l80r1) (.cond (.tmp 25) (.seq (.reg l80r2) .ret) .skip)) (.seq (.draw l80r3) (.seq (.seq (.reg l80r4) (.cond (.tmp 46) (.seq (.reg l80r5) .ret) .skip)) (.seq (.reg l80r6) (.seq (.reg l80r7) (.seq (.reg l80r8) .ret))))))) [.cell 6 true 2,.tmp 7])
theorem l80_eq:lowFn Tryd.prog 80=some l80:=by kernel_rfl
def l81r0:List AOper :=
  [.mk (some 2) (.box (.tmp 0)) none [],.mk (some 4) (.alloc [.slice none 0 0,.slice none 0 0]) none [],.mk (some 5) (.mv (.const (.bool false))) none []]
def l81r1:List AOper :=
  [.mk (some 7) (.load true 2 (.tmp 2)) none [],.mk (some 8) (.call 31 [.tmp 7]) none [0],.mk (some 9) (.un .not (.tmp 8)) none [1],.mk (some 10) (.mv (.tmp 9)) none [2,1],.mk (some 11) (.load true 2 (.tmp 2)) (some (10,false)) [3],.mk (some 12) (.mv (.tmp 1)) (some (10,false)) [3],.mk (some 13) (.call 82 [.tmp 11,.tmp 12]) (some (10,false)) [4,5,3,3],.mk (some 14) (.un .not (.tmp 13)) (some (10,false)) [6,3],.mk (some 15) (.pick (.tmp 10) (.const (.bool true)) (.tmp 14)) none [3,7],.mk (some 16) (.mv (.tmp 15)) none [8,6],.mk (some 17) (.load true 2 (.tmp 2)) (some (16,false)) [9],.mk (some 18) (.mv (.tmp 1)) (some (16,false)) [9],.mk (some 19) (.call 34 [.tmp 17,.tmp 18]) (some (16,false)) [10,11,9,9],.mk (some 20) (.len (.tmp 19)) (some (16,false)) [12,9],.mk (some 21) (.bin .gtr (.tmp 20) (.const (.int .i64 0))) (some (16,false)) [13,9],.mk (some 22) (.pick (.tmp 16) (.const (.bool true)) (.tmp 21)) none [9,14]]
def l81r2:List AOper :=
  [.mk (some 23) (.build [.slice none 0 0,.slice none 0 0] []) none [],.mk none (.store 2 (.tmp 4) (.tmp 23)) none [0,0],.mk (some 5) (.mv (.const (.bool false))) none [1,0,1]]
def l81r3:List AOper :=
  [.mk (some 24) (.load true 2 (.tmp 2)) none [],.mk (some 25) (.call 42 [.tmp 24]) none [0],.mk (some 6) (.alloc [.slice none 0 0,.slice none 0 0]) none [],.mk none (.store 2 (.tmp 6) (.tmp 25)) none [2,1,1,0,1,2]]
def l81r4:List AOper :=
  [.mk (some 26) (.fld 1 (.tmp 6)) none [],.mk (some 27) (.load false 1 (.tmp 26)) none [0],.mk (some 28) (.mv (.tmp 1)) none [],.mk (some 29) (.idxA 5 (.tmp 27) (.tmp 28)) none [1,2,0,1,2],.mk (some 30) (.fld 4 (.tmp 29)) none [3,0,1,2],.mk none (.store 1 (.tmp 30) (.const (.bool false))) none [4,0,1,2]]
def l81r5:List AOper :=
  [.mk (some 31) (.load true 2 (.tmp 6)) none [],.mk none (.store 2 (.tmp 4) (.tmp 31)) none [0,0],.mk (some 5) (.mv (.const (.bool true))) none [1,0,1]]
def l81:AFn :=
  (AFn.mk 32 2 (.seq (.reg l81r0) (.seq (.seq (.reg l81r1) (.cond (.tmp 22) (.seq (.reg l81r2) .ret) .skip)) (.seq (.reg l81r3) (.seq (.reg l81r4) (.seq (.reg l81r5) .ret))))) [.cell 4 true 2,.tmp 5])
theorem l81_eq:lowFn Tryd.prog 81=some l81:=by kernel_rfl
def l82r0:List AOper :=
  [.mk (some 2) (.box (.tmp 0)) none [],.mk (some 4) (.mv (.const (.bool false))) none []]
def l82r1:List AOper :=
  [.mk (some 5) (.mv (.tmp 1)) none [],.mk (some 6) (.fld 1 (.tmp 2)) none [],.mk (some 7) (.load false 1 (.tmp 6)) none [1],.mk (some 8) (.len (.tmp 7)) none [2],.mk (some 9) (.bin .sub (.tmp 8) (.const (.int .i64 1))) none [3],.mk (some 10) (.call 33 [.tmp 5,.const (.int .i64 0),.tmp 9]) none [0,4],.mk (some 11) (.mv (.tmp 10)) none [5,5],.mk (some 12) (.fld 1 (.tmp 2)) (some (11,true)) [6],.mk (some 13) (.load false 1 (.tmp 12)) (some (11,true)) [7,6],.mk (some 14) (.mv (.tmp 1)) (some (11,true)) [6],.mk (some 15) (.idxA 5 (.tmp 13) (.tmp 14)) (some (11,true)) [8,9,6],.mk (some 16) (.fld 4 (.tmp 15)) (some (11,true)) [10,6],.mk (some 17) (.load false 1 (.tmp 16)) (some (11,true)) [11,6],.mk (some 18) (.pick (.tmp 11) (.tmp 17) (.const (.bool false))) none [6,12],.mk (some 4) (.mv (.tmp 18)) none [13,6,0,1,2,3,4,5,6,7,8,9,10,11,12,13]]
def l82:AFn :=
  (AFn.mk 19 2 (.seq (.reg l82r0) (.seq (.reg l82r1) .ret)) [.tmp 4])
theorem l82_eq:lowFn Tryd.prog 82=some l82:=by kernel_rfl
def l83r0:List AOper :=
  [.mk (some 2) (.box (.tmp 0)) none [],.mk (some 4) (.mv (.const (.int .i64 0))) none []]
def l83r1:List AOper :=
  [.mk (some 7) (.fld 0 (.tmp 2)) none [],.mk (some 8) (.load false 1 (.tmp 7)) none [0],.mk (some 5) (.mv (.tmp 8)) none [1,0,1]]
def l83r2:List AOper :=
  [.mk (some 6) (.mv (.const (.int .i64 0))) none []]
def l83r3:List AOper :=
  [.mk (some 9) (.mv (.tmp 6)) none [],.mk (some 10) (.mv (.tmp 1)) none [],.mk (some 11) (.len (.tmp 10)) none [1],.mk (some 12) (.bin .lss (.tmp 9) (.tmp 11)) none [0,2]]
def l83r4a:List AOper :=
  [.mk (some 15) (.mv (.tmp 5)) none [],.mk (some 16) (.mv (.tmp 1)) none [],.mk (some 17) (.mv (.tmp 6)) none [],.mk (some 18) (.idxA 1 (.tmp 16) (.tmp 17)) none [1,2],.mk (some 19) (.load false 1 (.tmp 18)) none [3],.mk (some 20) (.fld 2 (.tmp 2)) none [],.mk (some 21) (.load false 1 (.tmp 20)) none [5],.mk (some 22) (.mv (.tmp 6)) none [],.mk (some 23) (.idxA 1 (.tmp 21) (.tmp 22)) none [6,7],.mk (some 24) (.load false 1 (.tmp 23)) none [8],.mk (some 25) (.bin .mul (.tmp 19) (.tmp 24)) none [4,9]]
def l83r4b:List AOper :=
  [.mk (some 26) (.bin .add (.tmp 15) (.tmp 25)) none [0,10],.mk (some 5) (.mv (.tmp 26)) none [11,0,1,2,3,4,5,6,7,8,9,10,11]]
def l83r4:List AOper:=l83r4a ++ l83r4b
def l83r5:List AOper :=
  [.mk (some 13) (.mv (.tmp 6)) none [],.mk (some 14) (.bin .add (.tmp 13) (.const (.int .i64 1))) none [0],.mk (some 6) (.mv (.tmp 14)) none [1,0,1]]
def l83r6:List AOper :=
  [.mk (some 27) (.mv (.tmp 5)) none [],.mk (some 4) (.mv (.tmp 27)) none [0,0]]
def l83:AFn :=
  (AFn.mk 28 2 (.seq (.reg l83r0) (.seq (.reg l83r1) (.seq (.seq (.reg l83r2) (.block 0 (.loop (.seq (.seq (.reg l83r3) (.cond (.tmp 12) .skip (.exit 0))) (.seq (.block 1 (.draw l83r4)) (.reg l83r5)))))) (.seq (.reg l83r6) .ret)))) [.tmp 4])
theorem l83_eq:lowFn Tryd.prog 83=some l83:=by kernel_rfl
def l84r0:List AOper :=
  [.mk (some 4) (.mv (.const (.slice none 0 0))) none []]
def l84r1:List AOper :=
  [.mk (some 7) (.mv (.tmp 0)) none [],.mk (some 8) (.len (.tmp 7)) none [0],.mk (some 9) (.mkslice 1 [.int .i64 0] (.tmp 8) (.tmp 8)) none [1,1],.mk (some 5) (.mv (.tmp 9)) none [2,0,1,2]]
def l84r2:List AOper :=
  [.mk (some 10) (.mv (.tmp 0)) none [],.mk (some 11) (.len (.tmp 10)) none [0],.mk (some 12) (.bin .sub (.tmp 11) (.const (.int .i64 1))) none [1],.mk (some 6) (.mv (.tmp 12)) none [2,0,1,2]]
def l84r3:List AOper :=
  [.mk (some 13) (.mv (.tmp 6)) none [],.mk (some 14) (.bin .geq (.tmp 13) (.const (.int .i64 0))) none [0]]
def l84r4:List AOper :=
  [.mk (some 17) (.mv (.tmp 5)) none [],.mk (some 18) (.mv (.tmp 6)) none [],.mk (some 19) (.mv (.tmp 1)) none [],.mk (some 20) (.mv (.tmp 0)) none [],.mk (some 21) (.mv (.tmp 6)) none [],.mk (some 22) (.idxA 1 (.tmp 20) (.tmp 21)) none [3,4],.mk (some 23) (.load false 1 (.tmp 22)) none [5],.mk (some 24) (.bin .rem (.tmp 19) (.tmp 23)) none [2,6],.mk (some 25) (.idxA 1 (.tmp 17) (.tmp 18)) none [0,1,0,1,2,3,4,5,6,7],.mk none (.store 1 (.tmp 25) (.tmp 24)) none [8,7,0,1,2,3,4,5,6,7]]
def l84r5:List AOper :=
  [.mk (some 26) (.mv (.tmp 1)) none [],.mk (some 27) (.mv (.tmp 0)) none [],.mk (some 28) (.mv (.tmp 6)) none [],.mk (some 29) (.idxA 1 (.tmp 27) (.tmp 28)) none [1,2],.mk (some 30) (.load false 1 (.tmp 29)) none [3],.mk (some 31) (.bin .quo (.tmp 26) (.tmp 30)) none [0,4],.mk (some 1) (.mv (.tmp 31)) none [5,0,1,2,3,4,5]]
def l84r6:List AOper :=
  [.mk (some 15) (.mv (.tmp 6)) none [],.mk (some 16) (.bin .sub (.tmp 15) (.const (.int .i64 1))) none [0],.mk (some 6) (.mv (.tmp 16)) none [1,0,1]]
def l84r7:List AOper :=
  [.mk (some 32) (.mv (.tmp 5)) none [],.mk (some 4) (.mv (.tmp 32)) none [0,0]]
def l84:AFn :=
  (AFn.mk 33 2 (.seq (.reg l84r0) (.seq (.reg l84r1) (.seq (.seq (.reg l84r2) (.block 0 (.loop (.seq (.seq (.reg l84r3) (.cond (.tmp 14) .skip (.exit 0))) (.seq (.block 1 (.seq (.reg l84r4) (.reg l84r5))) (.reg l84r6)))))) (.seq (.reg l84r7) .ret)))) [.tmp 4])
theorem l84_eq:lowFn Tryd.prog 84=some l84:=by kernel_rfl
def l85r0:List AOper :=
  [.mk (some 3) (.box (.tmp 0)) none [],.mk (some 5) (.box (.tmp 2)) none [],.mk (some 6) (.alloc [.slice none 0 0,.slice none 0 0]) none []]
def l85r1:List AOper :=
  [.mk (some 8) (.load true 2 (.tmp 3)) none [],.mk (some 9) (.call 42 [.tmp 8]) none [0],.mk (some 7) (.alloc [.slice none 0 0,.slice none 0 0]) none [],.mk none (.store 2 (.tmp 7) (.tmp 9)) none [2,1,1,0,1,2]]
def l85r2a:List AOper :=
  [.mk (some 10) (.fld 1 (.tmp 7)) none [],.mk (some 11) (.load false 1 (.tmp 10)) none [0],.mk (some 12) (.mv (.tmp 1)) none [],.mk (some 13) (.load true 3 (.tmp 5)) none [],.mk (some 14) (.call 57 [.tmp 13]) none [3],.mk (some 15) (.build [.int .i64 0,.int .i64 0,.slice none 0 0,.slice none 0 0,.bool false] [(0,1,.tmp 12),(1,3,.tmp 14),(4,1,.const (.bool true))]) none [2,4],.mk (some 16) (.bslice 5 [.int .i64 0,.int .i64 0,.slice none 0 0,.slice none 0 0,.bool false] [(0,.tmp 15)] 1) none [5]]
def l85r2b:List AOper :=
  [.mk (some 17) (.append 5 (.tmp 11) (.tmp 16)) none [1,6,4],.mk (some 18) (.fld 1 (.tmp 7)) none [0,1,2,3,4,5,6,7],.mk none (.store 1 (.tmp 18) (.tmp 17)) none [8,7,7,0,1,2,3,4,5,6,7]]
def l85r2:List AOper:=l85r2a ++ l85r2b
def l85r3:List AOper :=
  [.mk (some 19) (.load true 2 (.tmp 7)) none [],.mk none (.store 2 (.tmp 6) (.tmp 19)) none [0,0]]
def l85:AFn :=
  (AFn.mk 20 3 (.seq (.reg l85r0) (.seq (.reg l85r1) (.seq (.draw l85r2) (.seq (.reg l85r3) .ret)))) [.cell 6 true 2])
theorem l85_eq:lowFn Tryd.prog 85=some l85:=by kernel_rfl
def l86r0:List AOper :=
  [.mk (some 3) (.box (.tmp 0)) none [],.mk (some 5) (.box (.tmp 2)) none [],.mk (some 6) (.alloc [.int .i64 0,.slice none 0 0,.slice none 0 0]) none [],.mk (some 7) (.mv (.const (.bool false))) none []]
def l86r1:List AOper :=
  [.mk (some 8) (.load true 3 (.tmp 3)) none [],.mk (some 9) (.call 65 [.tmp 8]) none [0],.mk (some 10) (.un .not (.tmp 9)) none [1],.mk (some 11) (.mv (.tmp 10)) none [2,1],.mk (some 12) (.load true 3 (.tmp 3)) (some (11,false)) [3],.mk (some 13) (.mv (.tmp 1)) (some (11,false)) [3],.mk (some 14) (.call 89 [.tmp 12,.tmp 13]) (some (11,false)) [4,5,3,3],.mk (some 15) (.un .not (.tmp 14)) (some (11,false)) [6,3],.mk (some 16) (.pick (.tmp 11) (.const (.bool true)) (.tmp 15)) none [3,7],.mk (some 17) (.mv (.tmp 16)) none [8,6],.mk (some 18) (.load true 5 (.tmp 5)) (some (17,false)) [9],.mk (some 19) (.call 90 [.tmp 18]) (some (17,false)) [10,9,9],.mk (some 20) (.un .not (.tmp 19)) (some (17,false)) [11,9],.mk (some 21) (.pick (.tmp 17) (.const (.bool true)) (.tmp 20)) none [9,12]]
def l86r2:List AOper :=
  [.mk (some 22) (.build [.int .i64 0,.slice none 0 0,.slice none 0 0] []) none [],.mk none (.store 3 (.tmp 6) (.tmp 22)) none [0,0],.mk (some 7) (.mv (.const (.bool false))) none [1,0,1]]
def l86r3:List AOper :=
  [.mk (some 23) (.load true 3 (.tmp 3)) none [],.mk (some 24) (.mv (.tmp 1)) none [],.mk (some 25) (.load true 5 (.tmp 5)) none [],.mk (some 26) (.call 92 [.tmp 23,.tmp 24,.tmp 25]) none [0,1,2],.mk (some 27) (.call 91 [.tmp 26]) none [3,3],.mk (some 28) (.extract (.tmp 27) 0) none [4],.mk (some 29) (.extract (.tmp 27) 1) none [4],.mk none (.store 3 (.tmp 6) (.tmp 28)) none [5,4,0,1,2,3,4,5,6],.mk (some 7) (.mv (.tmp 29)) none [6,7,0,1,2,3,4,5,6,7]]
def l86:AFn :=
  (AFn.mk 30 3 (.seq (.reg l86r0) (.seq (.seq (.reg l86r1) (.cond (.tmp 21) (.seq (.reg l86r2) .ret) .skip)) (.seq (.reg l86r3) .ret))) [.cell 6 true 3,.tmp 7])
theorem l86_eq:lowFn Tryd.prog 86=some l86:=by kernel_rfl
def l87r0:List AOper :=
  [.mk (some 4) (.box (.tmp 1)) none [],.mk (some 6) (.mv (.const (.slice none 0 0))) none [],.mk (some 7) (.mv (.const (.bool false))) none [1]]
def l87r1:List AOper :=
  [.mk (some 11) (.mv (.tmp 0)) none [],.mk (some 12) (.load true 3 (.tmp 4)) none [],.mk (some 13) (.call 93 [.tmp 11,.tmp 12]) none [0,1],.mk (some 14) (.un .not (.tmp 13)) none [2],.mk (some 15) (.mv (.tmp 14)) none [3,2],.mk (some 16) (.mv (.tmp 2)) (some (15,false)) [4],.mk (some 17) (.call 33 [.tmp 16,.const (.int .i64 0),.const (.int .i64 255)]) (some (15,false)) [5,4,4],.mk (some 18) (.un .not (.tmp 17)) (some (15,false)) [6,4],.mk (some 19) (.pick (.tmp 15) (.const (.bool true)) (.tmp 18)) none [4,7]]
def l87r2:List AOper :=
  [.mk (some 6) (.mv (.const (.slice none 0 0))) none [],.mk (some 7) (.mv (.const (.bool false))) none [0,0]]
def l87r3:List AOper :=
  [.mk (some 20) (.mv (.tmp 0)) none [],.mk (some 21) (.call 56 [.tmp 20]) none [0],.mk (some 8) (.mv (.tmp 21)) none [1,1,0,1]]
def l87r4:List AOper :=
  [.mk (some 22) (.load true 3 (.tmp 4)) none [],.mk (some 23) (.call 76 [.tmp 22]) none [0],.mk (some 9) (.mv (.tmp 23)) none [1,1,0,1]]
def l87r5:List AOper :=
  [.mk (some 10) (.mv (.const (.int .i64 0))) none []]
def l87r6:List AOper :=
  [.mk (some 24) (.mv (.tmp 10)) none [],.mk (some 25) (.mv (.tmp 9)) none [],.mk (some 26) (.len (.tmp 25)) none [1],.mk (some 27) (.bin .lss (.tmp 24) (.tmp 26)) none [0,2]]
def l87r7:List AOper :=
  [.mk (some 30) (.mv (.tmp 8)) none [],.mk (some 31) (.mv (.tmp 9)) none [],.mk (some 32) (.mv (.tmp 10)) none [],.mk (some 33) (.idxA 1 (.tmp 31) (.tmp 32)) none [1,2],.mk (some 34) (.load false 1 (.tmp 33)) none [3],.mk (some 35) (.mv (.tmp 2)) none [],.mk (some 36) (.idxA 1 (.tmp 30) (.tmp 34)) none [0,4,0,1,2,3,4,5],.mk none (.store 1 (.tmp 36) (.tmp 35)) none [6,5,0,1,2,3,4,5]]
def l87r8:List AOper :=
  [.mk (some 28) (.mv (.tmp 10)) none [],.mk (some 29) (.bin .add (.tmp 28) (.const (.int .i64 1))) none [0],.mk (some 10) (.mv (.tmp 29)) none [1,0,1]]
def l87r9:List AOper :=
  [.mk (some 37) (.mv (.tmp 8)) none [],.mk (some 6) (.mv (.tmp 37)) none [0,0],.mk (some 7) (.mv (.const (.bool true))) none [1,0,1]]
def l87:AFn :=
  (AFn.mk 38 3 (.seq (.reg l87r0) (.seq (.seq (.reg l87r1) (.cond (.tmp 19) (.seq (.reg l87r2) .ret) .skip)) (.seq (.reg l87r3) (.seq (.reg l87r4) (.seq (.seq (.reg l87r5) (.block 0 (.loop (.seq (.seq (.reg l87r6) (.cond (.tmp 27) .skip (.exit 0))) (.seq (.block 1 (.reg l87r7)) (.reg l87r8)))))) (.seq (.reg l87r9) .ret)))))) [.tmp 6,.tmp 7])
theorem l87_eq:lowFn Tryd.prog 87=some l87:=by kernel_rfl
def l88r0:List AOper :=
  [.mk (some 4) (.box (.tmp 1)) none [],.mk (some 5) (.box (.tmp 2)) none [],.mk (some 6) (.mv (.const (.slice none 0 0))) none [],.mk (some 7) (.mv (.const (.bool false))) none [2]]
def l88r1:List AOper :=
  [.mk (some 8) (.mv (.tmp 0)) none [],.mk (some 9) (.load true 3 (.tmp 4)) none [],.mk (some 10) (.load true 3 (.tmp 5)) none [],.mk (some 11) (.call 94 [.tmp 8,.tmp 9,.tmp 10]) none [0,1,2],.mk (some 12) (.un .not (.tmp 11)) none [3]]
def l88r2:List AOper :=
  [.mk (some 6) (.mv (.const (.slice none 0 0))) none [],.mk (some 7) (.mv (.const (.bool false))) none [0,0]]
def l88r3a:List AOper :=
  [.mk (some 13) (.mv (.tmp 0)) none [],.mk (some 14) (.load true 3 (.tmp 4)) none [],.mk (some 15) (.mv (.tmp 0)) none [],.mk (some 16) (.load true 3 (.tmp 5)) none [],.mk (some 17) (.call 70 [.tmp 15,.tmp 16]) none [2,3]]
def l88r3b:List AOper :=
  [.mk (some 18) (.call 95 [.tmp 13,.tmp 14,.tmp 17]) none [0,1,4,4],.mk (some 6) (.mv (.tmp 18)) none [5,5,0,1,2,3,4,5],.mk (some 7) (.mv (.const (.bool true))) none [6,0,1,2,3,4,5,6]]
def l88r3:List AOper:=l88r3a ++ l88r3b
def l88:AFn :=
  (AFn.mk 19 3 (.seq (.reg l88r0) (.seq (.seq (.reg l88r1) (.cond (.tmp 12) (.seq (.reg l88r2) .ret) .skip)) (.seq (.draw l88r3) .ret))) [.tmp 6,.tmp 7])
theorem l88_eq:lowFn Tryd.prog 88=some l88:=by kernel_rfl
def l89r0:List AOper :=
  [.mk (some 2) (.box (.tmp 0)) none [],.mk (some 4) (.mv (.const (.bool false))) none []]
def l89r1:List AOper :=
  [.mk (some 5) (.mv (.tmp 1)) none [],.mk (some 6) (.fld 1 (.tmp 2)) none [],.mk (some 7) (.load false 1 (.tmp 6)) none [1],.mk (some 8) (.len (.tmp 7)) none [2],.mk (some 9) (.bin .sub (.tmp 8) (.const (.int .i64 1))) none [3],.mk (some 10) (.call 33 [.tmp 5,.const (.int .i64 0),.tmp 9]) none [0,4],.mk (some 4) (.mv (.tmp 10)) none [5,5,0,1,2,3,4,5]]
def l89:AFn :=
  (AFn.mk 11 2 (.seq (.reg l89r0) (.seq (.reg l89r1) .ret)) [.tmp 4])
theorem l89_eq:lowFn Tryd.prog 89=some l89:=by kernel_rfl
def l90r0:List AOper :=
  [.mk (some 1) (.box (.tmp 0)) none [],.mk (some 2) (.mv (.const (.bool false))) none []]
def l90r1:List AOper :=
  [.mk (some 3) (.fld 0 (.tmp 1)) none [],.mk (some 4) (.load false 1 (.tmp 3)) none [0],.mk (some 5) (.call 33 [.tmp 4,.const (.int .i64 (-100)),.const (.int .i64 100)]) none [1],.mk (some 6) (.mv (.tmp 5)) none [2,2],.mk (some 7) (.fld 1 (.tmp 1)) (some (6,true)) [3],.mk (some 8) (.load false 1 (.tmp 7)) (some (6,true)) [4,3],.mk (some 9) (.call 33 [.tmp 8,.const (.int .i64 (-100)),.const (.int .i64 100)]) (some (6,true)) [5,3,3],.mk (some 10) (.pick (.tmp 6) (.tmp 9) (.const (.bool false))) none [3,6],.mk (some 11) (.mv (.tmp 10)) none [7,6],.mk (some 12) (.fld 2 (.tmp 1)) (some (11,true)) [8],.mk (some 13) (.load false 1 (.tmp 12)) (some (11,true)) [9,8],.mk (some 14) (.call 33 [.tmp 13,.const (.int .i64 (-200)),.const (.int .i64 200)]) (some (11,true)) [10,8,8],.mk (some 15) (.pick (.tmp 11) (.tmp 14) (.const (.bool false))) none [8,11],.mk (some 16) (.mv (.tmp 15)) none [12,11],.mk (some 17) (.fld 2 (.tmp 1)) (some (16,true)) [13],.mk (some 18) (.load false 1 (.tmp 17)) (some (16,true)) [14,13],.mk (some 19) (.bin .neq (.tmp 18) (.const (.int .i64 0))) (some (16,true)) [15,13],.mk (some 20) (.pick (.tmp 16) (.tmp 19) (.const (.bool false))) none [13,16],.mk (some 21) (.mv (.tmp 20)) none [17,13],.mk (some 22) (.fld 3 (.tmp 1)) (some (21,true)) [18],.mk (some 23) (.load false 1 (.tmp 22)) (some (21,true)) [19,18],.mk (some 24) (.mv (.tmp 23)) (some (21,true)) [20,18,18],.mk (some 25) (.fld 0 (.tmp 1)) (some (24,false)) [21],.mk (some 26) (.load false 1 (.tmp 25)) (some (24,false)) [22,21],.mk (some 27) (.bin .eql (.tmp 26) (.const (.int .i64 0))) (some (24,false)) [23,21],.mk (some 28) (.pick (.tmp 24) (.const (.bool true)) (.tmp 27)) (some (21,true)) [21,24,18],.mk (some 29) (.pick (.tmp 21) (.tmp 28) (.const (.bool false))) none [18,25],.mk (some 30) (.mv (.tmp 29)) none [26,21],.mk (some 31) (.fld 4 (.tmp 1)) (some (30,true)) [27],.mk (some 32) (.load false 1 (.tmp 31)) (some (30,true)) [28,27],.mk (some 33) (.mv (.tmp 32)) (some (30,true)) [29,27,27],.mk (some 34) (.fld 1 (.tmp 1)) (some (33,false)) [30],.mk (some 35) (.load false 1 (.tmp 34)) (some (33,false)) [31,30],.mk (some 36) (.bin .eql (.tmp 35) (.const (.int .i64 0))) (some (33,false)) [32,30],.mk (some 37) (.pick (.tmp 33) (.const (.bool true)) (.tmp 36)) (some (30,true)) [30,33,27],.mk (some 38) (.pick (.tmp 30) (.tmp 37) (.const (.bool false))) none [27,34],.mk (some 2) (.mv (.tmp 38)) none [35,30,0,1,2,3,4,5,6,7,8,9,10,11,12,13,14,15,16,17,18,19,20,21,22,23,24,25,26,27,28,29,30,31,32,33,34,35]]
def l90:AFn :=
  (AFn.mk 39 1 (.seq (.reg l90r0) (.seq (.reg l90r1) .ret)) [.tmp 2])
theorem l90_eq:lowFn Tryd.prog 90=some l90:=by kernel_rfl
def l91r0:List AOper :=
  [.mk (some 1) (.box (.tmp 0)) none [],.mk (some 2) (.alloc [.int .i64 0,.slice none 0 0,.slice none 0 0]) none [],.mk (some 3) (.mv (.const (.bool false))) none []]
def l91r1:List AOper :=
  [.mk (some 4) (.load true 3 (.tmp 1)) none [],.mk (some 5) (.call 65 [.tmp 4]) none [0],.mk (some 6) (.un .not (.tmp 5)) none [1]]
def l91r2:List AOper :=
  [.mk (some 7) (.build [.int .i64 0,.slice none 0 0,.slice none 0 0] []) none [],.mk none (.store 3 (.tmp 2) (.tmp 7)) none [0,0],.mk (some 3) (.mv (.const (.bool false))) none [1,0,1]]
def l91r3:List AOper :=
  [.mk (some 8) (.load true 3 (.tmp 1)) none [],.mk (some 9) (.call 57 [.tmp 8]) none [0],.mk none (.store 3 (.tmp 2) (.tmp 9)) none [1,1,0,1],.mk (some 3) (.mv (.const (.bool true))) none [2,0,1,2]]
def l91:AFn :=
  (AFn.mk 10 1 (.seq (.reg l91r0) (.seq (.seq (.reg l91r1) (.cond (.tmp 6) (.seq (.reg l91r2) .ret) .skip)) (.seq (.reg l91r3) .ret))) [.cell 2 true 3,.tmp 3])
theorem l91_eq:lowFn Tryd.prog 91=some l91:=by kernel_rfl
def l92r0:List AOper :=
  [.mk (some 3) (.box (.tmp 0)) none [],.mk (some 5) (.box (.tmp 2)) none [],.mk (some 6) (.alloc [.int .i64 0,.slice none 0 0,.slice none 0 0]) none []]
def l92r1:List AOper :=
  [.mk (some 10) (.load true 3 (.tmp 3)) none [],.mk (some 11) (.call 57 [.tmp 10]) none [0],.mk (some 7) (.alloc [.int .i64 0,.slice none 0 0,.slice none 0 0]) none [],.mk none (.store 3 (.tmp 7) (.tmp 11)) none [2,1,1,0,1,2]]
def l92r2a:List AOper :=
  [.mk (some 12) (.fld 1 (.tmp 3)) none [],.mk (some 13) (.load false 1 (.tmp 12)) none [0],.mk (some 14) (.mv (.tmp 1)) none [],.mk (some 15) (.idxA 1 (.tmp 13) (.tmp 14)) none [1,2],.mk (some 16) (.load false 1 (.tmp 15)) none [3],.mk (some 17) (.load true 5 (.tmp 5)) none [],.mk (some 18) (.call 97 [.tmp 16,.tmp 17]) none [4,5],.mk (some 19) (.call 96 [.tmp 18]) none [6,6],.mk (some 8) (.alloc [.int .i64 0,.int .i64 0,.int .i64 0]) none []]
def l92r2b:List AOper :=
  [.mk none (.store 3 (.tmp 8) (.tmp 19)) none [8,7,7,0,1,2,3,4,5,6,7,8]]
def l92r2:List AOper:=l92r2a ++ l92r2b
def l92r3:List AOper :=
  [.mk (some 20) (.load true 3 (.tmp 8)) none [],.mk (some 21) (.call 98 [.tmp 20]) none [0],.mk (some 9) (.mv (.tmp 21)) none [1,1,0,1]]
def l92r4:List AOper :=
  [.mk (some 22) (.fld 1 (.tmp 7)) none [],.mk (some 23) (.load false 1 (.tmp 22)) none [0],.mk (some 24) (.mv (.tmp 1)) none [],.mk (some 25) (.mv (.tmp 9)) none [],.mk (some 26) (.len (.tmp 25)) none [3],.mk (some 27) (.idxA 1 (.tmp 23) (.tmp 24)) none [1,2,0,1,2,3,4],.mk none (.store 1 (.tmp 27) (.tmp 26)) none [5,4,0,1,2,3,4]]
def l92r5a:List AOper :=
  [.mk (some 28) (.fld 0 (.tmp 3)) none [],.mk (some 29) (.load false 1 (.tmp 28)) none [0],.mk (some 30) (.fld 0 (.tmp 8)) none [],.mk (some 31) (.load false 1 (.tmp 30)) none [2],.mk (some 32) (.fld 2 (.tmp 3)) none [],.mk (some 33) (.load false 1 (.tmp 32)) none [4],.mk (some 34) (.mv (.tmp 1)) none [],.mk (some 35) (.idxA 1 (.tmp 33) (.tmp 34)) none [5,6],.mk (some 36) (.load false 1 (.tmp 35)) none [7],.mk (some 37) (.bin .mul (.tmp 31) (.tmp 36)) none [3,8]]
def l92r5b:List AOper :=
  [.mk (some 38) (.bin .add (.tmp 29) (.tmp 37)) none [1,9],.mk (some 39) (.fld 0 (.tmp 7)) none [0,1,2,3,4,5,6,7,8,9,10],.mk none (.store 1 (.tmp 39) (.tmp 38)) none [11,10,0,1,2,3,4,5,6,7,8,9,10]]
def l92r5:List AOper:=l92r5a ++ l92r5b
def l92r6a:List AOper :=
  [.mk (some 40) (.fld 2 (.tmp 7)) none [],.mk (some 41) (.load false 1 (.tmp 40)) none [0],.mk (some 42) (.mv (.tmp 1)) none [],.mk (some 43) (.fld 2 (.tmp 8)) none [],.mk (some 44) (.load false 1 (.tmp 43)) none [3],.mk (some 45) (.fld 2 (.tmp 3)) none [],.mk (some 46) (.load false 1 (.tmp 45)) none [5],.mk (some 47) (.mv (.tmp 1)) none [],.mk (some 48) (.idxA 1 (.tmp 46) (.tmp 47)) none [6,7],.mk (some 49) (.load false 1 (.tmp 48)) none [8],.mk (some 50) (.bin .mul (.tmp 44) (.tmp 49)) none [4,9]]
def l92r6b:List AOper :=
  [.mk (some 51) (.idxA 1 (.tmp 41) (.tmp 42)) none [1,2,0,1,2,3,4,5,6,7,8,9,10],.mk none (.store 1 (.tmp 51) (.tmp 50)) none [11,10,0,1,2,3,4,5,6,7,8,9,10]]
def l92r6:List AOper:=l92r6a ++ l92r6b
def l92r7:List AOper :=
  [.mk (some 52) (.mv (.tmp 9)) none [],.mk (some 53) (.len (.tmp 52)) none [0],.mk (some 54) (.bin .leq (.tmp 53) (.const (.int .i64 1))) none [1]]
def l92r8:List AOper :=
  [.mk (some 55) (.fld 2 (.tmp 7)) none [],.mk (some 56) (.load false 1 (.tmp 55)) none [0],.mk (some 57) (.mv (.tmp 1)) none [],.mk (some 58) (.idxA 1 (.tmp 56) (.tmp 57)) none [1,2,0,1,2],.mk none (.store 1 (.tmp 58) (.const (.int .i64 0))) none [3,0,1,2]]
def l92r9:List AOper :=
  [.mk (some 59) (.load true 3 (.tmp 7)) none [],.mk (some 60) (.call 99 [.tmp 59]) none [0],.mk none (.store 3 (.tmp 6) (.tmp 60)) none [1,1,0,1]]
def l92:AFn :=
  (AFn.mk 61 3 (.seq (.reg l92r0) (.seq (.reg l92r1) (.seq (.draw l92r2) (.seq (.reg l92r3) (.seq (.reg l92r4) (.seq (.draw l92r5) (.seq (.draw l92r6) (.seq (.seq (.reg l92r7) (.cond (.tmp 54) (.reg l92r8) .skip)) (.seq (.reg l92r9) .ret))))))))) [.cell 6 true 3])
theorem l92_eq:lowFn Tryd.prog 92=some l92:=by kernel_rfl
def l93r0:List AOper :=
  [.mk (some 3) (.box (.tmp 1)) none [],.mk (some 4) (.mv (.const (.bool false))) none []]
def l93r1:List AOper :=
  [.mk (some 5) (.mv (.tmp 0)) none [],.mk (some 6) (.call 52 [.tmp 5]) none [0],.mk (some 7) (.mv (.tmp 6)) none [1,1],.mk (some 8) (.load true 3 (.tmp 3)) (some (7,true)) [2],.mk (some 9) (.call 65 [.tmp 8]) (some (7,true)) [3,2,2],.mk (some 10) (.pick (.tmp 7) (.tmp 9) (.const (.bool false))) none [2,4],.mk (some 11) (.mv (.tmp 10)) none [5,4],.mk (some 12) (.load true 3 (.tmp 3)) (some (11,true)) [6],.mk (some 13) (.mv (.tmp 0)) (some (11,true)) [6],.mk (some 14) (.len (.tmp 13)) (some (11,true)) [8,6],.mk (some 15) (.call 66 [.tmp 12,.tmp 14]) (some (11,true)) [7,9,6,6],.mk (some 16) (.pick (.tmp 11) (.tmp 15) (.const (.bool false))) none [6,10],.mk (some 4) (.mv (.tmp 16)) none [11,10,0,1,2,3,4,5,6,7,8,9,10,11]]
def l93:AFn :=
  (AFn.mk 17 2 (.seq (.reg l93r0) (.seq (.reg l93r1) .ret)) [.tmp 4])
theorem l93_eq:lowFn Tryd.prog 93=some l93:=by kernel_rfl
def l94r0:List AOper :=
  [.mk (some 4) (.box (.tmp 1)) none [],.mk (some 5) (.box (.tmp 2)) none [],.mk (some 6) (.mv (.const (.bool false))) none []]
def l94r1:List AOper :=
  [.mk (some 7) (.mv (.tmp 0)) none [],.mk (some 8) (.load true 3 (.tmp 4)) none [],.mk (some 9) (.call 93 [.tmp 7,.tmp 8]) none [0,1],.mk (some 10) (.mv (.tmp 9)) none [2,2],.mk (some 11) (.mv (.tmp 0)) (some (10,true)) [3],.mk (some 12) (.load true 3 (.tmp 5)) (some (10,true)) [3],.mk (some 13) (.call 93 [.tmp 11,.tmp 12]) (some (10,true)) [4,5,3,3],.mk (some 14) (.pick (.tmp 10) (.tmp 13) (.const (.bool false))) none [3,6],.mk (some 15) (.mv (.tmp 14)) none [7,6],.mk (some 16) (.fld 1 (.tmp 4)) (some (15,true)) [8],.mk (some 17) (.load false 1 (.tmp 16)) (some (15,true)) [9,8],.mk (some 18) (.fld 1 (.tmp 5)) (some (15,true)) [8],.mk (some 19) (.load false 1 (.tmp 18)) (some (15,true)) [11,8],.mk (some 20) (.call 100 [.tmp 17,.tmp 19]) (some (15,true)) [10,12,8,8],.mk (some 21) (.pick (.tmp 15) (.tmp 20) (.const (.bool false))) none [8,13],.mk (some 6) (.mv (.tmp 21)) none [14,13,0,1,2,3,4,5,6,7,8,9,10,11,12,13,14]]
def l94:AFn :=
  (AFn.mk 22 3 (.seq (.reg l94r0) (.seq (.reg l94r1) .ret)) [.tmp 6])
theorem l94_eq:lowFn Tryd.prog 94=some l94:=by kernel_rfl
def l95r0:List AOper :=
  [.mk (some 4) (.box (.tmp 1)) none [],.mk (some 6) (.mv (.const (.slice none 0 0))) none []]
def l95r1:List AOper :=
  [.mk (some 10) (.mv (.tmp 0)) none [],.mk (some 11) (.call 56 [.tmp 10]) none [0],.mk (some 7) (.mv (.tmp 11)) none [1,1,0,1]]
def l95r2:List AOper :=
  [.mk (some 12) (.load true 3 (.tmp 4)) none [],.mk (some 13) (.call 76 [.tmp 12]) none [0],.mk (some 8) (.mv (.tmp 13)) none [1,1,0,1]]
def l95r3:List AOper :=
  [.mk (some 9) (.mv (.const (.int .i64 0))) none []]
def l95r4:List AOper :=
  [.mk (some 14) (.mv (.tmp 9)) none [],.mk (some 15) (.mv (.tmp 8)) none [],.mk (some 16) (.len (.tmp 15)) none [1],.mk (some 17) (.bin .lss (.tmp 14) (.tmp 16)) none [0,2]]
def l95r5a:List AOper :=
  [.mk (some 20) (.mv (.tmp 7)) none [],.mk (some 21) (.mv (.tmp 8)) none [],.mk (some 22) (.mv (.tmp 9)) none [],.mk (some 23) (.idxA 1 (.tmp 21) (.tmp 22)) none [1,2],.mk (some 24) (.load false 1 (.tmp 23)) none [3],.mk (some 25) (.mv (.tmp 2)) none [],.mk (some 26) (.mv (.tmp 9)) none [],.mk (some 27) (.idxA 1 (.tmp 25) (.tmp 26)) none [5,6],.mk (some 28) (.load false 1 (.tmp 27)) none [7]]
def l95r5b:List AOper :=
  [.mk (some 29) (.idxA 1 (.tmp 20) (.tmp 24)) none [0,4,0,1,2,3,4,5,6,7,8],.mk none (.store 1 (.tmp 29) (.tmp 28)) none [9,8,0,1,2,3,4,5,6,7,8]]
def l95r5:List AOper:=l95r5a ++ l95r5b
def l95r6:List AOper :=
  [.mk (some 18) (.mv (.tmp 9)) none [],.mk (some 19) (.bin .add (.tmp 18) (.const (.int .i64 1))) none [0],.mk (some 9) (.mv (.tmp 19)) none [1,0,1]]
def l95r7:List AOper :=
  [.mk (some 30) (.mv (.tmp 7)) none [],.mk (some 6) (.mv (.tmp 30)) none [0,0]]
def l95:AFn :=
  (AFn.mk 31 3 (.seq (.reg l95r0) (.seq (.reg l95r1) (.seq (.reg l95r2) (.seq (.seq (.reg l95r3) (.block 0 (.loop (.seq (.seq (.reg l95r4) (.cond (.tmp 17) .skip (.exit 0))) (.seq (.block 1 (.draw l95r5)) (.reg l95r6)))))) (.seq (.reg l95r7) .ret))))) [.tmp 6])
theorem l95_eq:lowFn Tryd.prog 95=some l95:=by kernel_rfl
def l96r0:List AOper :=
  [.mk (some 2) (.alloc [.int .i64 0,.int .i64 0,.int .i64 0]) none []]
def l96r1:List AOper :=
  [.mk (some 5) (.mv (.tmp 0)) none [],.mk (some 6) (.len (.tmp 5)) none [0]]
def l96r2:List AOper :=
  [.mk (some 8) (.bin .eql (.tmp 6) (.const (.int .i64 0))) none [],.mk (some 7) (.mv (.tmp 8)) none [0]]
def l96r3:List AOper :=
  [.mk (some 9) (.build [.int .i64 0,.int .i64 0,.int .i64 0] [(0,1,.const (.int .i64 0)),(1,1,.const (.int .i64 0)),(2,1,.const (.int .i64 1))]) none [],.mk none (.store 3 (.tmp 2) (.tmp 9)) none [0,0]]
def l96r4:List AOper :=
  [.mk (some 11) (.bin .eql (.tmp 6) (.const (.int .i64 1))) none [],.mk (some 10) (.mv (.tmp 11)) none [0]]
def l96r5a:List AOper :=
  [.mk (some 12) (.mv (.tmp 0)) none [],.mk (some 13) (.idxA 1 (.tmp 12) (.const (.int .i64 0))) none [0],.mk (some 14) (.load false 1 (.tmp 13)) none [1],.mk (some 15) (.mv (.tmp 0)) none [],.mk (some 16) (.idxA 1 (.tmp 15) (.const (.int .i64 0))) none [3],.mk (some 17) (.load false 1 (.tmp 16)) none [4],.mk (some 18) (.bin .add (.tmp 17) (.const (.int .i64 1))) none [5]]
def l96r5b:List AOper :=
  [.mk (some 19) (.build [.int .i64 0,.int .i64 0,.int .i64 0] [(0,1,.tmp 14),(1,1,.tmp 18),(2,1,.const (.int .i64 1))]) none [2,6],.mk none (.store 3 (.tmp 2) (.tmp 19)) none [7,0,1,2,3,4,5,6,7]]
def l96r5:List AOper:=l96r5a ++ l96r5b
def l96r6a:List AOper :=
  [.mk (some 20) (.mv (.tmp 0)) none [],.mk (some 21) (.idxA 1 (.tmp 20) (.const (.int .i64 1))) none [0],.mk (some 22) (.load false 1 (.tmp 21)) none [1],.mk (some 23) (.mv (.tmp 0)) none [],.mk (some 24) (.idxA 1 (.tmp 23) (.const (.int .i64 0))) none [3],.mk (some 25) (.load false 1 (.tmp 24)) none [4]]
def l96r6b:List AOper :=
  [.mk (some 26) (.bin .sub (.tmp 22) (.tmp 25)) none [2,5],.mk (some 3) (.mv (.tmp 26)) none [6,0,1,2,3,4,5,6]]
def l96r6:List AOper:=l96r6a ++ l96r6b
def l96r7:List AOper :=
  [.mk (some 27) (.mv (.tmp 0)) none [],.mk (some 28) (.mv (.tmp 0)) none [],.mk (some 29) (.len (.tmp 28)) none [1],.mk (some 30) (.bin .sub (.tmp 29) (.const (.int .i64 1))) none [2],.mk (some 31) (.idxA 1 (.tmp 27) (.tmp 30)) none [0,3],.mk (some 32) (.load false 1 (.tmp 31)) none [4],.mk (some 33) (.bin .add (.tmp 32) (.const (.int .i64 1))) none [5],.mk (some 4) (.mv (.tmp 33)) none [6,0,1,2,3,4,5,6]]
def l96r8:List AOper :=
  [.mk (some 34) (.mv (.tmp 3)) none [],.mk (some 35) (.bin .lss (.tmp 34) (.const (.int .i64 0))) none [0]]
def l96r9:List AOper :=
  [.mk (some 36) (.mv (.tmp 0)) none [],.mk (some 37) (.mv (.tmp 0)) none [],.mk (some 38) (.len (.tmp 37)) none [1],.mk (some 39) (.bin .sub (.tmp 38) (.const (.int .i64 1))) none [2],.mk (some 40) (.idxA 1 (.tmp 36) (.tmp 39)) none [0,3],.mk (some 41) (.load false 1 (.tmp 40)) none [4],.mk (some 42) (.bin .sub (.tmp 41) (.const (.int .i64 1))) none [5],.mk (some 4) (.mv (.tmp 42)) none [6,0,1,2,3,4,5,6]]
def l96r10:List AOper :=
  [.mk (some 43) (.mv (.tmp 0)) none [],.mk (some 44) (.idxA 1 (.tmp 43) (.const (.int .i64 0))) none [0],.mk (some 45) (.load false 1 (.tmp 44)) none [1],.mk (some 46) (.mv (.tmp 4)) none [],.mk (some 47) (.mv (.tmp 3)) none [],.mk (some 48) (.build [.int .i64 0,.int .i64 0,.int .i64 0] [(0,1,.tmp 45),(1,1,.tmp 46),(2,1,.tmp 47)]) none [2,3,4],.mk none (.store 3 (.tmp 2) (.tmp 48)) none [5,0,1,2,3,4,5]]
def l96:AFn :=
  (AFn.mk 49 1 (.seq (.reg l96r0) (.seq (.seq (.reg l96r1) (.block 0 (.seq (.reg l96r2) (.cond (.tmp 7) (.seq (.reg l96r3) .ret) (.seq (.reg l96r4) (.cond (.tmp 10) (.seq (.draw l96r5) .ret) .skip)))))) (.seq (.draw l96r6) (.seq (.reg l96r7) (.seq (.seq (.reg l96r8) (.cond (.tmp 35) (.reg l96r9) .skip)) (.seq (.reg l96r10) .ret)))))) [.cell 2 true 3])
theorem l96_eq:lowFn Tryd.prog 96=some l96:=by kernel_rfl
def l97r0:List AOper :=
  [.mk (some 3) (.box (.tmp 1)) none [],.mk (some 4) (.mv (.const (.slice none 0 0))) none []]
def l97r1:List AOper :=
  [.mk (some 5) (.mv (.const (.int .i64 0))) none []]
def l97r2:List AOper :=
  [.mk (some 7) (.mv (.tmp 0)) none [],.mk (some 6) (.mv (.tmp 7)) none [0,0]]
def l97r3:List AOper :=
  [.mk (some 8) (.fld 2 (.tmp 3)) none [],.mk (some 9) (.load false 1 (.tmp 8)) none [0],.mk (some 10) (.bin .lss (.tmp 9) (.const (.int .i64 0))) none [1]]
def l97r4:List AOper :=
  [.mk (some 11) (.mv (.tmp 0)) none [],.mk (some 12) (.bin .sub (.tmp 11) (.const (.int .i64 1))) none [0],.mk (some 5) (.mv (.tmp 12)) none [1,0,1]]
def l97r5:List AOper :=
  [.mk (some 6) (.mv (.const (.int .i64 (-1)))) none []]
def l97r6:List AOper :=
  [.mk (some 13) (.fld 3 (.tmp 3)) none [],.mk (some 14) (.load false 1 (.tmp 13)) none [0]]
def l97r7:List AOper :=
  [.mk (some 15) (.mv (.tmp 0)) none [],.mk (some 16) (.fld 0 (.tmp 3)) none [],.mk (some 17) (.load false 1 (.tmp 16)) none [1],.mk (some 18) (.fld 2 (.tmp 3)) none [],.mk (some 19) (.load false 1 (.tmp 18)) none [3],.mk (some 20) (.call 101 [.tmp 15,.tmp 17,.tmp 19]) none [0,2,4],.mk (some 5) (.mv (.tmp 20)) none [5,5,0,1,2,3,4,5]]
def l97r8:List AOper :=
  [.mk (some 21) (.fld 4 (.tmp 3)) none [],.mk (some 22) (.load false 1 (.tmp 21)) none [0]]
def l97r9:List AOper :=
  [.mk (some 23) (.mv (.tmp 0)) none [],.mk (some 24) (.fld 1 (.tmp 3)) none [],.mk (some 25) (.load false 1 (.tmp 24)) none [1],.mk (some 26) (.fld 2 (.tmp 3)) none [],.mk (some 27) (.load false 1 (.tmp 26)) none [3],.mk (some 28) (.call 101 [.tmp 23,.tmp 25,.tmp 27]) none [0,2,4],.mk (some 6) (.mv (.tmp 28)) none [5,5,0,1,2,3,4,5]]
def l97r10:List AOper :=
  [.mk (some 29) (.mv (.tmp 5)) none [],.mk (some 30) (.mv (.tmp 6)) none [],.mk (some 31) (.fld 2 (.tmp 3)) none [],.mk (some 32) (.load false 1 (.tmp 31)) none [2],.mk (some 33) (.build [.int .i64 0,.int .i64 0,.int .i64 0] [(0,1,.tmp 29),(1,1,.tmp 30),(2,1,.tmp 32)]) none [0,1,3],.mk (some 34) (.call 98 [.tmp 33]) none [4],.mk (some 4) (.mv (.tmp 34)) none [5,5,0,1,2,3,4,5]]
def l97:AFn :=
  (AFn.mk 35 2 (.seq (.reg l97r0) (.seq (.reg l97r1) (.seq (.reg l97r2) (.seq (.seq (.reg l97r3) (.cond (.tmp 10) (.seq (.reg l97r4) (.reg l97r5)) .skip)) (.seq (.seq (.reg l97r6) (.cond (.tmp 14) (.reg l97r7) .skip)) (.seq (.seq (.reg l97r8) (.cond (.tmp 22) (.reg l97r9) .skip)) (.seq (.reg l97r10) .ret))))))) [.tmp 4])
theorem l97_eq:lowFn Tryd.prog 97=some l97:=by kernel_rfl
def l98r0:List AOper :=
  [.mk (some 1) (.box (.tmp 0)) none [],.mk (some 2) (.mv (.const (.slice none 0 0))) none []]
def l98r1:List AOper :=
  [.mk (some 5) (.bslice 1 [.int .i64 0] [] 0) none [],.mk (some 3) (.mv (.tmp 5)) none [0,0]]
def l98r2:List AOper :=
  [.mk (some 6) (.fld 0 (.tmp 1)) none [],.mk (some 7) (.load false 1 (.tmp 6)) none [0],.mk (some 4) (.mv (.tmp 7)) none [1,0,1]]
def l98r3:List AOper :=
  [.mk (some 8) (.fld 2 (.tmp 1)) none [],.mk (some 9) (.load false 1 (.tmp 8)) none [0],.mk (some 10) (.bin .gtr (.tmp 9) (.const (.int .i64 0))) none [1],.mk (some 11) (.mv (.tmp 10)) none [2],.mk (some 12) (.mv (.tmp 4)) (some (11,true)) [3],.mk (some 13) (.fld 1 (.tmp 1)) (some (11,true)) [3],.mk (some 14) (.load false 1 (.tmp 13)) (some (11,true)) [5,3],.mk (some 15) (.bin .lss (.tmp 12) (.tmp 14)) (some (11,true)) [4,6,3],.mk (some 16) (.pick (.tmp 11) (.tmp 15) (.const (.bool false))) none [3,7],.mk (some 17) (.mv (.tmp 16)) none [8,3],.mk (some 18) (.fld 2 (.tmp 1)) (some (17,false)) [9],.mk (some 19) (.load false 1 (.tmp 18)) (some (17,false)) [10,9],.mk (some 20) (.bin .lss (.tmp 19) (.const (.int .i64 0))) (some (17,false)) [11,9],.mk (some 21) (.mv (.tmp 20)) (some (17,false)) [12,9,9],.mk (some 22) (.mv (.tmp 4)) (some (21,true)) [13],.mk (some 23) (.fld 1 (.tmp 1)) (some (21,true)) [13],.mk (some 24) (.load false 1 (.tmp 23)) (some (21,true)) [15,13],.mk (some 25) (.bin .gtr (.tmp 22) (.tmp 24)) (some (21,true)) [14,16,13],.mk (some 26) (.pick (.tmp 21) (.tmp 25) (.const (.bool false))) (some (17,false)) [13,17,9],.mk (some 27) (.pick (.tmp 17) (.const (.bool true)) (.tmp 26)) none [9,18]]
def l98r4:List AOper :=
  [.mk (some 32) (.mv (.tmp 3)) none [],.mk (some 33) (.mv (.tmp 4)) none [],.mk (some 34) (.bslice 1 [.int .i64 0] [(0,.tmp 33)] 1) none [1],.mk (some 35) (.append 1 (.tmp 32) (.tmp 34)) none [0,2],.mk (some 3) (.mv (.tmp 35)) none [3,3,0,1,2,3]]
def l98r5:List AOper :=
  [.mk (some 28) (.mv (.tmp 4)) none [],.mk (some 29) (.fld 2 (.tmp 1)) none [],.mk (some 30) (.load false 1 (.tmp 29)) none [1],.mk (some 31) (.bin .add (.tmp 28) (.tmp 30)) none [0,2],.mk (some 4) (.mv (.tmp 31)) none [3,0,1,2,3]]
def l98r6:List AOper :=
  [.mk (some 36) (.mv (.tmp 3)) none [],.mk (some 2) (.mv (.tmp 36)) none [0,0]]
def l98:AFn :=
  (AFn.mk 37 1 (.seq (.reg l98r0) (.seq (.reg l98r1) (.seq (.seq (.reg l98r2) (.block 0 (.loop (.seq (.seq (.reg l98r3) (.cond (.tmp 27) .skip (.exit 0))) (.seq (.block 1 (.reg l98r4)) (.reg l98r5)))))) (.seq (.reg l98r6) .ret)))) [.tmp 2])
theorem l98_eq:lowFn Tryd.prog 98=some l98:=by kernel_rfl
def l99r0:List AOper :=
  [.mk (some 1) (.box (.tmp 0)) none [],.mk (some 2) (.alloc [.int .i64 0,.slice none 0 0,.slice none 0 0]) none []]
def l99r1:List AOper :=
  [.mk (some 3) (.fld 1 (.tmp 1)) none [],.mk (some 4) (.load false 1 (.tmp 3)) none [0],.mk (some 5) (.call 75 [.tmp 4]) none [1],.mk (some 6) (.bin .eql (.tmp 5) (.const (.int .i64 0))) none [2]]
def l99r2a:List AOper :=
  [.mk (some 7) (.fld 1 (.tmp 1)) none [],.mk (some 8) (.load false 1 (.tmp 7)) none [0],.mk (some 9) (.fld 1 (.tmp 1)) none [],.mk (some 10) (.load false 1 (.tmp 9)) none [2],.mk (some 11) (.len (.tmp 10)) none [3],.mk (some 12) (.mkslice 1 [.int .i64 0] (.tmp 11) (.tmp 11)) none [4,4]]
def l99r2b:List AOper :=
  [.mk (some 13) (.build [.int .i64 0,.slice none 0 0,.slice none 0 0] [(1,1,.tmp 8),(2,1,.tmp 12)]) none [1,5],.mk none (.store 3 (.tmp 2) (.tmp 13)) none [6,0,1,2,3,4,5,6]]
def l99r2:List AOper:=l99r2a ++ l99r2b
def l99r3:List AOper :=
  [.mk (some 14) (.load true 3 (.tmp 1)) none [],.mk none (.store 3 (.tmp 2) (.tmp 14)) none [0,0]]
def l99:AFn :=
  (AFn.mk 15 1 (.seq (.reg l99r0) (.seq (.seq (.reg l99r1) (.cond (.tmp 6) (.seq (.draw l99r2) .ret) .skip)) (.seq (.reg l99r3) .ret))) [.cell 2 true 3])
theorem l99_eq:lowFn Tryd.prog 99=some l99:=by kernel_rfl
def l100r0:List AOper :=
  [.mk (some 4) (.mv (.const (.bool false))) none []]
def l100r1:List AOper :=
  [.mk (some 6) (.mv (.tmp 0)) none [],.mk (some 7) (.len (.tmp 6)) none [0],.mk (some 8) (.mv (.tmp 1)) none [],.mk (some 9) (.len (.tmp 8)) none [2],.mk (some 10) (.bin .neq (.tmp 7) (.tmp 9)) none [1,3]]
def l100r2:List AOper :=
  [.mk (some 4) (.mv (.const (.bool false))) none []]
def l100r3:List AOper :=
  [.mk (some 5) (.mv (.const (.int .i64 0))) none []]
def l100r4:List AOper :=
  [.mk (some 11) (.mv (.tmp 5)) none [],.mk (some 12) (.mv (.tmp 0)) none [],.mk (some 13) (.len (.tmp 12)) none [1],.mk (some 14) (.bin .lss (.tmp 11) (.tmp 13)) none [0,2]]
def l100r5a:List AOper :=
  [.mk (some 17) (.mv (.tmp 0)) none [],.mk (some 18) (.mv (.tmp 5)) none [],.mk (some 19) (.idxA 1 (.tmp 17) (.tmp 18)) none [0,1],.mk (some 20) (.load false 1 (.tmp 19)) none [2],.mk (some 21) (.mv (.tmp 1)) none [],.mk (some 22) (.mv (.tmp 5)) none [],.mk (some 23) (.idxA 1 (.tmp 21) (.tmp 22)) none [4,5],.mk (some 24) (.load false 1 (.tmp 23)) none [6]]
def l100r5b:List AOper :=
  [.mk (some 25) (.bin .neq (.tmp 20) (.tmp 24)) none [3,7]]
def l100r5:List AOper:=l100r5a ++ l100r5b
def l100r6:List AOper :=
  [.mk (some 4) (.mv (.const (.bool false))) none []]
def l100r7:List AOper :=
  [.mk (some 15) (.mv (.tmp 5)) none [],.mk (some 16) (.bin .add (.tmp 15) (.const (.int .i64 1))) none [0],.mk (some 5) (.mv (.tmp 16)) none [1,0,1]]
def l100r8:List AOper :=
  [.mk (some 4) (.mv (.const (.bool true))) none []]
def l100:AFn :=
  (AFn.mk 26 2 (.seq (.reg l100r0) (.seq (.seq (.reg l100r1) (.cond (.tmp 10) (.seq (.reg l100r2) .ret) .skip)) (.seq (.seq (.reg l100r3) (.block 0 (.loop (.seq (.seq (.reg l100r4) (.cond (.tmp 14) .skip (.exit 0))) (.seq (.block 1 (.seq (.draw l100r5) (.cond (.tmp 25) (.seq (.reg l100r6) .ret) .skip))) (.reg l100r7)))))) (.seq (.reg l100r8) .ret)))) [.tmp 4])
theorem l100_eq:lowFn Tryd.prog 100=some l100:=by kernel_rfl
def l101r0:List AOper :=
  [.mk (some 6) (.mv (.const (.int .i64 0))) none []]
def l101r1:List AOper :=
  [.mk (some 7) (.mv (.const (.int .i64 0))) none []]
def l101r2:List AOper :=
  [.mk (some 9) (.mv (.tmp 0)) none [],.mk (some 8) (.mv (.tmp 9)) none [0,0]]
def l101r3:List AOper :=
  [.mk (some 10) (.mv (.tmp 2)) none [],.mk (some 11) (.bin .lss (.tmp 10) (.const (.int .i64 0))) none [0]]
def l101r4:List AOper :=
  [.mk (some 7) (.mv (.const (.int .i64 (-1)))) none []]
def l101r5:List AOper :=
  [.mk (some 12) (.mv (.tmp 0)) none [],.mk (some 13) (.bin .sub (.tmp 12) (.const (.int .i64 1))) none [0],.mk (some 8) (.mv (.tmp 13)) none [1,0,1]]
def l101r6:List AOper :=
  [.mk (some 14) (.mv (.tmp 1)) none [],.mk (some 15) (.bin .lss (.tmp 14) (.const (.int .i64 0))) none [0]]
def l101r7:List AOper :=
  [.mk (some 16) (.mv (.tmp 1)) none [],.mk (some 17) (.mv (.tmp 0)) none [],.mk (some 18) (.bin .add (.tmp 16) (.tmp 17)) none [0,1],.mk (some 1) (.mv (.tmp 18)) none [2,0,1,2]]
def l101r8:List AOper :=
  [.mk (some 19) (.mv (.tmp 8)) none [],.mk (some 20) (.mv (.tmp 7)) none [],.mk (some 21) (.mv (.tmp 1)) none [],.mk (some 22) (.minmax true (.tmp 20) (.tmp 21)) none [1,2],.mk (some 23) (.minmax false (.tmp 19) (.tmp 22)) none [0,3],.mk (some 6) (.mv (.tmp 23)) none [4,0,1,2,3,4]]
def l101:AFn :=
  (AFn.mk 24 3 (.seq (.reg l101r0) (.seq (.reg l101r1) (.seq (.reg l101r2) (.seq (.seq (.reg l101r3) (.cond (.tmp 11) (.seq (.reg l101r4) (.reg l101r5)) .skip)) (.seq (.seq (.reg l101r6) (.cond (.tmp 15) (.reg l101r7) .skip)) (.seq (.reg l101r8) .ret)))))) [.tmp 6])
theorem l101_eq:lowFn Tryd.prog 101=some l101:=by kernel_rfl
end Go.Proofs.YtkpcjppnjmhanaaDoor
