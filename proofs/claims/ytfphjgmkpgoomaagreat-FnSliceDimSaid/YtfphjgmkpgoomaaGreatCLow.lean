import Derived.Test.YtfphjgmkpgoomaaGreatCW3
import Derived.Test.YtfphjgmkpgoomaaGreatProg
import Derived.KernelRfl
set_option maxRecDepth 100000
namespace Go.Proofs.YtfphjgmkpgoomaaGreat
open Vw Go
instance globs:Inhabited GlobT:=⟨⟨[]⟩⟩
attribute [push_cast] Bool.false_eq_true List.length_replicate
attribute [bitvec_to_nat] decide_eq_true_eq decide_eq_false_iff_not Bool.not_eq_true' Bool.not_eq_false' Bool.and_eq_true Bool.or_eq_true Bool.and_eq_false_iff Bool.or_eq_false_iff Int.not_le Int.not_lt bne_iff_ne ne_eq beq_iff_eq Bool.not_eq_true Bool.not_eq_false
theorem sd {P:Prop} (h:P:=by first|assumption|rfl|omega|(simp<;>omega)|(simp_all<;>omega)):P:=h
def l3r0:List AOper :=
  [.mk (some 2) (.mv (.const (.bool false))) none []]
def l3r1:List AOper :=
  [.mk (some 17) (.mv (.tmp 0)) none [],.mk (some 18) (.len (.tmp 17)) none [0],.mk (some 19) (.bin .gtr (.tmp 18) (.const (.int .i64 1048576))) none [1]]
def l3r2:List AOper :=
  [.mk (some 2) (.mv (.const (.bool true))) none []]
def l3r3:List AOper :=
  [.mk (some 21) (.mv (.tmp 0)) none [],.mk (some 22) (.call 7 [.tmp 21]) none [0],.mk (some 20) (.mv (.tmp 22)) none [1],.mk (some 23) (.extract (.tmp 20) 0) none [2],.mk (some 24) (.extract (.tmp 20) 1) none [2],.mk (some 25) (.extract (.tmp 20) 2) none [2],.mk (some 3) (.alloc [.int .i64 0,.slice none 0 0,.slice none 0 0]) none [],.mk (some 5) (.alloc [.int .i64 0,.int .i64 0,.int .i64 0,.bool false,.bool false]) none [],.mk none (.store 3 (.tmp 3) (.tmp 23)) none [6,3,1,0,1,2,3,6,7],.mk (some 4) (.mv (.tmp 24)) none [4,8,0,1,2,3,4,6,7,8],.mk none (.store 5 (.tmp 5) (.tmp 25)) none [7,5,9,0,1,2,3,4,5,6,7,8,9]]
def l3r4:List AOper :=
  [.mk (some 27) (.load true 3 (.tmp 3)) none [],.mk (some 28) (.mv (.tmp 4)) none [],.mk (some 29) (.load true 5 (.tmp 5)) none [],.mk (some 30) (.call 8 [.tmp 27,.tmp 28,.tmp 29]) none [0,1,2],.mk (some 26) (.mv (.tmp 30)) none [3],.mk (some 31) (.extract (.tmp 26) 0) none [4],.mk (some 32) (.extract (.tmp 26) 1) none [4],.mk (some 6) (.alloc [.int .i64 0,.slice none 0 0,.slice none 0 0]) none [],.mk none (.store 3 (.tmp 6) (.tmp 31)) none [7,5,3,0,1,2,3,4,5,7],.mk (some 7) (.mv (.tmp 32)) none [6,8,0,1,2,3,4,5,6,7,8]]
def l3r5:List AOper :=
  [.mk (some 34) (.load true 3 (.tmp 3)) none [],.mk (some 35) (.mv (.tmp 4)) none [],.mk (some 36) (.load true 5 (.tmp 5)) none [],.mk (some 37) (.call 9 [.tmp 34,.tmp 35,.tmp 36]) none [0,1,2],.mk (some 33) (.mv (.tmp 37)) none [3],.mk (some 38) (.extract (.tmp 33) 0) none [4],.mk (some 39) (.extract (.tmp 33) 1) none [4],.mk (some 8) (.alloc [.int .i64 0,.slice none 0 0,.slice none 0 0]) none [],.mk none (.store 3 (.tmp 8) (.tmp 38)) none [7,5,3,0,1,2,3,4,5,7],.mk (some 9) (.mv (.tmp 39)) none [6,8,0,1,2,3,4,5,6,7,8]]
def l3r6:List AOper :=
  [.mk (some 40) (.load true 3 (.tmp 6)) none [],.mk (some 41) (.load true 3 (.tmp 8)) none [],.mk (some 42) (.call 10 [.tmp 40,.tmp 41]) none [0,1],.mk (some 43) (.un .not (.tmp 42)) none [2],.mk (some 44) (.mv (.tmp 43)) none [3,2],.mk (some 45) (.mv (.tmp 7)) (some (44,false)) [4],.mk (some 46) (.mv (.tmp 9)) (some (44,false)) [4],.mk (some 47) (.binB .neq (.tmp 45) (.tmp 46)) (some (44,false)) [5,6,4],.mk (some 48) (.pick (.tmp 44) (.const (.bool true)) (.tmp 47)) none [4,7],.mk (some 49) (.mv (.tmp 48)) none [8,4],.mk (some 50) (.mv (.tmp 7)) (some (49,false)) [9],.mk (some 51) (.un .not (.tmp 50)) (some (49,false)) [10,9],.mk (some 52) (.pick (.tmp 49) (.const (.bool true)) (.tmp 51)) none [9,11]]
def l3r7:List AOper :=
  [.mk (some 53) (.load true 3 (.tmp 6)) none [],.mk (some 54) (.load true 3 (.tmp 8)) none [],.mk (some 55) (.call 10 [.tmp 53,.tmp 54]) none [0,1],.mk (some 56) (.mv (.tmp 55)) none [2,2],.mk (some 57) (.mv (.tmp 7)) (some (56,true)) [3],.mk (some 58) (.mv (.tmp 9)) (some (56,true)) [3],.mk (some 59) (.binB .eql (.tmp 57) (.tmp 58)) (some (56,true)) [4,5,3],.mk (some 60) (.pick (.tmp 56) (.tmp 59) (.const (.bool false))) none [3,6],.mk (some 2) (.mv (.tmp 60)) none [7,3,0,1,2,3,4,5,6,7]]
def l3r8a:List AOper :=
  [.mk (some 61) (.fld 1 (.tmp 3)) none [],.mk (some 62) (.load false 1 (.tmp 61)) none [0],.mk (some 63) (.mv (.tmp 4)) none [],.mk (some 64) (.idxA 1 (.tmp 62) (.tmp 63)) none [1,2],.mk (some 65) (.load false 1 (.tmp 64)) none [3],.mk (some 66) (.load true 5 (.tmp 5)) none []]
def l3r8b:List AOper :=
  [.mk (some 67) (.call 11 [.tmp 65,.tmp 66]) none [4,5],.mk (some 10) (.mv (.tmp 67)) none [6,6,0,1,2,3,4,5,6]]
def l3r8:List AOper:=l3r8a ++ l3r8b
def l3r9:List AOper :=
  [.mk (some 11) (.mv (.const (.int .i64 0))) none []]
def l3r10:List AOper :=
  [.mk (some 68) (.mv (.tmp 11)) none [],.mk (some 69) (.fld 1 (.tmp 6)) none [],.mk (some 70) (.load false 1 (.tmp 69)) none [1],.mk (some 71) (.call 12 [.tmp 70]) none [2],.mk (some 72) (.bin .lss (.tmp 68) (.tmp 71)) none [0,3]]
def l3r11:List AOper :=
  [.mk (some 75) (.fld 1 (.tmp 6)) none [],.mk (some 76) (.load false 1 (.tmp 75)) none [0],.mk (some 77) (.mv (.tmp 11)) none [],.mk (some 78) (.call 13 [.tmp 76,.tmp 77]) none [1,2],.mk (some 12) (.mv (.tmp 78)) none [3,3,0,1,2,3]]
def l3r12:List AOper :=
  [.mk (some 80) (.load true 3 (.tmp 6)) none [],.mk (some 81) (.mv (.tmp 12)) none [],.mk (some 82) (.call 14 [.tmp 80,.tmp 81]) none [0,1],.mk (some 79) (.mv (.tmp 82)) none [2],.mk (some 83) (.extract (.tmp 79) 0) none [3],.mk (some 84) (.extract (.tmp 79) 1) none [3],.mk (some 13) (.mv (.tmp 83)) none [4,2,0,1,2,3,4],.mk (some 14) (.mv (.tmp 84)) none [5,6,0,1,2,3,4,5,6]]
def l3r13:List AOper :=
  [.mk (some 85) (.mv (.tmp 12)) none [],.mk (some 86) (.mv (.tmp 4)) none [],.mk (some 87) (.mv (.tmp 10)) none [],.mk (some 88) (.mv (.tmp 12)) none [],.mk (some 89) (.mv (.tmp 4)) none [],.mk (some 90) (.idxA 1 (.tmp 88) (.tmp 89)) none [3,4],.mk (some 91) (.load false 1 (.tmp 90)) none [5],.mk (some 92) (.idxA 1 (.tmp 87) (.tmp 91)) none [2,6],.mk (some 93) (.load false 1 (.tmp 92)) none [7],.mk (some 94) (.idxA 1 (.tmp 85) (.tmp 86)) none [0,1,0,1,2,3,4,5,6,7,8],.mk none (.store 1 (.tmp 94) (.tmp 93)) none [9,8,0,1,2,3,4,5,6,7,8]]
def l3r14:List AOper :=
  [.mk (some 96) (.load true 3 (.tmp 3)) none [],.mk (some 97) (.mv (.tmp 12)) none [],.mk (some 98) (.call 14 [.tmp 96,.tmp 97]) none [0,1],.mk (some 95) (.mv (.tmp 98)) none [2],.mk (some 99) (.extract (.tmp 95) 0) none [3],.mk (some 100) (.extract (.tmp 95) 1) none [3],.mk (some 15) (.mv (.tmp 99)) none [4,2,0,1,2,3,4],.mk (some 16) (.mv (.tmp 100)) none [5,6,0,1,2,3,4,5,6]]
def l3r15:List AOper :=
  [.mk (some 101) (.mv (.tmp 16)) none [],.mk (some 102) (.un .not (.tmp 101)) none [0],.mk (some 103) (.mv (.tmp 102)) none [1],.mk (some 104) (.mv (.tmp 13)) (some (103,false)) [2],.mk (some 105) (.mv (.tmp 15)) (some (103,false)) [2],.mk (some 106) (.bin .neq (.tmp 104) (.tmp 105)) (some (103,false)) [3,4,2],.mk (some 107) (.pick (.tmp 103) (.const (.bool true)) (.tmp 106)) none [2,5]]
def l3r16:List AOper :=
  [.mk (some 2) (.mv (.const (.bool false))) none []]
def l3r17:List AOper :=
  [.mk (some 73) (.mv (.tmp 11)) none [],.mk (some 74) (.bin .add (.tmp 73) (.const (.int .i64 1))) none [0],.mk (some 11) (.mv (.tmp 74)) none [1,0,1]]
def l3r18:List AOper :=
  [.mk (some 108) (.fld 1 (.tmp 6)) none [],.mk (some 109) (.load false 1 (.tmp 108)) none [0],.mk (some 110) (.mv (.tmp 4)) none [],.mk (some 111) (.idxA 1 (.tmp 109) (.tmp 110)) none [1,2],.mk (some 112) (.load false 1 (.tmp 111)) none [3],.mk (some 113) (.mv (.tmp 10)) none [],.mk (some 114) (.len (.tmp 113)) none [5],.mk (some 115) (.bin .eql (.tmp 112) (.tmp 114)) none [4,6],.mk (some 116) (.mv (.tmp 115)) none [7],.mk (some 117) (.load true 3 (.tmp 3)) (some (116,true)) [8],.mk (some 118) (.load true 3 (.tmp 6)) (some (116,true)) [8],.mk (some 119) (.call 15 [.tmp 117,.tmp 118]) (some (116,true)) [9,10,8,8],.mk (some 120) (.pick (.tmp 116) (.tmp 119) (.const (.bool false))) none [8,11],.mk (some 2) (.mv (.tmp 120)) none [12,11,0,1,2,3,4,5,6,7,8,9,10,11,12]]
def l3:AFn :=
  (AFn.mk 121 1 (.seq (.reg l3r0) (.seq (.seq (.reg l3r1) (.cond (.tmp 19) (.seq (.reg l3r2) .ret) .skip)) (.seq (.reg l3r3) (.seq (.reg l3r4) (.seq (.reg l3r5) (.seq (.seq (.reg l3r6) (.cond (.tmp 52) (.seq (.reg l3r7) .ret) .skip)) (.seq (.draw l3r8) (.seq (.seq (.reg l3r9) (.block 0 (.loop (.seq (.seq (.reg l3r10) (.cond (.tmp 72) .skip (.exit 0))) (.seq (.block 1 (.seq (.reg l3r11) (.seq (.reg l3r12) (.seq (.reg l3r13) (.seq (.reg l3r14) (.seq (.reg l3r15) (.cond (.tmp 107) (.seq (.reg l3r16) .ret) .skip))))))) (.reg l3r17)))))) (.seq (.reg l3r18) .ret))))))))) [.tmp 2])
theorem l3_eq:lowFn Tryz.prog 3=some l3:=by kernel_rfl
def l7r0:List AOper :=
  [.mk (some 2) (.alloc [.int .i64 0,.slice none 0 0,.slice none 0 0]) none [],.mk (some 3) (.mv (.const (.int .i64 0))) none [],.mk (some 4) (.alloc [.int .i64 0,.int .i64 0,.int .i64 0,.bool false,.bool false]) none []]
def l7r1:List AOper :=
  [.mk (some 8) (.mv (.tmp 0)) none [],.mk (some 9) (.call 35 [.tmp 8]) none [0],.mk (some 5) (.mv (.tmp 9)) none [1,1,0,1]]
def l7r2:List AOper :=
  [.mk (some 11) (.mv (.tmp 5)) none [],.mk (some 12) (.call 36 [.tmp 11]) none [0],.mk (some 10) (.mv (.tmp 12)) none [1],.mk (some 13) (.extract (.tmp 10) 0) none [2],.mk (some 14) (.extract (.tmp 10) 1) none [2],.mk (some 6) (.alloc [.int .i64 0,.slice none 0 0,.slice none 0 0]) none [],.mk none (.store 3 (.tmp 6) (.tmp 13)) none [5,3,1,0,1,2,3,5],.mk (some 7) (.mv (.tmp 14)) none [4,6,0,1,2,3,4,5,6]]
def l7r3a:List AOper :=
  [.mk (some 15) (.load true 3 (.tmp 6)) none [],.mk (some 16) (.mv (.tmp 7)) none [],.mk (some 17) (.mv (.tmp 5)) none [],.mk (some 18) (.call 37 [.tmp 17]) none [2],.mk none (.store 3 (.tmp 2) (.tmp 15)) none [0,3,0]]
def l7r3b:List AOper :=
  [.mk (some 3) (.mv (.tmp 16)) none [1,4,0,1,4],.mk none (.store 5 (.tmp 4) (.tmp 18)) none [3,5,0,1,2,3,4,5]]
def l7r3:List AOper:=l7r3a ++ l7r3b
def l7:AFn :=
  (AFn.mk 19 1 (.seq (.reg l7r0) (.seq (.reg l7r1) (.seq (.reg l7r2) (.seq (.draw l7r3) .ret)))) [.cell 2 true 3,.tmp 3,.cell 4 true 5])
theorem l7_eq:lowFn Tryz.prog 7=some l7:=by kernel_rfl
def l8r0:List AOper :=
  [.mk (some 3) (.box (.tmp 0)) none [],.mk (some 5) (.box (.tmp 2)) none [],.mk (some 6) (.alloc [.int .i64 0,.slice none 0 0,.slice none 0 0]) none [],.mk (some 7) (.mv (.const (.bool false))) none []]
def l8r1:List AOper :=
  [.mk (some 10) (.load true 3 (.tmp 3)) none [],.mk (some 11) (.mv (.tmp 1)) none [],.mk (some 12) (.call 38 [.tmp 10,.tmp 11]) none [0,1],.mk (some 13) (.un .not (.tmp 12)) none [2],.mk (some 14) (.mv (.tmp 13)) none [3,2],.mk (some 15) (.load true 5 (.tmp 5)) (some (14,false)) [4],.mk (some 16) (.call 39 [.tmp 15]) (some (14,false)) [5,4,4],.mk (some 17) (.un .not (.tmp 16)) (some (14,false)) [6,4],.mk (some 18) (.pick (.tmp 14) (.const (.bool true)) (.tmp 17)) none [4,7]]
def l8r2:List AOper :=
  [.mk (some 19) (.build [.int .i64 0,.slice none 0 0,.slice none 0 0] []) none [],.mk none (.store 3 (.tmp 6) (.tmp 19)) none [0,0],.mk (some 7) (.mv (.const (.bool false))) none [1,0,1]]
def l8r3a:List AOper :=
  [.mk (some 20) (.load true 5 (.tmp 5)) none [],.mk (some 21) (.fld 1 (.tmp 3)) none [],.mk (some 22) (.load false 1 (.tmp 21)) none [1],.mk (some 23) (.mv (.tmp 1)) none [],.mk (some 24) (.idxA 1 (.tmp 22) (.tmp 23)) none [2,3],.mk (some 25) (.load false 1 (.tmp 24)) none [4],.mk (some 26) (.call 40 [.tmp 20,.tmp 25]) none [0,5],.mk (some 8) (.alloc [.int .i64 0,.int .i64 0,.int .i64 0]) none []]
def l8r3b:List AOper :=
  [.mk none (.store 3 (.tmp 8) (.tmp 26)) none [7,6,6,0,1,2,3,4,5,6,7]]
def l8r3:List AOper:=l8r3a ++ l8r3b
def l8r4:List AOper :=
  [.mk (some 27) (.load true 3 (.tmp 3)) none [],.mk (some 28) (.call 41 [.tmp 27]) none [0],.mk (some 9) (.alloc [.int .i64 0,.slice none 0 0,.slice none 0 0,.int .i64 0,.int .i64 0,.int .i64 0,.int .i64 0,.slice none 0 0]) none [],.mk none (.store 8 (.tmp 9) (.tmp 28)) none [2,1,1,0,1,2]]
def l8r5:List AOper :=
  [.mk (some 29) (.mv (.tmp 1)) none [],.mk (some 30) (.fld 0 (.tmp 8)) none [],.mk (some 31) (.load false 1 (.tmp 30)) none [1],.mk (some 32) (.fld 3 (.tmp 9)) none [],.mk (some 33) (.idxP 1 4 (.tmp 32) (.tmp 29)) none [3,0,0,1,2],.mk none (.store 1 (.tmp 33) (.tmp 31)) none [4,2,0,1,2]]
def l8r6a:List AOper :=
  [.mk (some 34) (.fld 7 (.tmp 9)) none [],.mk (some 35) (.load false 1 (.tmp 34)) none [0],.mk (some 36) (.mv (.tmp 1)) none [],.mk (some 37) (.load true 3 (.tmp 8)) none [],.mk (some 38) (.call 43 [.tmp 37]) none [3],.mk (some 39) (.fld 2 (.tmp 3)) none [],.mk (some 40) (.load false 1 (.tmp 39)) none [5],.mk (some 41) (.mv (.tmp 1)) none [],.mk (some 42) (.idxA 1 (.tmp 40) (.tmp 41)) none [6,7],.mk (some 43) (.load false 1 (.tmp 42)) none [8],.mk (some 44) (.fld 2 (.tmp 8)) none [],.mk (some 45) (.load false 1 (.tmp 44)) none [10],.mk (some 46) (.bin .mul (.tmp 43) (.tmp 45)) none [9,11],.mk (some 47) (.call 42 [.tmp 38,.tmp 46]) none [4,12,4]]
def l8r6b:List AOper :=
  [.mk (some 48) (.idxA 2 (.tmp 35) (.tmp 36)) none [1,2,0,1,2,3,4,5,6,7,8,9,10,11,12,13],.mk none (.store 2 (.tmp 48) (.tmp 47)) none [14,13,13,0,1,2,3,4,5,6,7,8,9,10,11,12,13]]
def l8r6:List AOper:=l8r6a ++ l8r6b
def l8r7:List AOper :=
  [.mk (some 49) (.load true 8 (.tmp 9)) none [],.mk (some 50) (.call 44 [.tmp 49]) none [0],.mk none (.store 3 (.tmp 6) (.tmp 50)) none [1,1,0,1],.mk (some 7) (.mv (.const (.bool true))) none [2,0,1,2]]
def l8:AFn :=
  (AFn.mk 51 3 (.seq (.reg l8r0) (.seq (.seq (.reg l8r1) (.cond (.tmp 18) (.seq (.reg l8r2) .ret) .skip)) (.seq (.draw l8r3) (.seq (.reg l8r4) (.seq (.reg l8r5) (.seq (.draw l8r6) (.seq (.reg l8r7) .ret))))))) [.cell 6 true 3,.tmp 7])
theorem l8_eq:lowFn Tryz.prog 8=some l8:=by kernel_rfl
def l9r0:List AOper :=
  [.mk (some 3) (.box (.tmp 0)) none [],.mk (some 5) (.box (.tmp 2)) none [],.mk (some 6) (.alloc [.int .i64 0,.slice none 0 0,.slice none 0 0]) none [],.mk (some 7) (.mv (.const (.bool false))) none []]
def l9r1:List AOper :=
  [.mk (some 8) (.load true 3 (.tmp 3)) none [],.mk (some 9) (.call 45 [.tmp 8]) none [0],.mk (some 10) (.un .not (.tmp 9)) none [1],.mk (some 11) (.mv (.tmp 10)) none [2,1],.mk (some 12) (.load true 3 (.tmp 3)) (some (11,false)) [3],.mk (some 13) (.mv (.tmp 1)) (some (11,false)) [3],.mk (some 14) (.call 46 [.tmp 12,.tmp 13]) (some (11,false)) [4,5,3,3],.mk (some 15) (.un .not (.tmp 14)) (some (11,false)) [6,3],.mk (some 16) (.pick (.tmp 11) (.const (.bool true)) (.tmp 15)) none [3,7],.mk (some 17) (.mv (.tmp 16)) none [8,6],.mk (some 18) (.load true 5 (.tmp 5)) (some (17,false)) [9],.mk (some 19) (.call 47 [.tmp 18]) (some (17,false)) [10,9,9],.mk (some 20) (.un .not (.tmp 19)) (some (17,false)) [11,9],.mk (some 21) (.pick (.tmp 17) (.const (.bool true)) (.tmp 20)) none [9,12]]
def l9r2:List AOper :=
  [.mk (some 22) (.build [.int .i64 0,.slice none 0 0,.slice none 0 0] []) none [],.mk none (.store 3 (.tmp 6) (.tmp 22)) none [0,0],.mk (some 7) (.mv (.const (.bool false))) none [1,0,1]]
def l9r3:List AOper :=
  [.mk (some 23) (.load true 3 (.tmp 3)) none [],.mk (some 24) (.mv (.tmp 1)) none [],.mk (some 25) (.load true 5 (.tmp 5)) none [],.mk (some 26) (.call 49 [.tmp 23,.tmp 24,.tmp 25]) none [0,1,2],.mk (some 27) (.call 48 [.tmp 26]) none [3,3],.mk (some 28) (.extract (.tmp 27) 0) none [4],.mk (some 29) (.extract (.tmp 27) 1) none [4],.mk none (.store 3 (.tmp 6) (.tmp 28)) none [5,4,0,1,2,3,4,5,6],.mk (some 7) (.mv (.tmp 29)) none [6,7,0,1,2,3,4,5,6,7]]
def l9:AFn :=
  (AFn.mk 30 3 (.seq (.reg l9r0) (.seq (.seq (.reg l9r1) (.cond (.tmp 21) (.seq (.reg l9r2) .ret) .skip)) (.seq (.reg l9r3) .ret))) [.cell 6 true 3,.tmp 7])
theorem l9_eq:lowFn Tryz.prog 9=some l9:=by kernel_rfl
def l10r0:List AOper :=
  [.mk (some 2) (.box (.tmp 0)) none [],.mk (some 3) (.box (.tmp 1)) none [],.mk (some 4) (.mv (.const (.bool false))) none []]
def l10r1:List AOper :=
  [.mk (some 5) (.fld 0 (.tmp 2)) none [],.mk (some 6) (.load false 1 (.tmp 5)) none [0],.mk (some 7) (.fld 0 (.tmp 3)) none [],.mk (some 8) (.load false 1 (.tmp 7)) none [2],.mk (some 9) (.bin .eql (.tmp 6) (.tmp 8)) none [1,3],.mk (some 10) (.mv (.tmp 9)) none [4],.mk (some 11) (.fld 1 (.tmp 2)) (some (10,true)) [5],.mk (some 12) (.load false 1 (.tmp 11)) (some (10,true)) [6,5],.mk (some 13) (.fld 1 (.tmp 3)) (some (10,true)) [5],.mk (some 14) (.load false 1 (.tmp 13)) (some (10,true)) [8,5],.mk (some 15) (.call 19 [.tmp 12,.tmp 14]) (some (10,true)) [7,9,5,5],.mk (some 16) (.pick (.tmp 10) (.tmp 15) (.const (.bool false))) none [5,10],.mk (some 17) (.mv (.tmp 16)) none [11,10],.mk (some 18) (.fld 2 (.tmp 2)) (some (17,true)) [12],.mk (some 19) (.load false 1 (.tmp 18)) (some (17,true)) [13,12],.mk (some 20) (.fld 2 (.tmp 3)) (some (17,true)) [12],.mk (some 21) (.load false 1 (.tmp 20)) (some (17,true)) [15,12],.mk (some 22) (.call 19 [.tmp 19,.tmp 21]) (some (17,true)) [14,16,12,12],.mk (some 23) (.pick (.tmp 17) (.tmp 22) (.const (.bool false))) none [12,17],.mk (some 4) (.mv (.tmp 23)) none [18,17,0,1,2,3,4,5,6,7,8,9,10,11,12,13,14,15,16,17,18]]
def l10:AFn :=
  (AFn.mk 24 2 (.seq (.reg l10r0) (.seq (.reg l10r1) .ret)) [.tmp 4])
theorem l10_eq:lowFn Tryz.prog 10=some l10:=by kernel_rfl
def l11r0:List AOper :=
  [.mk (some 3) (.box (.tmp 1)) none [],.mk (some 4) (.mv (.const (.slice none 0 0))) none []]
def l11r1:List AOper :=
  [.mk (some 5) (.mv (.tmp 0)) none [],.mk (some 6) (.call 50 [.tmp 5]) none [0],.mk (some 7) (.un .not (.tmp 6)) none [1],.mk (some 8) (.mv (.tmp 7)) none [2,1],.mk (some 9) (.load true 5 (.tmp 3)) (some (8,false)) [3],.mk (some 10) (.call 39 [.tmp 9]) (some (8,false)) [4,3,3],.mk (some 11) (.un .not (.tmp 10)) (some (8,false)) [5,3],.mk (some 12) (.pick (.tmp 8) (.const (.bool true)) (.tmp 11)) none [3,6]]
def l11r2:List AOper :=
  [.mk (some 4) (.mv (.const (.slice none 0 0))) none []]
def l11r3:List AOper :=
  [.mk (some 13) (.load true 5 (.tmp 3)) none [],.mk (some 14) (.mv (.tmp 0)) none [],.mk (some 15) (.call 40 [.tmp 13,.tmp 14]) none [0,1],.mk (some 16) (.call 51 [.tmp 15]) none [2,2],.mk (some 4) (.mv (.tmp 16)) none [3,3,0,1,2,3]]
def l11:AFn :=
  (AFn.mk 17 2 (.seq (.reg l11r0) (.seq (.seq (.reg l11r1) (.cond (.tmp 12) (.seq (.reg l11r2) .ret) .skip)) (.seq (.reg l11r3) .ret))) [.tmp 4])
theorem l11_eq:lowFn Tryz.prog 11=some l11:=by kernel_rfl
def l12r0:List AOper :=
  [.mk (some 2) (.mv (.const (.int .i64 0))) none []]
def l12r1:List AOper :=
  [.mk (some 3) (.mv (.tmp 0)) none [],.mk (some 4) (.call 52 [.tmp 3]) none [0],.mk (some 5) (.un .not (.tmp 4)) none [1]]
def l12r2:List AOper :=
  [.mk (some 2) (.mv (.const (.int .i64 (-1)))) none []]
def l12r3:List AOper :=
  [.mk (some 6) (.mv (.tmp 0)) none [],.mk (some 7) (.call 53 [.tmp 6]) none [0],.mk (some 2) (.mv (.tmp 7)) none [1,1,0,1]]
def l12:AFn :=
  (AFn.mk 8 1 (.seq (.reg l12r0) (.seq (.seq (.reg l12r1) (.cond (.tmp 5) (.seq (.reg l12r2) .ret) .skip)) (.seq (.reg l12r3) .ret))) [.tmp 2])
theorem l12_eq:lowFn Tryz.prog 12=some l12:=by kernel_rfl
def l13r0:List AOper :=
  [.mk (some 4) (.mv (.const (.slice none 0 0))) none []]
def l13r1:List AOper :=
  [.mk (some 6) (.mv (.tmp 0)) none [],.mk (some 7) (.call 52 [.tmp 6]) none [0],.mk (some 8) (.un .not (.tmp 7)) none [1],.mk (some 9) (.mv (.tmp 8)) none [2,1],.mk (some 10) (.mv (.tmp 1)) (some (9,false)) [3],.mk (some 11) (.mv (.tmp 0)) (some (9,false)) [3],.mk (some 12) (.call 53 [.tmp 11]) (some (9,false)) [5,3,3],.mk (some 13) (.bin .sub (.tmp 12) (.const (.int .i64 1))) (some (9,false)) [6,3],.mk (some 14) (.call 54 [.tmp 10,.tmp 13]) (some (9,false)) [4,7,6,3],.mk (some 15) (.un .not (.tmp 14)) (some (9,false)) [8,3],.mk (some 16) (.pick (.tmp 9) (.const (.bool true)) (.tmp 15)) none [3,9]]
def l13r2:List AOper :=
  [.mk (some 4) (.mv (.const (.slice none 0 0))) none []]
def l13r3:List AOper :=
  [.mk (some 17) (.mv (.tmp 0)) none [],.mk (some 18) (.mv (.tmp 1)) none [],.mk (some 19) (.call 55 [.tmp 17,.tmp 18]) none [0,1],.mk (some 5) (.alloc [.int .i64 0,.int .i64 0,.int .i64 0,.int .i64 0]) none [],.mk none (.store 4 (.tmp 5) (.tmp 19)) none [3,2,2,0,1,2,3]]
def l13r4:List AOper :=
  [.mk (some 20) (.mv (.tmp 0)) none [],.mk (some 21) (.len (.tmp 20)) none [0],.mk (some 22) (.sliceP 1 4 (.tmp 5) none (some (.tmp 21))) none [1],.mk (some 23) (.call 56 [.tmp 22]) none [2],.mk (some 4) (.mv (.tmp 23)) none [3,3,0,1,2,3]]
def l13:AFn :=
  (AFn.mk 24 2 (.seq (.reg l13r0) (.seq (.seq (.reg l13r1) (.cond (.tmp 16) (.seq (.reg l13r2) .ret) .skip)) (.seq (.reg l13r3) (.seq (.reg l13r4) .ret)))) [.tmp 4])
theorem l13_eq:lowFn Tryz.prog 13=some l13:=by kernel_rfl
def l14r0:List AOper :=
  [.mk (some 2) (.box (.tmp 0)) none [],.mk (some 4) (.mv (.const (.int .i64 0))) none [],.mk (some 5) (.mv (.const (.bool false))) none [1]]
def l14r1:List AOper :=
  [.mk (some 8) (.load true 3 (.tmp 2)) none [],.mk (some 9) (.call 57 [.tmp 8]) none [0],.mk (some 10) (.un .not (.tmp 9)) none [1]]
def l14r2:List AOper :=
  [.mk (some 4) (.mv (.const (.int .i64 0))) none [],.mk (some 5) (.mv (.const (.bool false))) none [0,0]]
def l14r3:List AOper :=
  [.mk (some 12) (.fld 1 (.tmp 2)) none [],.mk (some 13) (.load false 1 (.tmp 12)) none [0],.mk (some 14) (.mv (.tmp 1)) none [],.mk (some 15) (.call 58 [.tmp 13,.tmp 14]) none [1,2],.mk (some 11) (.mv (.tmp 15)) none [3],.mk (some 16) (.extract (.tmp 11) 0) none [4],.mk (some 17) (.extract (.tmp 11) 1) none [4],.mk (some 6) (.alloc [.int .i64 0,.int .i64 0,.int .i64 0,.int .i64 0]) none [],.mk none (.store 4 (.tmp 6) (.tmp 16)) none [7,5,3,0,1,2,3,4,5,7],.mk (some 7) (.mv (.tmp 17)) none [6,8,0,1,2,3,4,5,6,7,8]]
def l14r4:List AOper :=
  [.mk (some 18) (.mv (.tmp 7)) none [],.mk (some 19) (.un .not (.tmp 18)) none [0]]
def l14r5:List AOper :=
  [.mk (some 4) (.mv (.const (.int .i64 0))) none [],.mk (some 5) (.mv (.const (.bool false))) none [0,0]]
def l14r6:List AOper :=
  [.mk (some 20) (.load true 3 (.tmp 2)) none [],.mk (some 21) (.load true 4 (.tmp 6)) none [],.mk (some 22) (.call 59 [.tmp 20,.tmp 21]) none [0,1],.mk (some 4) (.mv (.tmp 22)) none [2,2,0,1,2],.mk (some 5) (.mv (.const (.bool true))) none [3,0,1,2,3]]
def l14:AFn :=
  (AFn.mk 23 2 (.seq (.reg l14r0) (.seq (.seq (.reg l14r1) (.cond (.tmp 10) (.seq (.reg l14r2) .ret) .skip)) (.seq (.reg l14r3) (.seq (.seq (.reg l14r4) (.cond (.tmp 19) (.seq (.reg l14r5) .ret) .skip)) (.seq (.reg l14r6) .ret))))) [.tmp 4,.tmp 5])
theorem l14_eq:lowFn Tryz.prog 14=some l14:=by kernel_rfl
def l15r0:List AOper :=
  [.mk (some 2) (.box (.tmp 0)) none [],.mk (some 3) (.box (.tmp 1)) none [],.mk (some 4) (.mv (.const (.bool false))) none []]
def l15r1a:List AOper :=
  [.mk (some 5) (.load true 3 (.tmp 2)) none [],.mk (some 6) (.call 57 [.tmp 5]) none [0],.mk (some 7) (.mv (.tmp 6)) none [1,1],.mk (some 8) (.load true 3 (.tmp 3)) (some (7,true)) [2],.mk (some 9) (.call 57 [.tmp 8]) (some (7,true)) [3,2,2],.mk (some 10) (.pick (.tmp 7) (.tmp 9) (.const (.bool false))) none [2,4],.mk (some 11) (.mv (.tmp 10)) none [5,4],.mk (some 12) (.load true 3 (.tmp 2)) (some (11,true)) [6],.mk (some 13) (.load true 3 (.tmp 3)) (some (11,true)) [6],.mk (some 14) (.call 61 [.tmp 12,.tmp 13]) (some (11,true)) [7,8,6,6],.mk (some 15) (.load true 3 (.tmp 3)) (some (11,true)) [6]]
def l15r1b:List AOper :=
  [.mk (some 16) (.call 62 [.tmp 15]) (some (11,true)) [10,9,6],.mk (some 17) (.call 60 [.tmp 14,.tmp 16]) (some (11,true)) [9,11,11,6],.mk (some 18) (.pick (.tmp 11) (.tmp 17) (.const (.bool false))) none [6,12],.mk (some 4) (.mv (.tmp 18)) none [13,12,0,1,2,3,4,5,6,7,8,9,10,11,12,13]]
def l15r1:List AOper:=l15r1a ++ l15r1b
def l15:AFn :=
  (AFn.mk 19 2 (.seq (.reg l15r0) (.seq (.draw l15r1) .ret)) [.tmp 4])
theorem l15_eq:lowFn Tryz.prog 15=some l15:=by kernel_rfl
def l19r0:List AOper :=
  [.mk (some 4) (.mv (.const (.bool false))) none []]
def l19r1:List AOper :=
  [.mk (some 6) (.mv (.tmp 0)) none [],.mk (some 7) (.len (.tmp 6)) none [0],.mk (some 8) (.mv (.tmp 1)) none [],.mk (some 9) (.len (.tmp 8)) none [2],.mk (some 10) (.bin .neq (.tmp 7) (.tmp 9)) none [1,3]]
def l19r2:List AOper :=
  [.mk (some 4) (.mv (.const (.bool false))) none []]
def l19r3:List AOper :=
  [.mk (some 5) (.mv (.const (.int .i64 0))) none []]
def l19r4:List AOper :=
  [.mk (some 11) (.mv (.tmp 5)) none [],.mk (some 12) (.mv (.tmp 0)) none [],.mk (some 13) (.len (.tmp 12)) none [1],.mk (some 14) (.bin .lss (.tmp 11) (.tmp 13)) none [0,2]]
def l19r5a:List AOper :=
  [.mk (some 17) (.mv (.tmp 0)) none [],.mk (some 18) (.mv (.tmp 5)) none [],.mk (some 19) (.idxA 1 (.tmp 17) (.tmp 18)) none [0,1],.mk (some 20) (.load false 1 (.tmp 19)) none [2],.mk (some 21) (.mv (.tmp 1)) none [],.mk (some 22) (.mv (.tmp 5)) none [],.mk (some 23) (.idxA 1 (.tmp 21) (.tmp 22)) none [4,5],.mk (some 24) (.load false 1 (.tmp 23)) none [6]]
def l19r5b:List AOper :=
  [.mk (some 25) (.bin .neq (.tmp 20) (.tmp 24)) none [3,7]]
def l19r5:List AOper:=l19r5a ++ l19r5b
def l19r6:List AOper :=
  [.mk (some 4) (.mv (.const (.bool false))) none []]
def l19r7:List AOper :=
  [.mk (some 15) (.mv (.tmp 5)) none [],.mk (some 16) (.bin .add (.tmp 15) (.const (.int .i64 1))) none [0],.mk (some 5) (.mv (.tmp 16)) none [1,0,1]]
def l19r8:List AOper :=
  [.mk (some 4) (.mv (.const (.bool true))) none []]
def l19:AFn :=
  (AFn.mk 26 2 (.seq (.reg l19r0) (.seq (.seq (.reg l19r1) (.cond (.tmp 10) (.seq (.reg l19r2) .ret) .skip)) (.seq (.seq (.reg l19r3) (.block 0 (.loop (.seq (.seq (.reg l19r4) (.cond (.tmp 14) .skip (.exit 0))) (.seq (.block 1 (.seq (.draw l19r5) (.cond (.tmp 25) (.seq (.reg l19r6) .ret) .skip))) (.reg l19r7)))))) (.seq (.reg l19r8) .ret)))) [.tmp 4])
theorem l19_eq:lowFn Tryz.prog 19=some l19:=by kernel_rfl
def l35r0:List AOper :=
  [.mk (some 2) (.mv (.const (.pointer none))) none []]
def l35r1:List AOper :=
  [.mk (some 3) (.mv (.tmp 0)) none [],.mk (some 4) (.len (.tmp 3)) none [0],.mk (some 5) (.bin .gtr (.tmp 4) (.const (.int .i64 2000))) none [1]]
def l35r2:List AOper :=
  [.mk (some 6) (.mv (.tmp 0)) none [],.mk (some 7) (.slice 1 (.tmp 6) none (some (.const (.int .i64 2000)))) none [0],.mk (some 0) (.mv (.tmp 7)) none [1,0,1]]
def l35r3:List AOper :=
  [.mk (some 8) (.mv (.tmp 0)) none [],.mk (some 9) (.build [.slice none 0 0,.int .i64 0] [(0,1,.tmp 8)]) none [0],.mk (some 10) (.box (.tmp 9)) none [1],.mk (some 2) (.mv (.tmp 10)) none [2,0,1,2]]
def l35:AFn :=
  (AFn.mk 11 1 (.seq (.reg l35r0) (.seq (.seq (.reg l35r1) (.cond (.tmp 5) (.reg l35r2) .skip)) (.seq (.reg l35r3) .ret))) [.tmp 2])
theorem l35_eq:lowFn Tryz.prog 35=some l35:=by kernel_rfl
def l36r0:List AOper :=
  [.mk (some 2) (.alloc [.int .i64 0,.slice none 0 0,.slice none 0 0]) none [],.mk (some 3) (.mv (.const (.int .i64 0))) none []]
def l36r1:List AOper :=
  [.mk (some 5) (.mv (.tmp 0)) none [],.mk (some 6) (.call 63 [.tmp 5]) none [0],.mk (some 4) (.alloc [.int .i64 0,.slice none 0 0,.slice none 0 0]) none [],.mk none (.store 3 (.tmp 4) (.tmp 6)) none [2,1,1,0,1,2]]
def l36r2a:List AOper :=
  [.mk (some 7) (.load true 3 (.tmp 4)) none [],.mk (some 8) (.mv (.tmp 0)) none [],.mk (some 9) (.mv (.tmp 0)) none [],.mk (some 10) (.fld 1 (.tmp 4)) none [],.mk (some 11) (.load false 1 (.tmp 10)) none [3],.mk (some 12) (.len (.tmp 11)) none [4],.mk (some 13) (.bin .add (.tmp 12) (.const (.int .i64 1))) none [5],.mk (some 14) (.call 65 [.tmp 9,.tmp 13]) none [2,6],.mk (some 15) (.mv (.tmp 0)) none [],.mk (some 16) (.fld 1 (.tmp 4)) none [],.mk (some 17) (.load false 1 (.tmp 16)) none [9],.mk (some 18) (.len (.tmp 17)) none [10],.mk (some 19) (.bin .add (.tmp 18) (.const (.int .i64 1))) none [11],.mk (some 20) (.call 65 [.tmp 15,.tmp 19]) none [8,12,7],.mk (some 21) (.bslice 1 [.int .i64 0] [(0,.const (.int .i64 0)),(1,.tmp 14),(2,.const (.int .i64 1)),(3,.tmp 20),(4,.const (.int .i64 (-1)))] 5) none [7,13],.mk (some 22) (.call 66 [.tmp 8,.tmp 21]) none [1,14,13]]
def l36r2b:List AOper :=
  [.mk none (.store 3 (.tmp 2) (.tmp 7)) none [0,15,0],.mk (some 3) (.mv (.tmp 22)) none [15,16,0,1,2,3,4,5,6,7,8,9,10,11,12,13,14,15,16]]
def l36r2:List AOper:=l36r2a ++ l36r2b
def l36:AFn :=
  (AFn.mk 23 1 (.seq (.reg l36r0) (.seq (.reg l36r1) (.seq (.draw l36r2) .ret))) [.cell 2 true 3,.tmp 3])
theorem l36_eq:lowFn Tryz.prog 36=some l36:=by kernel_rfl
def l37r0:List AOper :=
  [.mk (some 2) (.alloc [.int .i64 0,.int .i64 0,.int .i64 0,.bool false,.bool false]) none []]
def l37r1:List AOper :=
  [.mk (some 4) (.mv (.tmp 0)) none [],.mk (some 5) (.bslice 1 [.int .i64 0] [(0,.const (.int .i64 1)),(1,.const (.int .i64 2)),(2,.const (.int .i64 (-1))),(3,.const (.int .i64 3)),(4,.const (.int .i64 (-2))),(5,.const (.int .i64 1)),(6,.const (.int .i64 5))] 7) none [],.mk (some 6) (.call 66 [.tmp 4,.tmp 5]) none [0,1],.mk (some 7) (.build [.int .i64 0,.int .i64 0,.int .i64 0,.bool false,.bool false] [(2,1,.tmp 6)]) none [2],.mk (some 3) (.alloc [.int .i64 0,.int .i64 0,.int .i64 0,.bool false,.bool false]) none [],.mk none (.store 5 (.tmp 3) (.tmp 7)) none [4,3,2,0,1,2,3,4]]
def l37r2:List AOper :=
  [.mk (some 8) (.mv (.tmp 0)) none [],.mk (some 9) (.call 65 [.tmp 8,.const (.int .i64 2)]) none [0],.mk (some 10) (.bin .eql (.tmp 9) (.const (.int .i64 0))) none [1]]
def l37r3:List AOper :=
  [.mk (some 11) (.fld 3 (.tmp 3)) none [],.mk none (.store 1 (.tmp 11) (.const (.bool true))) none [0]]
def l37r4:List AOper :=
  [.mk (some 12) (.mv (.tmp 0)) none [],.mk (some 13) (.mv (.tmp 0)) none [],.mk (some 14) (.call 65 [.tmp 13,.const (.int .i64 12)]) none [1],.mk (some 15) (.bslice 1 [.int .i64 0] [(0,.const (.int .i64 1)),(1,.const (.int .i64 2)),(2,.const (.int .i64 0)),(3,.const (.int .i64 (-1))),(4,.const (.int .i64 (-3))),(5,.tmp 14),(6,.const (.int .i64 30)),(7,.const (.int .i64 (-30)))] 8) none [2],.mk (some 16) (.call 66 [.tmp 12,.tmp 15]) none [0,3,2],.mk (some 17) (.fld 0 (.tmp 3)) none [0,1,2,3,4],.mk none (.store 1 (.tmp 17) (.tmp 16)) none [5,4,4,0,1,2,3,4]]
def l37r5:List AOper :=
  [.mk (some 18) (.mv (.tmp 0)) none [],.mk (some 19) (.call 65 [.tmp 18,.const (.int .i64 2)]) none [0],.mk (some 20) (.bin .eql (.tmp 19) (.const (.int .i64 0))) none [1]]
def l37r6:List AOper :=
  [.mk (some 21) (.fld 4 (.tmp 3)) none [],.mk none (.store 1 (.tmp 21) (.const (.bool true))) none [0]]
def l37r7:List AOper :=
  [.mk (some 22) (.mv (.tmp 0)) none [],.mk (some 23) (.mv (.tmp 0)) none [],.mk (some 24) (.call 65 [.tmp 23,.const (.int .i64 12)]) none [1],.mk (some 25) (.bslice 1 [.int .i64 0] [(0,.const (.int .i64 4)),(1,.const (.int .i64 3)),(2,.const (.int .i64 (-1))),(3,.const (.int .i64 (-2))),(4,.const (.int .i64 0)),(5,.tmp 24),(6,.const (.int .i64 30)),(7,.const (.int .i64 (-30)))] 8) none [2],.mk (some 26) (.call 66 [.tmp 22,.tmp 25]) none [0,3,2],.mk (some 27) (.fld 1 (.tmp 3)) none [0,1,2,3,4],.mk none (.store 1 (.tmp 27) (.tmp 26)) none [5,4,4,0,1,2,3,4]]
def l37r8:List AOper :=
  [.mk (some 28) (.mv (.tmp 0)) none [],.mk (some 29) (.call 65 [.tmp 28,.const (.int .i64 24)]) none [0]]
def l37r9:List AOper :=
  [.mk (some 31) (.bin .eql (.tmp 29) (.const (.int .i64 0))) none [],.mk (some 30) (.mv (.tmp 31)) none [0]]
def l37r10:List AOper :=
  [.mk (some 32) (.mv (.tmp 0)) none [],.mk (some 33) (.bslice 1 [.int .i64 0] [(0,.const (.int .i64 0)),(1,.const (.int .i64 201))] 2) none [],.mk (some 34) (.call 66 [.tmp 32,.tmp 33]) none [0,1],.mk (some 35) (.fld 2 (.tmp 3)) none [0,1,2],.mk none (.store 1 (.tmp 35) (.tmp 34)) none [3,2,2,0,1,2]]
def l37r11:List AOper :=
  [.mk (some 37) (.bin .eql (.tmp 29) (.const (.int .i64 1))) none [],.mk (some 36) (.mv (.tmp 37)) none [0]]
def l37r12:List AOper :=
  [.mk (some 38) (.fld 0 (.tmp 3)) none [],.mk none (.store 1 (.tmp 38) (.const (.int .i64 101))) none [0]]
def l37r13:List AOper :=
  [.mk (some 40) (.bin .eql (.tmp 29) (.const (.int .i64 2))) none [],.mk (some 39) (.mv (.tmp 40)) none [0]]
def l37r14:List AOper :=
  [.mk (some 41) (.mv (.tmp 0)) none [],.mk (some 42) (.bslice 1 [.int .i64 0] [(0,.const (.int .i64 1)),(1,.const (.int .i64 (-101)))] 2) none [],.mk (some 43) (.call 66 [.tmp 41,.tmp 42]) none [0,1],.mk (some 44) (.fld 1 (.tmp 3)) none [0,1,2],.mk none (.store 1 (.tmp 44) (.tmp 43)) none [3,2,2,0,1,2]]
def l37r15:List AOper :=
  [.mk (some 45) (.load true 5 (.tmp 3)) none [],.mk none (.store 5 (.tmp 2) (.tmp 45)) none [0,0]]
def l37:AFn :=
  (AFn.mk 46 1 (.seq (.reg l37r0) (.seq (.reg l37r1) (.seq (.seq (.reg l37r2) (.cond (.tmp 10) (.seq (.reg l37r3) (.reg l37r4)) .skip)) (.seq (.seq (.reg l37r5) (.cond (.tmp 20) (.seq (.reg l37r6) (.reg l37r7)) .skip)) (.seq (.seq (.reg l37r8) (.block 0 (.seq (.reg l37r9) (.cond (.tmp 30) (.reg l37r10) (.seq (.reg l37r11) (.cond (.tmp 36) (.reg l37r12) (.seq (.reg l37r13) (.cond (.tmp 39) (.reg l37r14) .skip)))))))) (.seq (.reg l37r15) .ret)))))) [.cell 2 true 5])
theorem l37_eq:lowFn Tryz.prog 37=some l37:=by kernel_rfl
def l38r0:List AOper :=
  [.mk (some 2) (.box (.tmp 0)) none [],.mk (some 4) (.mv (.const (.bool false))) none []]
def l38r1:List AOper :=
  [.mk (some 5) (.load true 3 (.tmp 2)) none [],.mk (some 6) (.call 57 [.tmp 5]) none [0],.mk (some 7) (.mv (.tmp 6)) none [1,1],.mk (some 8) (.mv (.tmp 1)) (some (7,true)) [2],.mk (some 9) (.fld 1 (.tmp 2)) (some (7,true)) [2],.mk (some 10) (.load false 1 (.tmp 9)) (some (7,true)) [4,2],.mk (some 11) (.len (.tmp 10)) (some (7,true)) [5,2],.mk (some 12) (.bin .sub (.tmp 11) (.const (.int .i64 1))) (some (7,true)) [6,2],.mk (some 13) (.call 54 [.tmp 8,.tmp 12]) (some (7,true)) [3,7,2,2],.mk (some 14) (.pick (.tmp 7) (.tmp 13) (.const (.bool false))) none [2,8],.mk (some 4) (.mv (.tmp 14)) none [9,8,0,1,2,3,4,5,6,7,8,9]]
def l38:AFn :=
  (AFn.mk 15 2 (.seq (.reg l38r0) (.seq (.reg l38r1) .ret)) [.tmp 4])
theorem l38_eq:lowFn Tryz.prog 38=some l38:=by kernel_rfl
def l39r0:List AOper :=
  [.mk (some 1) (.box (.tmp 0)) none [],.mk (some 2) (.mv (.const (.bool false))) none []]
def l39r1:List AOper :=
  [.mk (some 3) (.fld 0 (.tmp 1)) none [],.mk (some 4) (.load false 1 (.tmp 3)) none [0],.mk (some 5) (.fld 3 (.tmp 1)) none [],.mk (some 6) (.load false 1 (.tmp 5)) none [2],.mk (some 7) (.call 96 [.tmp 4,.tmp 6]) none [1,3],.mk (some 8) (.mv (.tmp 7)) none [4,4],.mk (some 9) (.fld 1 (.tmp 1)) (some (8,true)) [5],.mk (some 10) (.load false 1 (.tmp 9)) (some (8,true)) [6,5],.mk (some 11) (.fld 4 (.tmp 1)) (some (8,true)) [5],.mk (some 12) (.load false 1 (.tmp 11)) (some (8,true)) [8,5],.mk (some 13) (.call 96 [.tmp 10,.tmp 12]) (some (8,true)) [7,9,5,5],.mk (some 14) (.pick (.tmp 8) (.tmp 13) (.const (.bool false))) none [5,10],.mk (some 15) (.mv (.tmp 14)) none [11,10],.mk (some 16) (.fld 2 (.tmp 1)) (some (15,true)) [12],.mk (some 17) (.load false 1 (.tmp 16)) (some (15,true)) [13,12],.mk (some 18) (.call 97 [.tmp 17]) (some (15,true)) [14,12,12],.mk (some 19) (.pick (.tmp 15) (.tmp 18) (.const (.bool false))) none [12,15],.mk (some 2) (.mv (.tmp 19)) none [16,15,0,1,2,3,4,5,6,7,8,9,10,11,12,13,14,15,16]]
def l39:AFn :=
  (AFn.mk 20 1 (.seq (.reg l39r0) (.seq (.reg l39r1) .ret)) [.tmp 2])
theorem l39_eq:lowFn Tryz.prog 39=some l39:=by kernel_rfl
def l40r0:List AOper :=
  [.mk (some 2) (.box (.tmp 0)) none [],.mk (some 4) (.alloc [.int .i64 0,.int .i64 0,.int .i64 0]) none []]
def l40r1:List AOper :=
  [.mk (some 8) (.mv (.tmp 1)) none [],.mk (some 5) (.mv (.const (.int .i64 0))) none [],.mk (some 6) (.mv (.tmp 8)) none [0,1,0,1]]
def l40r2:List AOper :=
  [.mk (some 9) (.mv (.tmp 5)) none [],.mk (some 10) (.mv (.tmp 6)) none [],.mk (some 11) (.fld 2 (.tmp 2)) none [],.mk (some 12) (.load false 1 (.tmp 11)) none [2],.mk (some 13) (.build [.int .i64 0,.int .i64 0,.int .i64 0] [(0,1,.tmp 9),(1,1,.tmp 10),(2,1,.tmp 12)]) none [0,1,3],.mk (some 7) (.alloc [.int .i64 0,.int .i64 0,.int .i64 0]) none [],.mk none (.store 3 (.tmp 7) (.tmp 13)) none [5,4,0,1,2,3,4,5]]
def l40r3:List AOper :=
  [.mk (some 14) (.fld 2 (.tmp 2)) none [],.mk (some 15) (.load false 1 (.tmp 14)) none [0],.mk (some 16) (.bin .lss (.tmp 15) (.const (.int .i64 0))) none [1]]
def l40r4:List AOper :=
  [.mk (some 17) (.mv (.tmp 1)) none [],.mk (some 18) (.bin .sub (.tmp 17) (.const (.int .i64 1))) none [0],.mk (some 5) (.mv (.const (.int .i64 (-1)))) none [],.mk (some 6) (.mv (.tmp 18)) none [1,2,0,1,2]]
def l40r5:List AOper :=
  [.mk (some 19) (.mv (.tmp 6)) none [],.mk (some 20) (.mv (.tmp 5)) none [],.mk (some 21) (.fld 0 (.tmp 7)) none [0],.mk none (.store 1 (.tmp 21) (.tmp 19)) none [2,0,0],.mk (some 22) (.fld 1 (.tmp 7)) none [0,1,2,3],.mk none (.store 1 (.tmp 22) (.tmp 20)) none [4,1,3,0,1,2,3]]
def l40r6:List AOper :=
  [.mk (some 23) (.fld 3 (.tmp 2)) none [],.mk (some 24) (.load false 1 (.tmp 23)) none [0]]
def l40r7:List AOper :=
  [.mk (some 25) (.fld 0 (.tmp 2)) none [],.mk (some 26) (.load false 1 (.tmp 25)) none [0],.mk (some 27) (.mv (.tmp 1)) none [],.mk (some 28) (.mv (.tmp 5)) none [],.mk (some 29) (.mv (.tmp 6)) none [],.mk (some 30) (.call 98 [.tmp 26,.tmp 27,.tmp 28,.tmp 29]) none [1,2,3,4],.mk (some 31) (.fld 0 (.tmp 7)) none [0,1,2,3,4,5],.mk none (.store 1 (.tmp 31) (.tmp 30)) none [6,5,5,0,1,2,3,4,5]]
def l40r8:List AOper :=
  [.mk (some 32) (.fld 4 (.tmp 2)) none [],.mk (some 33) (.load false 1 (.tmp 32)) none [0]]
def l40r9:List AOper :=
  [.mk (some 34) (.fld 1 (.tmp 2)) none [],.mk (some 35) (.load false 1 (.tmp 34)) none [0],.mk (some 36) (.mv (.tmp 1)) none [],.mk (some 37) (.mv (.tmp 5)) none [],.mk (some 38) (.mv (.tmp 6)) none [],.mk (some 39) (.call 98 [.tmp 35,.tmp 36,.tmp 37,.tmp 38]) none [1,2,3,4],.mk (some 40) (.fld 1 (.tmp 7)) none [0,1,2,3,4,5],.mk none (.store 1 (.tmp 40) (.tmp 39)) none [6,5,5,0,1,2,3,4,5]]
def l40r10:List AOper :=
  [.mk (some 41) (.load true 3 (.tmp 7)) none [],.mk none (.store 3 (.tmp 4) (.tmp 41)) none [0,0]]
def l40:AFn :=
  (AFn.mk 42 2 (.seq (.reg l40r0) (.seq (.reg l40r1) (.seq (.reg l40r2) (.seq (.seq (.reg l40r3) (.cond (.tmp 16) (.seq (.reg l40r4) (.reg l40r5)) .skip)) (.seq (.seq (.reg l40r6) (.cond (.tmp 24) (.reg l40r7) .skip)) (.seq (.seq (.reg l40r8) (.cond (.tmp 33) (.reg l40r9) .skip)) (.seq (.reg l40r10) .ret))))))) [.cell 4 true 3])
theorem l40_eq:lowFn Tryz.prog 40=some l40:=by kernel_rfl
def l41r0:List AOper :=
  [.mk (some 1) (.box (.tmp 0)) none [],.mk (some 2) (.alloc [.int .i64 0,.slice none 0 0,.slice none 0 0,.int .i64 0,.int .i64 0,.int .i64 0,.int .i64 0,.slice none 0 0]) none []]
def l41r1:List AOper :=
  [.mk (some 6) (.load true 3 (.tmp 1)) none [],.mk (some 7) (.build [.int .i64 0,.slice none 0 0,.slice none 0 0,.int .i64 0,.int .i64 0,.int .i64 0,.int .i64 0,.slice none 0 0] [(0,3,.tmp 6)]) none [0],.mk (some 3) (.alloc [.int .i64 0,.slice none 0 0,.slice none 0 0,.int .i64 0,.int .i64 0,.int .i64 0,.int .i64 0,.slice none 0 0]) none [],.mk none (.store 8 (.tmp 3) (.tmp 7)) none [2,1,0,1,2]]
def l41r2:List AOper :=
  [.mk (some 8) (.fld 1 (.tmp 1)) none [],.mk (some 9) (.load false 1 (.tmp 8)) none [0],.mk (some 10) (.len (.tmp 9)) none [1],.mk (some 11) (.mv (.const (.int .i64 0))) none []]
def l41r3:List AOper :=
  [.mk (some 12) (.bin .lss (.tmp 11) (.tmp 10)) none []]
def l41r4:List AOper :=
  [.mk (some 13) (.mv (.tmp 11)) none [],.mk (some 14) (.idxA 1 (.tmp 9) (.tmp 11)) none [],.mk (some 15) (.load false 1 (.tmp 14)) none [1],.mk (some 4) (.mv (.tmp 13)) none [0,0,1,2],.mk (some 5) (.mv (.tmp 15)) none [2,3,0,1,2,3]]
def l41r5a:List AOper :=
  [.mk (some 16) (.fld 7 (.tmp 3)) none [],.mk (some 17) (.load false 1 (.tmp 16)) none [0],.mk (some 18) (.mv (.tmp 5)) none [],.mk (some 19) (.fld 2 (.tmp 1)) none [],.mk (some 20) (.load false 1 (.tmp 19)) none [3],.mk (some 21) (.mv (.tmp 4)) none [],.mk (some 22) (.idxA 1 (.tmp 20) (.tmp 21)) none [4,5],.mk (some 23) (.load false 1 (.tmp 22)) none [6],.mk (some 24) (.build [.int .i64 0,.int .i64 0] [(0,1,.tmp 18),(1,1,.tmp 23)]) none [2,7],.mk (some 25) (.bslice 2 [.int .i64 0,.int .i64 0] [(0,.tmp 24)] 1) none [8]]
def l41r5b:List AOper :=
  [.mk (some 26) (.append 2 (.tmp 17) (.tmp 25)) none [1,9],.mk (some 27) (.fld 7 (.tmp 3)) none [0,1,2,3,4,5,6,7,8,9,10],.mk none (.store 1 (.tmp 27) (.tmp 26)) none [11,10,10,0,1,2,3,4,5,6,7,8,9,10]]
def l41r5:List AOper:=l41r5a ++ l41r5b
def l41r6:List AOper :=
  [.mk (some 28) (.bin .add (.tmp 11) (.const (.int .i64 1))) none [],.mk (some 11) (.mv (.tmp 28)) none [0]]
def l41r7:List AOper :=
  [.mk (some 29) (.load true 8 (.tmp 3)) none [],.mk none (.store 8 (.tmp 2) (.tmp 29)) none [0,0]]
def l41:AFn :=
  (AFn.mk 30 1 (.seq (.reg l41r0) (.seq (.reg l41r1) (.seq (.seq (.reg l41r2) (.block 0 (.loop (.seq (.reg l41r3) (.seq (.cond (.tmp 12) .skip (.exit 0)) (.seq (.block 1 (.seq (.reg l41r4) (.draw l41r5))) (.reg l41r6))))))) (.seq (.reg l41r7) .ret)))) [.cell 2 true 8])
theorem l41_eq:lowFn Tryz.prog 41=some l41:=by kernel_rfl
def l42r0:List AOper :=
  [.mk (some 4) (.alloc [.int .i64 0,.int .i64 0]) none []]
def l42r1:List AOper :=
  [.mk (some 5) (.mv (.tmp 0)) none [],.mk (some 6) (.bin .lss (.tmp 5) (.const (.int .i64 2))) none [0]]
def l42r2:List AOper :=
  [.mk (some 7) (.mv (.tmp 0)) none [],.mk (some 8) (.build [.int .i64 0,.int .i64 0] [(0,1,.tmp 7)]) none [0],.mk none (.store 2 (.tmp 4) (.tmp 8)) none [1,0,1]]
def l42r3:List AOper :=
  [.mk (some 9) (.mv (.tmp 0)) none [],.mk (some 10) (.mv (.tmp 1)) none [],.mk (some 11) (.build [.int .i64 0,.int .i64 0] [(0,1,.tmp 9),(1,1,.tmp 10)]) none [0,1],.mk none (.store 2 (.tmp 4) (.tmp 11)) none [2,0,1,2]]
def l42:AFn :=
  (AFn.mk 12 2 (.seq (.reg l42r0) (.seq (.seq (.reg l42r1) (.cond (.tmp 6) (.seq (.reg l42r2) .ret) .skip)) (.seq (.reg l42r3) .ret))) [.cell 4 true 2])
theorem l42_eq:lowFn Tryz.prog 42=some l42:=by kernel_rfl
def l43r0:List AOper :=
  [.mk (some 1) (.box (.tmp 0)) none [],.mk (some 2) (.mv (.const (.int .i64 0))) none []]
def l43r1a:List AOper :=
  [.mk (some 5) (.fld 1 (.tmp 1)) none [],.mk (some 6) (.load false 1 (.tmp 5)) none [0],.mk (some 7) (.fld 0 (.tmp 1)) none [],.mk (some 8) (.load false 1 (.tmp 7)) none [2],.mk (some 9) (.bin .sub (.tmp 6) (.tmp 8)) none [1,3],.mk (some 10) (.fld 2 (.tmp 1)) none [],.mk (some 11) (.load false 1 (.tmp 10)) none [5],.mk (some 3) (.mv (.tmp 9)) none [4,0,1,2,3,4]]
def l43r1b:List AOper :=
  [.mk (some 4) (.mv (.tmp 11)) none [6,7,0,1,2,3,4,5,6,7]]
def l43r1:List AOper:=l43r1a ++ l43r1b
def l43r2:List AOper :=
  [.mk (some 12) (.mv (.tmp 4)) none [],.mk (some 13) (.bin .lss (.tmp 12) (.const (.int .i64 0))) none [0]]
def l43r3:List AOper :=
  [.mk (some 14) (.mv (.tmp 3)) none [],.mk (some 15) (.un .neg (.tmp 14)) none [0],.mk (some 16) (.mv (.tmp 4)) none [],.mk (some 17) (.un .neg (.tmp 16)) none [2],.mk (some 3) (.mv (.tmp 15)) none [1,0,1],.mk (some 4) (.mv (.tmp 17)) none [3,4,0,1,2,3,4]]
def l43r4:List AOper :=
  [.mk (some 18) (.mv (.tmp 3)) none [],.mk (some 19) (.bin .leq (.tmp 18) (.const (.int .i64 0))) none [0]]
def l43r5:List AOper :=
  [.mk (some 2) (.mv (.const (.int .i64 0))) none []]
def l43r6:List AOper :=
  [.mk (some 20) (.mv (.tmp 3)) none [],.mk (some 21) (.mv (.tmp 4)) none [],.mk (some 22) (.bin .add (.tmp 20) (.tmp 21)) none [0,1],.mk (some 23) (.bin .sub (.tmp 22) (.const (.int .i64 1))) none [2],.mk (some 24) (.mv (.tmp 4)) none [],.mk (some 25) (.bin .quo (.tmp 23) (.tmp 24)) none [3,4],.mk (some 2) (.mv (.tmp 25)) none [5,0,1,2,3,4,5]]
def l43:AFn :=
  (AFn.mk 26 1 (.seq (.reg l43r0) (.seq (.draw l43r1) (.seq (.seq (.reg l43r2) (.cond (.tmp 13) (.reg l43r3) .skip)) (.seq (.seq (.reg l43r4) (.cond (.tmp 19) (.seq (.reg l43r5) .ret) .skip)) (.seq (.reg l43r6) .ret))))) [.tmp 2])
theorem l43_eq:lowFn Tryz.prog 43=some l43:=by kernel_rfl
def l44r0:List AOper :=
  [.mk (some 1) (.box (.tmp 0)) none [],.mk (some 2) (.alloc [.int .i64 0,.slice none 0 0,.slice none 0 0]) none []]
def l44r1:List AOper :=
  [.mk (some 4) (.load true 8 (.tmp 1)) none [],.mk (some 5) (.call 99 [.tmp 4]) none [0],.mk (some 3) (.alloc [.int .i64 0,.slice none 0 0,.slice none 0 0]) none [],.mk none (.store 3 (.tmp 3) (.tmp 5)) none [2,1,1,0,1,2]]
def l44r2:List AOper :=
  [.mk (some 6) (.load true 3 (.tmp 3)) none [],.mk (some 7) (.call 100 [.tmp 6]) none [0],.mk (some 8) (.bin .eql (.tmp 7) (.const (.int .i64 0))) none [1]]
def l44r3a:List AOper :=
  [.mk (some 9) (.fld 1 (.tmp 3)) none [],.mk (some 10) (.load false 1 (.tmp 9)) none [0],.mk (some 11) (.len (.tmp 10)) none [1],.mk (some 12) (.mkslice 1 [.int .i64 0] (.tmp 11) (.tmp 11)) none [2,2],.mk (some 13) (.fld 0 (.tmp 3)) none [0,1],.mk none (.store 1 (.tmp 13) (.const (.int .i64 0))) none [4,0,1]]
def l44r3b:List AOper :=
  [.mk (some 14) (.fld 2 (.tmp 3)) none [0,1,2,3,4,5],.mk none (.store 1 (.tmp 14) (.tmp 12)) none [6,3,5,0,1,2,3,4,5]]
def l44r3:List AOper:=l44r3a ++ l44r3b
def l44r4:List AOper :=
  [.mk (some 15) (.load true 3 (.tmp 3)) none [],.mk none (.store 3 (.tmp 2) (.tmp 15)) none [0,0]]
def l44:AFn :=
  (AFn.mk 16 1 (.seq (.reg l44r0) (.seq (.reg l44r1) (.seq (.seq (.reg l44r2) (.cond (.tmp 8) (.draw l44r3) .skip)) (.seq (.reg l44r4) .ret)))) [.cell 2 true 3])
theorem l44_eq:lowFn Tryz.prog 44=some l44:=by kernel_rfl
def l45r0:List AOper :=
  [.mk (some 1) (.box (.tmp 0)) none [],.mk (some 2) (.mv (.const (.bool false))) none []]
def l45r1:List AOper :=
  [.mk (some 3) (.fld 1 (.tmp 1)) none [],.mk (some 4) (.load false 1 (.tmp 3)) none [0],.mk (some 5) (.call 72 [.tmp 4]) none [1],.mk (some 6) (.mv (.tmp 5)) none [2,2],.mk (some 7) (.fld 2 (.tmp 1)) (some (6,true)) [3],.mk (some 8) (.load false 1 (.tmp 7)) (some (6,true)) [4,3],.mk (some 9) (.len (.tmp 8)) (some (6,true)) [5,3],.mk (some 10) (.fld 1 (.tmp 1)) (some (6,true)) [3],.mk (some 11) (.load false 1 (.tmp 10)) (some (6,true)) [7,3],.mk (some 12) (.len (.tmp 11)) (some (6,true)) [8,3],.mk (some 13) (.bin .eql (.tmp 9) (.tmp 12)) (some (6,true)) [6,9,3],.mk (some 14) (.pick (.tmp 6) (.tmp 13) (.const (.bool false))) none [3,10],.mk (some 15) (.mv (.tmp 14)) none [11,3],.mk (some 16) (.fld 2 (.tmp 1)) (some (15,true)) [12],.mk (some 17) (.load false 1 (.tmp 16)) (some (15,true)) [13,12],.mk (some 18) (.call 101 [.tmp 17,.const (.int .i64 (-60)),.const (.int .i64 60)]) (some (15,true)) [14,12,12],.mk (some 19) (.pick (.tmp 15) (.tmp 18) (.const (.bool false))) none [12,15],.mk (some 20) (.mv (.tmp 19)) none [16,15],.mk (some 21) (.fld 0 (.tmp 1)) (some (20,true)) [17],.mk (some 22) (.load false 1 (.tmp 21)) (some (20,true)) [18,17],.mk (some 23) (.call 102 [.tmp 22,.const (.int .i64 0),.const (.int .i64 60)]) (some (20,true)) [19,17,17],.mk (some 24) (.pick (.tmp 20) (.tmp 23) (.const (.bool false))) none [17,20],.mk (some 25) (.mv (.tmp 24)) none [21,20],.mk (some 26) (.fld 1 (.tmp 1)) (some (25,true)) [22],.mk (some 27) (.load false 1 (.tmp 26)) (some (25,true)) [23,22],.mk (some 28) (.call 89 [.tmp 27]) (some (25,true)) [24,22,22],.mk (some 29) (.bin .eql (.tmp 28) (.const (.int .i64 0))) (some (25,true)) [25,22],.mk (some 30) (.mv (.tmp 29)) (some (25,true)) [26,25,22],.mk (some 31) (.load true 3 (.tmp 1)) (some (30,false)) [27],.mk (some 32) (.call 87 [.tmp 31]) (some (30,false)) [28,27,27],.mk (some 33) (.call 101 [.tmp 32,.const (.int .i64 0),.const (.int .i64 59)]) (some (30,false)) [29,29,27],.mk (some 34) (.pick (.tmp 30) (.const (.bool true)) (.tmp 33)) (some (25,true)) [27,30,22],.mk (some 35) (.pick (.tmp 25) (.tmp 34) (.const (.bool false))) none [22,31],.mk (some 2) (.mv (.tmp 35)) none [32,30,0,1,2,3,4,5,6,7,8,9,10,11,12,13,14,15,16,17,18,19,20,21,22,23,24,25,26,27,28,29,30,31,32]]
def l45:AFn :=
  (AFn.mk 36 1 (.seq (.reg l45r0) (.seq (.reg l45r1) .ret)) [.tmp 2])
theorem l45_eq:lowFn Tryz.prog 45=some l45:=by kernel_rfl
def l46r0:List AOper :=
  [.mk (some 2) (.box (.tmp 0)) none [],.mk (some 4) (.mv (.const (.bool false))) none []]
def l46r1:List AOper :=
  [.mk (some 5) (.mv (.tmp 1)) none [],.mk (some 6) (.fld 1 (.tmp 2)) none [],.mk (some 7) (.load false 1 (.tmp 6)) none [1],.mk (some 8) (.len (.tmp 7)) none [2],.mk (some 9) (.bin .sub (.tmp 8) (.const (.int .i64 1))) none [3],.mk (some 10) (.call 102 [.tmp 5,.const (.int .i64 0),.tmp 9]) none [0,4],.mk (some 4) (.mv (.tmp 10)) none [5,5,0,1,2,3,4,5]]
def l46:AFn :=
  (AFn.mk 11 2 (.seq (.reg l46r0) (.seq (.reg l46r1) .ret)) [.tmp 4])
theorem l46_eq:lowFn Tryz.prog 46=some l46:=by kernel_rfl
def l47r0:List AOper :=
  [.mk (some 1) (.box (.tmp 0)) none [],.mk (some 2) (.mv (.const (.bool false))) none []]
def l47r1:List AOper :=
  [.mk (some 3) (.fld 0 (.tmp 1)) none [],.mk (some 4) (.load false 1 (.tmp 3)) none [0],.mk (some 5) (.call 102 [.tmp 4,.const (.int .i64 (-100)),.const (.int .i64 100)]) none [1],.mk (some 6) (.mv (.tmp 5)) none [2,2],.mk (some 7) (.fld 1 (.tmp 1)) (some (6,true)) [3],.mk (some 8) (.load false 1 (.tmp 7)) (some (6,true)) [4,3],.mk (some 9) (.call 102 [.tmp 8,.const (.int .i64 (-100)),.const (.int .i64 100)]) (some (6,true)) [5,3,3],.mk (some 10) (.pick (.tmp 6) (.tmp 9) (.const (.bool false))) none [3,6],.mk (some 11) (.mv (.tmp 10)) none [7,6],.mk (some 12) (.fld 2 (.tmp 1)) (some (11,true)) [8],.mk (some 13) (.load false 1 (.tmp 12)) (some (11,true)) [9,8],.mk (some 14) (.call 102 [.tmp 13,.const (.int .i64 (-200)),.const (.int .i64 200)]) (some (11,true)) [10,8,8],.mk (some 15) (.pick (.tmp 11) (.tmp 14) (.const (.bool false))) none [8,11],.mk (some 16) (.mv (.tmp 15)) none [12,11],.mk (some 17) (.fld 2 (.tmp 1)) (some (16,true)) [13],.mk (some 18) (.load false 1 (.tmp 17)) (some (16,true)) [14,13],.mk (some 19) (.bin .neq (.tmp 18) (.const (.int .i64 0))) (some (16,true)) [15,13],.mk (some 20) (.pick (.tmp 16) (.tmp 19) (.const (.bool false))) none [13,16],.mk (some 21) (.mv (.tmp 20)) none [17,13],.mk (some 22) (.fld 3 (.tmp 1)) (some (21,true)) [18],.mk (some 23) (.load false 1 (.tmp 22)) (some (21,true)) [19,18],.mk (some 24) (.mv (.tmp 23)) (some (21,true)) [20,18,18],.mk (some 25) (.fld 0 (.tmp 1)) (some (24,false)) [21],.mk (some 26) (.load false 1 (.tmp 25)) (some (24,false)) [22,21],.mk (some 27) (.bin .eql (.tmp 26) (.const (.int .i64 0))) (some (24,false)) [23,21],.mk (some 28) (.pick (.tmp 24) (.const (.bool true)) (.tmp 27)) (some (21,true)) [21,24,18],.mk (some 29) (.pick (.tmp 21) (.tmp 28) (.const (.bool false))) none [18,25],.mk (some 30) (.mv (.tmp 29)) none [26,21],.mk (some 31) (.fld 4 (.tmp 1)) (some (30,true)) [27],.mk (some 32) (.load false 1 (.tmp 31)) (some (30,true)) [28,27],.mk (some 33) (.mv (.tmp 32)) (some (30,true)) [29,27,27],.mk (some 34) (.fld 1 (.tmp 1)) (some (33,false)) [30],.mk (some 35) (.load false 1 (.tmp 34)) (some (33,false)) [31,30],.mk (some 36) (.bin .eql (.tmp 35) (.const (.int .i64 0))) (some (33,false)) [32,30],.mk (some 37) (.pick (.tmp 33) (.const (.bool true)) (.tmp 36)) (some (30,true)) [30,33,27],.mk (some 38) (.pick (.tmp 30) (.tmp 37) (.const (.bool false))) none [27,34],.mk (some 2) (.mv (.tmp 38)) none [35,30,0,1,2,3,4,5,6,7,8,9,10,11,12,13,14,15,16,17,18,19,20,21,22,23,24,25,26,27,28,29,30,31,32,33,34,35]]
def l47:AFn :=
  (AFn.mk 39 1 (.seq (.reg l47r0) (.seq (.reg l47r1) .ret)) [.tmp 2])
theorem l47_eq:lowFn Tryz.prog 47=some l47:=by kernel_rfl
def l48r0:List AOper :=
  [.mk (some 1) (.box (.tmp 0)) none [],.mk (some 2) (.alloc [.int .i64 0,.slice none 0 0,.slice none 0 0]) none [],.mk (some 3) (.mv (.const (.bool false))) none []]
def l48r1:List AOper :=
  [.mk (some 4) (.load true 3 (.tmp 1)) none [],.mk (some 5) (.call 45 [.tmp 4]) none [0],.mk (some 6) (.un .not (.tmp 5)) none [1]]
def l48r2:List AOper :=
  [.mk (some 7) (.build [.int .i64 0,.slice none 0 0,.slice none 0 0] []) none [],.mk none (.store 3 (.tmp 2) (.tmp 7)) none [0,0],.mk (some 3) (.mv (.const (.bool false))) none [1,0,1]]
def l48r3:List AOper :=
  [.mk (some 8) (.load true 3 (.tmp 1)) none [],.mk (some 9) (.call 103 [.tmp 8]) none [0],.mk none (.store 3 (.tmp 2) (.tmp 9)) none [1,1,0,1],.mk (some 3) (.mv (.const (.bool true))) none [2,0,1,2]]
def l48:AFn :=
  (AFn.mk 10 1 (.seq (.reg l48r0) (.seq (.seq (.reg l48r1) (.cond (.tmp 6) (.seq (.reg l48r2) .ret) .skip)) (.seq (.reg l48r3) .ret))) [.cell 2 true 3,.tmp 3])
theorem l48_eq:lowFn Tryz.prog 48=some l48:=by kernel_rfl
def l49r0:List AOper :=
  [.mk (some 3) (.box (.tmp 0)) none [],.mk (some 5) (.box (.tmp 2)) none [],.mk (some 6) (.alloc [.int .i64 0,.slice none 0 0,.slice none 0 0]) none []]
def l49r1:List AOper :=
  [.mk (some 10) (.load true 3 (.tmp 3)) none [],.mk (some 11) (.call 103 [.tmp 10]) none [0],.mk (some 7) (.alloc [.int .i64 0,.slice none 0 0,.slice none 0 0]) none [],.mk none (.store 3 (.tmp 7) (.tmp 11)) none [2,1,1,0,1,2]]
def l49r2a:List AOper :=
  [.mk (some 12) (.fld 1 (.tmp 3)) none [],.mk (some 13) (.load false 1 (.tmp 12)) none [0],.mk (some 14) (.mv (.tmp 1)) none [],.mk (some 15) (.idxA 1 (.tmp 13) (.tmp 14)) none [1,2],.mk (some 16) (.load false 1 (.tmp 15)) none [3],.mk (some 17) (.load true 5 (.tmp 5)) none [],.mk (some 18) (.call 104 [.tmp 16,.tmp 17]) none [4,5],.mk (some 19) (.call 77 [.tmp 18]) none [6,6],.mk (some 8) (.alloc [.int .i64 0,.int .i64 0,.int .i64 0]) none []]
def l49r2b:List AOper :=
  [.mk none (.store 3 (.tmp 8) (.tmp 19)) none [8,7,7,0,1,2,3,4,5,6,7,8]]
def l49r2:List AOper:=l49r2a ++ l49r2b
def l49r3:List AOper :=
  [.mk (some 20) (.load true 3 (.tmp 8)) none [],.mk (some 21) (.call 105 [.tmp 20]) none [0],.mk (some 9) (.mv (.tmp 21)) none [1,1,0,1]]
def l49r4:List AOper :=
  [.mk (some 22) (.fld 1 (.tmp 7)) none [],.mk (some 23) (.load false 1 (.tmp 22)) none [0],.mk (some 24) (.mv (.tmp 1)) none [],.mk (some 25) (.mv (.tmp 9)) none [],.mk (some 26) (.len (.tmp 25)) none [3],.mk (some 27) (.idxA 1 (.tmp 23) (.tmp 24)) none [1,2,0,1,2,3,4],.mk none (.store 1 (.tmp 27) (.tmp 26)) none [5,4,0,1,2,3,4]]
def l49r5a:List AOper :=
  [.mk (some 28) (.fld 0 (.tmp 3)) none [],.mk (some 29) (.load false 1 (.tmp 28)) none [0],.mk (some 30) (.fld 0 (.tmp 8)) none [],.mk (some 31) (.load false 1 (.tmp 30)) none [2],.mk (some 32) (.fld 2 (.tmp 3)) none [],.mk (some 33) (.load false 1 (.tmp 32)) none [4],.mk (some 34) (.mv (.tmp 1)) none [],.mk (some 35) (.idxA 1 (.tmp 33) (.tmp 34)) none [5,6],.mk (some 36) (.load false 1 (.tmp 35)) none [7],.mk (some 37) (.bin .mul (.tmp 31) (.tmp 36)) none [3,8]]
def l49r5b:List AOper :=
  [.mk (some 38) (.bin .add (.tmp 29) (.tmp 37)) none [1,9],.mk (some 39) (.fld 0 (.tmp 7)) none [0,1,2,3,4,5,6,7,8,9,10],.mk none (.store 1 (.tmp 39) (.tmp 38)) none [11,10,0,1,2,3,4,5,6,7,8,9,10]]
def l49r5:List AOper:=l49r5a ++ l49r5b
def l49r6a:List AOper :=
  [.mk (some 40) (.fld 2 (.tmp 7)) none [],.mk (some 41) (.load false 1 (.tmp 40)) none [0],.mk (some 42) (.mv (.tmp 1)) none [],.mk (some 43) (.fld 2 (.tmp 8)) none [],.mk (some 44) (.load false 1 (.tmp 43)) none [3],.mk (some 45) (.fld 2 (.tmp 3)) none [],.mk (some 46) (.load false 1 (.tmp 45)) none [5],.mk (some 47) (.mv (.tmp 1)) none [],.mk (some 48) (.idxA 1 (.tmp 46) (.tmp 47)) none [6,7],.mk (some 49) (.load false 1 (.tmp 48)) none [8],.mk (some 50) (.bin .mul (.tmp 44) (.tmp 49)) none [4,9]]
def l49r6b:List AOper :=
  [.mk (some 51) (.idxA 1 (.tmp 41) (.tmp 42)) none [1,2,0,1,2,3,4,5,6,7,8,9,10],.mk none (.store 1 (.tmp 51) (.tmp 50)) none [11,10,0,1,2,3,4,5,6,7,8,9,10]]
def l49r6:List AOper:=l49r6a ++ l49r6b
def l49r7:List AOper :=
  [.mk (some 52) (.mv (.tmp 9)) none [],.mk (some 53) (.len (.tmp 52)) none [0],.mk (some 54) (.bin .leq (.tmp 53) (.const (.int .i64 1))) none [1]]
def l49r8:List AOper :=
  [.mk (some 55) (.fld 2 (.tmp 7)) none [],.mk (some 56) (.load false 1 (.tmp 55)) none [0],.mk (some 57) (.mv (.tmp 1)) none [],.mk (some 58) (.idxA 1 (.tmp 56) (.tmp 57)) none [1,2,0,1,2],.mk none (.store 1 (.tmp 58) (.const (.int .i64 0))) none [3,0,1,2]]
def l49r9:List AOper :=
  [.mk (some 59) (.load true 3 (.tmp 7)) none [],.mk (some 60) (.call 106 [.tmp 59]) none [0],.mk none (.store 3 (.tmp 6) (.tmp 60)) none [1,1,0,1]]
def l49:AFn :=
  (AFn.mk 61 3 (.seq (.reg l49r0) (.seq (.reg l49r1) (.seq (.draw l49r2) (.seq (.reg l49r3) (.seq (.reg l49r4) (.seq (.draw l49r5) (.seq (.draw l49r6) (.seq (.seq (.reg l49r7) (.cond (.tmp 54) (.reg l49r8) .skip)) (.seq (.reg l49r9) .ret))))))))) [.cell 6 true 3])
theorem l49_eq:lowFn Tryz.prog 49=some l49:=by kernel_rfl
def l50r0:List AOper :=
  [.mk (some 2) (.mv (.const (.bool false))) none []]
def l50r1:List AOper :=
  [.mk (some 3) (.mv (.tmp 0)) none [],.mk (some 4) (.bin .leq (.const (.int .i64 0)) (.tmp 3)) none [0],.mk (some 5) (.mv (.tmp 4)) none [1],.mk (some 6) (.mv (.tmp 0)) (some (5,true)) [2],.mk (some 7) (.bin .leq (.tmp 6) (.const (.int .i64 60))) (some (5,true)) [3,2],.mk (some 8) (.pick (.tmp 5) (.tmp 7) (.const (.bool false))) none [2,4],.mk (some 2) (.mv (.tmp 8)) none [5,2,0,1,2,3,4,5]]
def l50:AFn :=
  (AFn.mk 9 1 (.seq (.reg l50r0) (.seq (.reg l50r1) .ret)) [.tmp 2])
theorem l50_eq:lowFn Tryz.prog 50=some l50:=by kernel_rfl
def l51r0:List AOper :=
  [.mk (some 1) (.box (.tmp 0)) none [],.mk (some 2) (.mv (.const (.slice none 0 0))) none []]
def l51r1:List AOper :=
  [.mk (some 5) (.load true 3 (.tmp 1)) none [],.mk (some 6) (.call 43 [.tmp 5]) none [0],.mk (some 7) (.mkslice 1 [.int .i64 0] (.tmp 6) (.tmp 6)) none [1,1],.mk (some 3) (.mv (.tmp 7)) none [2,1,0,1,2]]
def l51r2:List AOper :=
  [.mk (some 8) (.mv (.tmp 3)) none [],.mk (some 9) (.len (.tmp 8)) none [0],.mk (some 10) (.mv (.const (.int .i64 0))) none []]
def l51r3:List AOper :=
  [.mk (some 11) (.bin .lss (.tmp 10) (.tmp 9)) none []]
def l51r4:List AOper :=
  [.mk (some 12) (.mv (.tmp 10)) none [],.mk (some 4) (.mv (.tmp 12)) none [0,0]]
def l51r5:List AOper :=
  [.mk (some 13) (.mv (.tmp 3)) none [],.mk (some 14) (.mv (.tmp 4)) none [],.mk (some 15) (.load true 3 (.tmp 1)) none [],.mk (some 16) (.mv (.tmp 4)) none [],.mk (some 17) (.call 107 [.tmp 15,.tmp 16]) none [2,3],.mk (some 18) (.idxA 1 (.tmp 13) (.tmp 14)) none [0,1,0,1,2,3,4],.mk none (.store 1 (.tmp 18) (.tmp 17)) none [5,4,4,0,1,2,3,4]]
def l51r6:List AOper :=
  [.mk (some 19) (.bin .add (.tmp 10) (.const (.int .i64 1))) none [],.mk (some 10) (.mv (.tmp 19)) none [0]]
def l51r7:List AOper :=
  [.mk (some 20) (.mv (.tmp 3)) none [],.mk (some 2) (.mv (.tmp 20)) none [0,0]]
def l51:AFn :=
  (AFn.mk 21 1 (.seq (.reg l51r0) (.seq (.reg l51r1) (.seq (.seq (.reg l51r2) (.block 0 (.loop (.seq (.reg l51r3) (.seq (.cond (.tmp 11) .skip (.exit 0)) (.seq (.block 1 (.seq (.reg l51r4) (.reg l51r5))) (.reg l51r6))))))) (.seq (.reg l51r7) .ret)))) [.tmp 2])
theorem l51_eq:lowFn Tryz.prog 51=some l51:=by kernel_rfl
def l52r0:List AOper :=
  [.mk (some 2) (.mv (.const (.bool false))) none []]
def l52r1:List AOper :=
  [.mk (some 5) (.mv (.tmp 0)) none [],.mk (some 6) (.len (.tmp 5)) none [0],.mk (some 7) (.bin .gtr (.tmp 6) (.const (.int .i64 4))) none [1]]
def l52r2:List AOper :=
  [.mk (some 2) (.mv (.const (.bool false))) none []]
def l52r3:List AOper :=
  [.mk (some 8) (.mv (.tmp 0)) none [],.mk (some 9) (.len (.tmp 8)) none [0],.mk (some 10) (.mv (.const (.int .i64 0))) none []]
def l52r4:List AOper :=
  [.mk (some 11) (.bin .lss (.tmp 10) (.tmp 9)) none []]
def l52r5:List AOper :=
  [.mk (some 12) (.idxA 1 (.tmp 8) (.tmp 10)) none [],.mk (some 13) (.load false 1 (.tmp 12)) none [0],.mk (some 4) (.mv (.tmp 13)) none [1,0,1]]
def l52r6:List AOper :=
  [.mk (some 14) (.mv (.tmp 4)) none [],.mk (some 15) (.call 54 [.tmp 14,.const (.int .i64 60)]) none [0],.mk (some 16) (.un .not (.tmp 15)) none [1]]
def l52r7:List AOper :=
  [.mk (some 2) (.mv (.const (.bool false))) none []]
def l52r8:List AOper :=
  [.mk (some 17) (.bin .add (.tmp 10) (.const (.int .i64 1))) none [],.mk (some 10) (.mv (.tmp 17)) none [0]]
def l52r9:List AOper :=
  [.mk (some 18) (.mv (.tmp 0)) none [],.mk (some 19) (.call 53 [.tmp 18]) none [0],.mk (some 20) (.bin .leq (.tmp 19) (.const (.int .i64 60))) none [1],.mk (some 2) (.mv (.tmp 20)) none [2,1,0,1,2]]
def l52:AFn :=
  (AFn.mk 21 1 (.seq (.reg l52r0) (.seq (.seq (.reg l52r1) (.cond (.tmp 7) (.seq (.reg l52r2) .ret) .skip)) (.seq (.seq (.reg l52r3) (.block 0 (.loop (.seq (.reg l52r4) (.seq (.cond (.tmp 11) .skip (.exit 0)) (.seq (.block 1 (.seq (.reg l52r5) (.seq (.reg l52r6) (.cond (.tmp 16) (.seq (.reg l52r7) .ret) .skip)))) (.reg l52r8))))))) (.seq (.reg l52r9) .ret)))) [.tmp 2])
theorem l52_eq:lowFn Tryz.prog 52=some l52:=by kernel_rfl
def l53r0:List AOper :=
  [.mk (some 2) (.mv (.const (.int .i64 0))) none []]
def l53r1:List AOper :=
  [.mk (some 3) (.mv (.const (.int .i64 1))) none []]
def l53r2:List AOper :=
  [.mk (some 6) (.mv (.tmp 0)) none [],.mk (some 7) (.len (.tmp 6)) none [0],.mk (some 8) (.mv (.const (.int .i64 0))) none []]
def l53r3:List AOper :=
  [.mk (some 9) (.bin .lss (.tmp 8) (.tmp 7)) none []]
def l53r4:List AOper :=
  [.mk (some 10) (.idxA 1 (.tmp 6) (.tmp 8)) none [],.mk (some 11) (.load false 1 (.tmp 10)) none [0],.mk (some 5) (.mv (.tmp 11)) none [1,0,1]]
def l53r5:List AOper :=
  [.mk (some 12) (.mv (.tmp 3)) none [],.mk (some 13) (.mv (.tmp 5)) none [],.mk (some 14) (.bin .mul (.tmp 12) (.tmp 13)) none [0,1],.mk (some 3) (.mv (.tmp 14)) none [2,0,1,2]]
def l53r6:List AOper :=
  [.mk (some 15) (.bin .add (.tmp 8) (.const (.int .i64 1))) none [],.mk (some 8) (.mv (.tmp 15)) none [0]]
def l53r7:List AOper :=
  [.mk (some 16) (.mv (.tmp 3)) none [],.mk (some 2) (.mv (.tmp 16)) none [0,0]]
def l53:AFn :=
  (AFn.mk 17 1 (.seq (.reg l53r0) (.seq (.reg l53r1) (.seq (.seq (.reg l53r2) (.block 0 (.loop (.seq (.reg l53r3) (.seq (.cond (.tmp 9) .skip (.exit 0)) (.seq (.block 1 (.seq (.reg l53r4) (.reg l53r5))) (.reg l53r6))))))) (.seq (.reg l53r7) .ret)))) [.tmp 2])
theorem l53_eq:lowFn Tryz.prog 53=some l53:=by kernel_rfl
def l54r0:List AOper :=
  [.mk (some 4) (.mv (.const (.bool false))) none []]
def l54r1:List AOper :=
  [.mk (some 5) (.mv (.tmp 0)) none [],.mk (some 6) (.bin .leq (.const (.int .i64 0)) (.tmp 5)) none [0],.mk (some 7) (.mv (.tmp 6)) none [1],.mk (some 8) (.mv (.tmp 0)) (some (7,true)) [2],.mk (some 9) (.mv (.tmp 1)) (some (7,true)) [2],.mk (some 10) (.bin .leq (.tmp 8) (.tmp 9)) (some (7,true)) [3,4,2],.mk (some 11) (.pick (.tmp 7) (.tmp 10) (.const (.bool false))) none [2,5],.mk (some 4) (.mv (.tmp 11)) none [6,2,0,1,2,3,4,5,6]]
def l54:AFn :=
  (AFn.mk 12 2 (.seq (.reg l54r0) (.seq (.reg l54r1) .ret)) [.tmp 4])
theorem l54_eq:lowFn Tryz.prog 54=some l54:=by kernel_rfl
def l55r0:List AOper :=
  [.mk (some 4) (.alloc [.int .i64 0,.int .i64 0,.int .i64 0,.int .i64 0]) none []]
def l55r1:List AOper :=
  [.mk (some 5) (.alloc [.int .i64 0,.int .i64 0,.int .i64 0,.int .i64 0]) none []]
def l55r2:List AOper :=
  [.mk (some 7) (.mv (.tmp 0)) none [],.mk (some 8) (.len (.tmp 7)) none [0],.mk (some 9) (.bin .sub (.tmp 8) (.const (.int .i64 1))) none [1],.mk (some 6) (.mv (.tmp 9)) none [2,0,1,2]]
def l55r3:List AOper :=
  [.mk (some 10) (.mv (.tmp 6)) none [],.mk (some 11) (.bin .geq (.tmp 10) (.const (.int .i64 0))) none [0]]
def l55r4:List AOper :=
  [.mk (some 14) (.mv (.tmp 6)) none [],.mk (some 15) (.mv (.tmp 1)) none [],.mk (some 16) (.mv (.tmp 0)) none [],.mk (some 17) (.mv (.tmp 6)) none [],.mk (some 18) (.idxA 1 (.tmp 16) (.tmp 17)) none [2,3],.mk (some 19) (.load false 1 (.tmp 18)) none [4],.mk (some 20) (.bin .rem (.tmp 15) (.tmp 19)) none [1,5],.mk (some 21) (.idxP 1 4 (.tmp 5) (.tmp 14)) none [0,0,1,2,3,4,5,6],.mk none (.store 1 (.tmp 21) (.tmp 20)) none [7,6,0,1,2,3,4,5,6]]
def l55r5:List AOper :=
  [.mk (some 22) (.mv (.tmp 1)) none [],.mk (some 23) (.mv (.tmp 0)) none [],.mk (some 24) (.mv (.tmp 6)) none [],.mk (some 25) (.idxA 1 (.tmp 23) (.tmp 24)) none [1,2],.mk (some 26) (.load false 1 (.tmp 25)) none [3],.mk (some 27) (.bin .quo (.tmp 22) (.tmp 26)) none [0,4],.mk (some 1) (.mv (.tmp 27)) none [5,0,1,2,3,4,5]]
def l55r6:List AOper :=
  [.mk (some 12) (.mv (.tmp 6)) none [],.mk (some 13) (.bin .sub (.tmp 12) (.const (.int .i64 1))) none [0],.mk (some 6) (.mv (.tmp 13)) none [1,0,1]]
def l55r7:List AOper :=
  [.mk (some 28) (.load true 4 (.tmp 5)) none [],.mk none (.store 4 (.tmp 4) (.tmp 28)) none [0,0]]
def l55:AFn :=
  (AFn.mk 29 2 (.seq (.reg l55r0) (.seq (.reg l55r1) (.seq (.seq (.reg l55r2) (.block 0 (.loop (.seq (.seq (.reg l55r3) (.cond (.tmp 11) .skip (.exit 0))) (.seq (.block 1 (.seq (.reg l55r4) (.reg l55r5))) (.reg l55r6)))))) (.seq (.reg l55r7) .ret)))) [.cell 4 true 4])
theorem l55_eq:lowFn Tryz.prog 55=some l55:=by kernel_rfl
def l56r0:List AOper :=
  [.mk (some 2) (.mv (.const (.slice none 0 0))) none []]
def l56r1:List AOper :=
  [.mk (some 3) (.mv (.tmp 0)) none [],.mk (some 4) (.isnil false (.tmp 3)) none [0]]
def l56r2:List AOper :=
  [.mk (some 2) (.mv (.const (.slice none 0 0))) none []]
def l56r3:List AOper :=
  [.mk (some 5) (.bslice 1 [.int .i64 0] [] 0) none [],.mk (some 6) (.mv (.tmp 0)) none [],.mk (some 7) (.append 1 (.tmp 5) (.tmp 6)) none [0,1],.mk (some 2) (.mv (.tmp 7)) none [2,2,0,1,2]]
def l56:AFn :=
  (AFn.mk 8 1 (.seq (.reg l56r0) (.seq (.seq (.reg l56r1) (.cond (.tmp 4) (.seq (.reg l56r2) .ret) .skip)) (.seq (.reg l56r3) .ret))) [.tmp 2])
theorem l56_eq:lowFn Tryz.prog 56=some l56:=by kernel_rfl
def l57r0:List AOper :=
  [.mk (some 1) (.box (.tmp 0)) none [],.mk (some 2) (.mv (.const (.bool false))) none []]
def l57r1:List AOper :=
  [.mk (some 5) (.fld 1 (.tmp 1)) none [],.mk (some 6) (.load false 1 (.tmp 5)) none [0],.mk (some 7) (.call 52 [.tmp 6]) none [1],.mk (some 8) (.un .not (.tmp 7)) none [2],.mk (some 9) (.mv (.tmp 8)) none [3,2],.mk (some 10) (.fld 2 (.tmp 1)) (some (9,false)) [4],.mk (some 11) (.load false 1 (.tmp 10)) (some (9,false)) [5,4],.mk (some 12) (.fld 1 (.tmp 1)) (some (9,false)) [4],.mk (some 13) (.load false 1 (.tmp 12)) (some (9,false)) [7,4],.mk (some 14) (.len (.tmp 13)) (some (9,false)) [8,4],.mk (some 15) (.call 108 [.tmp 11,.tmp 14]) (some (9,false)) [6,9,4,4],.mk (some 16) (.un .not (.tmp 15)) (some (9,false)) [10,4],.mk (some 17) (.pick (.tmp 9) (.const (.bool true)) (.tmp 16)) none [4,11],.mk (some 18) (.mv (.tmp 17)) none [12,10],.mk (some 19) (.fld 0 (.tmp 1)) (some (18,false)) [13],.mk (some 20) (.load false 1 (.tmp 19)) (some (18,false)) [14,13],.mk (some 21) (.call 54 [.tmp 20,.const (.int .i64 60)]) (some (18,false)) [15,13,13],.mk (some 22) (.un .not (.tmp 21)) (some (18,false)) [16,13],.mk (some 23) (.pick (.tmp 18) (.const (.bool true)) (.tmp 22)) none [13,17]]
def l57r2:List AOper :=
  [.mk (some 2) (.mv (.const (.bool false))) none []]
def l57r3:List AOper :=
  [.mk (some 25) (.load true 3 (.tmp 1)) none [],.mk (some 26) (.call 109 [.tmp 25]) none [0],.mk (some 24) (.mv (.tmp 26)) none [1],.mk (some 27) (.extract (.tmp 24) 0) none [2],.mk (some 28) (.extract (.tmp 24) 1) none [2],.mk (some 3) (.mv (.tmp 27)) none [3,1,0,1,2,3],.mk (some 4) (.mv (.tmp 28)) none [4,5,0,1,2,3,4,5]]
def l57r4:List AOper :=
  [.mk (some 29) (.load true 3 (.tmp 1)) none [],.mk (some 30) (.call 100 [.tmp 29]) none [0],.mk (some 31) (.bin .eql (.tmp 30) (.const (.int .i64 0))) none [1],.mk (some 32) (.mv (.tmp 31)) none [2,1],.mk (some 33) (.mv (.tmp 3)) (some (32,false)) [3],.mk (some 34) (.bin .geq (.tmp 33) (.const (.int .i64 0))) (some (32,false)) [4,3],.mk (some 35) (.mv (.tmp 34)) (some (32,false)) [5,3,3],.mk (some 36) (.mv (.tmp 4)) (some (35,true)) [6],.mk (some 37) (.bin .lss (.tmp 36) (.const (.int .i64 60))) (some (35,true)) [7,6],.mk (some 38) (.pick (.tmp 35) (.tmp 37) (.const (.bool false))) (some (32,false)) [6,8,3],.mk (some 39) (.pick (.tmp 32) (.const (.bool true)) (.tmp 38)) none [3,9],.mk (some 2) (.mv (.tmp 39)) none [10,6,0,1,2,3,4,5,6,7,8,9,10]]
def l57:AFn :=
  (AFn.mk 40 1 (.seq (.reg l57r0) (.seq (.seq (.reg l57r1) (.cond (.tmp 23) (.seq (.reg l57r2) .ret) .skip)) (.seq (.reg l57r3) (.seq (.reg l57r4) .ret)))) [.tmp 2])
theorem l57_eq:lowFn Tryz.prog 57=some l57:=by kernel_rfl
def l58r0:List AOper :=
  [.mk (some 4) (.alloc [.int .i64 0,.int .i64 0,.int .i64 0,.int .i64 0]) none [],.mk (some 5) (.mv (.const (.bool false))) none []]
def l58r1:List AOper :=
  [.mk (some 9) (.mv (.tmp 1)) none [],.mk (some 10) (.len (.tmp 9)) none [0],.mk (some 11) (.mv (.tmp 0)) none [],.mk (some 12) (.len (.tmp 11)) none [2],.mk (some 13) (.bin .neq (.tmp 10) (.tmp 12)) none [1,3]]
def l58r2:List AOper :=
  [.mk (some 14) (.build [.int .i64 0,.int .i64 0,.int .i64 0,.int .i64 0] []) none [],.mk none (.store 4 (.tmp 4) (.tmp 14)) none [0,0],.mk (some 5) (.mv (.const (.bool false))) none [1,0,1]]
def l58r3:List AOper :=
  [.mk (some 6) (.alloc [.int .i64 0,.int .i64 0,.int .i64 0,.int .i64 0]) none []]
def l58r4:List AOper :=
  [.mk (some 15) (.mv (.tmp 0)) none [],.mk (some 16) (.len (.tmp 15)) none [0],.mk (some 17) (.mv (.const (.int .i64 0))) none []]
def l58r5:List AOper :=
  [.mk (some 18) (.bin .lss (.tmp 17) (.tmp 16)) none []]
def l58r6:List AOper :=
  [.mk (some 19) (.mv (.tmp 17)) none [],.mk (some 20) (.idxA 1 (.tmp 15) (.tmp 17)) none [],.mk (some 21) (.load false 1 (.tmp 20)) none [1],.mk (some 7) (.mv (.tmp 19)) none [0,0,1,2],.mk (some 8) (.mv (.tmp 21)) none [2,3,0,1,2,3]]
def l58r7:List AOper :=
  [.mk (some 22) (.mv (.tmp 1)) none [],.mk (some 23) (.mv (.tmp 7)) none [],.mk (some 24) (.idxA 1 (.tmp 22) (.tmp 23)) none [0,1],.mk (some 25) (.load false 1 (.tmp 24)) none [2],.mk (some 26) (.mv (.tmp 8)) none [],.mk (some 27) (.bin .sub (.tmp 26) (.const (.int .i64 1))) none [4],.mk (some 28) (.call 54 [.tmp 25,.tmp 27]) none [3,5],.mk (some 29) (.un .not (.tmp 28)) none [6]]
def l58r8:List AOper :=
  [.mk (some 30) (.build [.int .i64 0,.int .i64 0,.int .i64 0,.int .i64 0] []) none [],.mk none (.store 4 (.tmp 4) (.tmp 30)) none [0,0],.mk (some 5) (.mv (.const (.bool false))) none [1,0,1]]
def l58r9:List AOper :=
  [.mk (some 31) (.mv (.tmp 7)) none [],.mk (some 32) (.mv (.tmp 1)) none [],.mk (some 33) (.mv (.tmp 7)) none [],.mk (some 34) (.idxA 1 (.tmp 32) (.tmp 33)) none [1,2],.mk (some 35) (.load false 1 (.tmp 34)) none [3],.mk (some 36) (.idxP 1 4 (.tmp 6) (.tmp 31)) none [0,0,1,2,3,4],.mk none (.store 1 (.tmp 36) (.tmp 35)) none [5,4,0,1,2,3,4]]
def l58r10:List AOper :=
  [.mk (some 37) (.bin .add (.tmp 17) (.const (.int .i64 1))) none [],.mk (some 17) (.mv (.tmp 37)) none [0]]
def l58r11:List AOper :=
  [.mk (some 38) (.load true 4 (.tmp 6)) none [],.mk none (.store 4 (.tmp 4) (.tmp 38)) none [0,0],.mk (some 5) (.mv (.const (.bool true))) none [1,0,1]]
def l58:AFn :=
  (AFn.mk 39 2 (.seq (.reg l58r0) (.seq (.seq (.reg l58r1) (.cond (.tmp 13) (.seq (.reg l58r2) .ret) .skip)) (.seq (.reg l58r3) (.seq (.seq (.reg l58r4) (.block 0 (.loop (.seq (.reg l58r5) (.seq (.cond (.tmp 18) .skip (.exit 0)) (.seq (.block 1 (.seq (.reg l58r6) (.seq (.seq (.reg l58r7) (.cond (.tmp 29) (.seq (.reg l58r8) .ret) .skip)) (.reg l58r9)))) (.reg l58r10))))))) (.seq (.reg l58r11) .ret))))) [.cell 4 true 4,.tmp 5])
theorem l58_eq:lowFn Tryz.prog 58=some l58:=by kernel_rfl
def l59r0:List AOper :=
  [.mk (some 2) (.box (.tmp 0)) none [],.mk (some 3) (.box (.tmp 1)) none [],.mk (some 4) (.mv (.const (.int .i64 0))) none []]
def l59r1a:List AOper :=
  [.mk (some 5) (.fld 0 (.tmp 2)) none [],.mk (some 6) (.load false 1 (.tmp 5)) none [0],.mk (some 7) (.load true 4 (.tmp 3)) none [],.mk (some 8) (.fld 2 (.tmp 2)) none [],.mk (some 9) (.load false 1 (.tmp 8)) none [3],.mk (some 10) (.call 110 [.tmp 7,.tmp 9]) none [2,4]]
def l59r1b:List AOper :=
  [.mk (some 11) (.bin .add (.tmp 6) (.tmp 10)) none [1,5],.mk (some 4) (.mv (.tmp 11)) none [6,5,0,1,2,3,4,5,6]]
def l59r1:List AOper:=l59r1a ++ l59r1b
def l59:AFn :=
  (AFn.mk 12 2 (.seq (.reg l59r0) (.seq (.draw l59r1) .ret)) [.tmp 4])
theorem l59_eq:lowFn Tryz.prog 59=some l59:=by kernel_rfl
def l60r0:List AOper :=
  [.mk (some 4) (.mv (.const (.bool false))) none []]
def l60r1:List AOper :=
  [.mk (some 6) (.mv (.tmp 0)) none [],.mk (some 7) (.len (.tmp 6)) none [0],.mk (some 8) (.mv (.tmp 1)) none [],.mk (some 9) (.len (.tmp 8)) none [2],.mk (some 10) (.bin .neq (.tmp 7) (.tmp 9)) none [1,3]]
def l60r2:List AOper :=
  [.mk (some 4) (.mv (.const (.bool false))) none []]
def l60r3:List AOper :=
  [.mk (some 11) (.mv (.tmp 0)) none [],.mk (some 12) (.len (.tmp 11)) none [0],.mk (some 13) (.mv (.const (.int .i64 0))) none []]
def l60r4:List AOper :=
  [.mk (some 14) (.bin .lss (.tmp 13) (.tmp 12)) none []]
def l60r5:List AOper :=
  [.mk (some 15) (.mv (.tmp 13)) none [],.mk (some 5) (.mv (.tmp 15)) none [0,0]]
def l60r6a:List AOper :=
  [.mk (some 16) (.mv (.tmp 0)) none [],.mk (some 17) (.mv (.tmp 5)) none [],.mk (some 18) (.idxA 1 (.tmp 16) (.tmp 17)) none [0,1],.mk (some 19) (.load false 1 (.tmp 18)) none [2],.mk (some 20) (.mv (.tmp 1)) none [],.mk (some 21) (.mv (.tmp 5)) none [],.mk (some 22) (.idxA 1 (.tmp 20) (.tmp 21)) none [4,5],.mk (some 23) (.load false 1 (.tmp 22)) none [6]]
def l60r6b:List AOper :=
  [.mk (some 24) (.bin .neq (.tmp 19) (.tmp 23)) none [3,7]]
def l60r6:List AOper:=l60r6a ++ l60r6b
def l60r7:List AOper :=
  [.mk (some 4) (.mv (.const (.bool false))) none []]
def l60r8:List AOper :=
  [.mk (some 25) (.bin .add (.tmp 13) (.const (.int .i64 1))) none [],.mk (some 13) (.mv (.tmp 25)) none [0]]
def l60r9:List AOper :=
  [.mk (some 4) (.mv (.const (.bool true))) none []]
def l60:AFn :=
  (AFn.mk 26 2 (.seq (.reg l60r0) (.seq (.seq (.reg l60r1) (.cond (.tmp 10) (.seq (.reg l60r2) .ret) .skip)) (.seq (.seq (.reg l60r3) (.block 0 (.loop (.seq (.reg l60r4) (.seq (.cond (.tmp 14) .skip (.exit 0)) (.seq (.block 1 (.seq (.reg l60r5) (.seq (.draw l60r6) (.cond (.tmp 24) (.seq (.reg l60r7) .ret) .skip)))) (.reg l60r8))))))) (.seq (.reg l60r9) .ret)))) [.tmp 4])
theorem l60_eq:lowFn Tryz.prog 60=some l60:=by kernel_rfl
def l61r0:List AOper :=
  [.mk (some 2) (.box (.tmp 0)) none [],.mk (some 3) (.box (.tmp 1)) none [],.mk (some 4) (.mv (.const (.slice none 0 0))) none []]
def l61r1:List AOper :=
  [.mk (some 6) (.raw (Op.makeMap 121 none)) none [],.mk (some 5) (.mv (.tmp 6)) none [0,0]]
def l61r2:List AOper :=
  [.mk (some 7) (.mv (.tmp 5)) none [],.mk (some 8) (.load true 3 (.tmp 2)) none [],.mk (some 9) (.call 62 [.tmp 8]) none [1],.mk (some 10) (.call 111 [.tmp 7,.tmp 9]) none [0,2,2]]
def l61r3:List AOper :=
  [.mk (some 11) (.mv (.tmp 5)) none [],.mk (some 12) (.load true 3 (.tmp 3)) none [],.mk (some 13) (.call 62 [.tmp 12]) none [1],.mk (some 14) (.call 111 [.tmp 11,.tmp 13]) none [0,2,2]]
def l61r4:List AOper :=
  [.mk (some 15) (.mv (.tmp 5)) none [],.mk (some 16) (.call 112 [.tmp 15,.const (.int .i64 2)]) none [0],.mk (some 4) (.mv (.tmp 16)) none [1,1,0,1]]
def l61:AFn :=
  (AFn.mk 17 2 (.seq (.reg l61r0) (.seq (.reg l61r1) (.seq (.reg l61r2) (.seq (.reg l61r3) (.seq (.reg l61r4) .ret))))) [.tmp 4])
theorem l61_eq:lowFn Tryz.prog 61=some l61:=by kernel_rfl
def l62r0:List AOper :=
  [.mk (some 1) (.box (.tmp 0)) none [],.mk (some 2) (.mv (.const (.slice none 0 0))) none []]
def l62r1:List AOper :=
  [.mk (some 3) (.load true 3 (.tmp 1)) none [],.mk (some 4) (.bslice 3 [.int .i64 0,.slice none 0 0,.slice none 0 0] [(0,.tmp 3)] 1) none [0],.mk (some 5) (.call 113 [.tmp 4]) none [1],.mk (some 6) (.call 112 [.tmp 5,.const (.int .i64 1)]) none [2,2],.mk (some 2) (.mv (.tmp 6)) none [3,3,0,1,2,3]]
def l62:AFn :=
  (AFn.mk 7 1 (.seq (.reg l62r0) (.seq (.reg l62r1) .ret)) [.tmp 2])
theorem l62_eq:lowFn Tryz.prog 62=some l62:=by kernel_rfl
def l63r0:List AOper :=
  [.mk (some 2) (.alloc [.int .i64 0,.slice none 0 0,.slice none 0 0]) none []]
def l63r1:List AOper :=
  [.mk (some 4) (.mv (.tmp 0)) none [],.mk (some 5) (.call 114 [.tmp 4]) none [0],.mk (some 3) (.alloc [.int .i64 0,.slice none 0 0,.slice none 0 0]) none [],.mk none (.store 3 (.tmp 3) (.tmp 5)) none [2,1,1,0,1,2]]
def l63r2:List AOper :=
  [.mk (some 6) (.mv (.tmp 0)) none [],.mk (some 7) (.call 65 [.tmp 6,.const (.int .i64 24)]) none [0]]
def l63r3:List AOper :=
  [.mk (some 9) (.bin .eql (.tmp 7) (.const (.int .i64 0))) none [],.mk (some 8) (.mv (.tmp 9)) none [0]]
def l63r4:List AOper :=
  [.mk (some 10) (.mv (.tmp 0)) none [],.mk (some 11) (.bslice 1 [.int .i64 0] [(0,.const (.int .i64 (-1))),(1,.const (.int .i64 60)),(2,.const (.int .i64 61))] 3) none [],.mk (some 12) (.call 66 [.tmp 10,.tmp 11]) none [0,1],.mk (some 13) (.fld 0 (.tmp 3)) none [0,1,2],.mk none (.store 1 (.tmp 13) (.tmp 12)) none [3,2,2,0,1,2]]
def l63r5:List AOper :=
  [.mk (some 15) (.bin .eql (.tmp 7) (.const (.int .i64 1))) none [],.mk (some 14) (.mv (.tmp 15)) none [0]]
def l63r6:List AOper :=
  [.mk (some 16) (.fld 2 (.tmp 3)) none [],.mk (some 17) (.load false 1 (.tmp 16)) none [0],.mk (some 18) (.bslice 1 [.int .i64 0] [(0,.const (.int .i64 1))] 1) none [],.mk (some 19) (.append 1 (.tmp 17) (.tmp 18)) none [1,2],.mk (some 20) (.fld 2 (.tmp 3)) none [0,1,2,3],.mk none (.store 1 (.tmp 20) (.tmp 19)) none [4,3,3,0,1,2,3]]
def l63r7:List AOper :=
  [.mk (some 22) (.bin .eql (.tmp 7) (.const (.int .i64 2))) none [],.mk (some 21) (.mv (.tmp 22)) none [0]]
def l63r8:List AOper :=
  [.mk (some 23) (.fld 2 (.tmp 3)) none [],.mk (some 24) (.load false 1 (.tmp 23)) none [0],.mk (some 25) (.len (.tmp 24)) none [1],.mk (some 26) (.bin .gtr (.tmp 25) (.const (.int .i64 0))) none [2]]
def l63r9a:List AOper :=
  [.mk (some 27) (.fld 2 (.tmp 3)) none [],.mk (some 28) (.load false 1 (.tmp 27)) none [0],.mk (some 29) (.mv (.tmp 0)) none [],.mk (some 30) (.bslice 1 [.int .i64 0] [(0,.const (.int .i64 61)),(1,.const (.int .i64 (-61))),(2,.const (.int .i64 60))] 3) none [],.mk (some 31) (.call 66 [.tmp 29,.tmp 30]) none [2,3]]
def l63r9b:List AOper :=
  [.mk (some 32) (.idxA 1 (.tmp 28) (.const (.int .i64 0))) none [1,0,1,2,3,4],.mk none (.store 1 (.tmp 32) (.tmp 31)) none [5,4,4,0,1,2,3,4]]
def l63r9:List AOper:=l63r9a ++ l63r9b
def l63r10:List AOper :=
  [.mk (some 33) (.load true 3 (.tmp 3)) none [],.mk none (.store 3 (.tmp 2) (.tmp 33)) none [0,0]]
def l63:AFn :=
  (AFn.mk 34 1 (.seq (.reg l63r0) (.seq (.reg l63r1) (.seq (.seq (.reg l63r2) (.block 0 (.seq (.reg l63r3) (.cond (.tmp 8) (.reg l63r4) (.seq (.reg l63r5) (.cond (.tmp 14) (.reg l63r6) (.seq (.reg l63r7) (.cond (.tmp 21) (.seq (.reg l63r8) (.cond (.tmp 26) (.draw l63r9) .skip)) .skip)))))))) (.seq (.reg l63r10) .ret)))) [.cell 2 true 3])
theorem l63_eq:lowFn Tryz.prog 63=some l63:=by kernel_rfl
def l64r0:List AOper :=
  [.mk (some 2) (.mv (.const (.slice none 0 0))) none []]
def l64r1:List AOper :=
  [.mk (some 3) (.bslice 1 [.int .i64 0] [] 0) none [],.mk (some 4) (.mv (.tmp 0)) none [],.mk (some 5) (.append 1 (.tmp 3) (.tmp 4)) none [0,1],.mk (some 2) (.mv (.tmp 5)) none [2,2,0,1,2]]
def l64:AFn :=
  (AFn.mk 6 1 (.seq (.reg l64r0) (.seq (.reg l64r1) .ret)) [.tmp 2])
theorem l64_eq:lowFn Tryz.prog 64=some l64:=by kernel_rfl
def l65r0:List AOper :=
  [.mk (some 4) (.mv (.const (.int .i64 0))) none []]
def l65r1:List AOper :=
  [.mk (some 7) (.mv (.tmp 0)) none [],.mk (some 8) (.mv (.tmp 0)) none [],.mk (some 9) (.nilck (.tmp 8)) none [1],.mk (some 10) (.fld 1 (.tmp 9)) none [2],.mk (some 11) (.load false 1 (.tmp 10)) none [3],.mk (some 12) (.bin .add (.tmp 11) (.const (.int .i64 1))) none [4],.mk (some 13) (.nilck (.tmp 7)) none [0,0,1,2,3,4,5],.mk (some 14) (.fld 1 (.tmp 13)) none [6,0,1,2,3,4,5],.mk none (.store 1 (.tmp 14) (.tmp 12)) none [7,5,0,1,2,3,4,5]]
def l65r2:List AOper :=
  [.mk (some 15) (.mv (.tmp 1)) none [],.mk (some 16) (.bin .lss (.tmp 15) (.const (.int .i64 1))) none [0],.mk (some 17) (.mv (.tmp 16)) none [1],.mk (some 18) (.mv (.tmp 0)) (some (17,false)) [2],.mk (some 19) (.nilck (.tmp 18)) (some (17,false)) [3,2],.mk (some 20) (.fld 0 (.tmp 19)) (some (17,false)) [4,2],.mk (some 21) (.load false 1 (.tmp 20)) (some (17,false)) [5,2],.mk (some 22) (.len (.tmp 21)) (some (17,false)) [6,2],.mk (some 23) (.bin .eql (.tmp 22) (.const (.int .i64 0))) (some (17,false)) [7,2],.mk (some 24) (.pick (.tmp 17) (.const (.bool true)) (.tmp 23)) none [2,8]]
def l65r3:List AOper :=
  [.mk (some 4) (.mv (.const (.int .i64 0))) none []]
def l65r4:List AOper :=
  [.mk (some 25) (.mv (.tmp 0)) none [],.mk (some 26) (.nilck (.tmp 25)) none [0],.mk (some 27) (.fld 1 (.tmp 26)) none [1],.mk (some 28) (.load false 1 (.tmp 27)) none [2],.mk (some 29) (.bin .sub (.tmp 28) (.const (.int .i64 1))) none [3],.mk (some 5) (.mv (.tmp 29)) none [4,0,1,2,3,4]]
def l65r5:List AOper :=
  [.mk (some 30) (.mv (.tmp 5)) none [],.mk (some 31) (.mv (.tmp 0)) none [],.mk (some 32) (.nilck (.tmp 31)) none [1],.mk (some 33) (.fld 0 (.tmp 32)) none [2],.mk (some 34) (.load false 1 (.tmp 33)) none [3],.mk (some 35) (.len (.tmp 34)) none [4],.mk (some 36) (.bin .lss (.tmp 30) (.tmp 35)) none [0,5]]
def l65r6:List AOper :=
  [.mk (some 37) (.mv (.tmp 0)) none [],.mk (some 38) (.nilck (.tmp 37)) none [0],.mk (some 39) (.fld 0 (.tmp 38)) none [1],.mk (some 40) (.load false 1 (.tmp 39)) none [2],.mk (some 41) (.mv (.tmp 5)) none [],.mk (some 42) (.idxA 1 (.tmp 40) (.tmp 41)) none [3,4],.mk (some 43) (.load false 1 (.tmp 42)) none [5],.mk (some 44) (.conv .i64 (.tmp 43)) none [6],.mk (some 45) (.mv (.tmp 1)) none [],.mk (some 46) (.bin .rem (.tmp 44) (.tmp 45)) none [7,8],.mk (some 4) (.mv (.tmp 46)) none [9,0,1,2,3,4,5,6,7,8,9]]
def l65r7a:List AOper :=
  [.mk (some 47) (.mv (.tmp 0)) none [],.mk (some 48) (.nilck (.tmp 47)) none [0],.mk (some 49) (.fld 0 (.tmp 48)) none [1],.mk (some 50) (.load false 1 (.tmp 49)) none [2],.mk (some 51) (.mv (.tmp 5)) none [],.mk (some 52) (.mv (.tmp 0)) none [],.mk (some 53) (.nilck (.tmp 52)) none [5],.mk (some 54) (.fld 0 (.tmp 53)) none [6],.mk (some 55) (.load false 1 (.tmp 54)) none [7],.mk (some 56) (.len (.tmp 55)) none [8],.mk (some 57) (.bin .rem (.tmp 51) (.tmp 56)) none [4,9],.mk (some 58) (.idxA 1 (.tmp 50) (.tmp 57)) none [3,10],.mk (some 59) (.load false 1 (.tmp 58)) none [11],.mk (some 60) (.conv .i64 (.tmp 59)) none [12],.mk (some 61) (.bin .mul (.tmp 60) (.const (.int .i64 131))) none [13],.mk (some 62) (.mv (.tmp 0)) none [],.mk (some 63) (.nilck (.tmp 62)) none [15],.mk (some 64) (.fld 0 (.tmp 63)) none [16],.mk (some 65) (.load false 1 (.tmp 64)) none [17],.mk (some 66) (.mv (.tmp 5)) none [],.mk (some 67) (.bin .mul (.tmp 66) (.const (.int .i64 7))) none [19],.mk (some 68) (.bin .add (.tmp 67) (.const (.int .i64 3))) none [20],.mk (some 69) (.mv (.tmp 0)) none [],.mk (some 70) (.nilck (.tmp 69)) none [22],.mk (some 71) (.fld 0 (.tmp 70)) none [23],.mk (some 72) (.load false 1 (.tmp 71)) none [24],.mk (some 73) (.len (.tmp 72)) none [25],.mk (some 74) (.bin .rem (.tmp 68) (.tmp 73)) none [21,26],.mk (some 75) (.idxA 1 (.tmp 65) (.tmp 74)) none [18,27],.mk (some 76) (.load false 1 (.tmp 75)) none [28],.mk (some 77) (.conv .i64 (.tmp 76)) none [29],.mk (some 78) (.bin .mul (.tmp 77) (.const (.int .i64 1117))) none [30],.mk (some 79) (.bin .add (.tmp 61) (.tmp 78)) none [14,31],.mk (some 80) (.mv (.tmp 5)) none [],.mk (some 81) (.bin .mul (.tmp 80) (.const (.int .i64 29))) none [33],.mk (some 82) (.bin .add (.tmp 79) (.tmp 81)) none [32,34],.mk (some 83) (.mv (.tmp 5)) none [],.mk (some 84) (.mv (.tmp 0)) none [],.mk (some 85) (.nilck (.tmp 84)) none [37],.mk (some 86) (.fld 0 (.tmp 85)) none [38],.mk (some 87) (.load false 1 (.tmp 86)) none [39],.mk (some 88) (.len (.tmp 87)) none [40],.mk (some 89) (.bin .quo (.tmp 83) (.tmp 88)) none [36,41],.mk (some 90) (.bin .mul (.tmp 89) (.const (.int .i64 53))) none [42]]
def l65r7b:List AOper :=
  [.mk (some 91) (.bin .add (.tmp 82) (.tmp 90)) none [35,43],.mk (some 6) (.mv (.tmp 91)) none [44,0,1,2,3,4,5,6,7,8,9,10,11,12,13,14,15,16,17,18,19,20,21,22,23,24,25,26,27,28,29,30,31,32,33,34,35,36,37,38,39,40,41,42,43,44]]
def l65r7:List AOper:=l65r7a ++ l65r7b
def l65r8:List AOper :=
  [.mk (some 92) (.mv (.tmp 6)) none [],.mk (some 93) (.mv (.tmp 6)) none [],.mk (some 94) (.bin .quo (.tmp 93) (.const (.int .i64 64))) none [1],.mk (some 95) (.bin .xor (.tmp 92) (.tmp 94)) none [0,2],.mk (some 6) (.mv (.tmp 95)) none [3,0,1,2,3]]
def l65r9:List AOper :=
  [.mk (some 96) (.mv (.tmp 6)) none [],.mk (some 97) (.mv (.tmp 1)) none [],.mk (some 98) (.bin .rem (.tmp 96) (.tmp 97)) none [0,1],.mk (some 4) (.mv (.tmp 98)) none [2,0,1,2]]
def l65:AFn :=
  (AFn.mk 99 2 (.seq (.reg l65r0) (.seq (.reg l65r1) (.seq (.seq (.reg l65r2) (.cond (.tmp 24) (.seq (.reg l65r3) .ret) .skip)) (.seq (.reg l65r4) (.seq (.seq (.reg l65r5) (.cond (.tmp 36) (.seq (.reg l65r6) .ret) .skip)) (.seq (.draw l65r7) (.seq (.reg l65r8) (.seq (.reg l65r9) .ret)))))))) [.tmp 4])
theorem l65_eq:lowFn Tryz.prog 65=some l65:=by kernel_rfl
def l66r0:List AOper :=
  [.mk (some 4) (.mv (.const (.int .i64 0))) none []]
def l66r1:List AOper :=
  [.mk (some 5) (.mv (.tmp 1)) none [],.mk (some 6) (.mv (.tmp 0)) none [],.mk (some 7) (.mv (.tmp 1)) none [],.mk (some 8) (.len (.tmp 7)) none [2],.mk (some 9) (.call 65 [.tmp 6,.tmp 8]) none [1,3],.mk (some 10) (.idxA 1 (.tmp 5) (.tmp 9)) none [0,4],.mk (some 11) (.load false 1 (.tmp 10)) none [5],.mk (some 4) (.mv (.tmp 11)) none [6,4,0,1,2,3,4,5,6]]
def l66:AFn :=
  (AFn.mk 12 2 (.seq (.reg l66r0) (.seq (.reg l66r1) .ret)) [.tmp 4])
theorem l66_eq:lowFn Tryz.prog 66=some l66:=by kernel_rfl
def l67r0:List AOper :=
  [.mk (some 6) (.mv (.const (.slice none 0 0))) none []]
def l67r1a:List AOper :=
  [.mk (some 7) (.bslice 1 [.int .i64 0] [] 0) none [],.mk (some 8) (.mv (.tmp 0)) none [],.mk (some 9) (.mv (.tmp 1)) none [],.mk (some 10) (.slice 1 (.tmp 8) none (some (.tmp 9))) none [1,2],.mk (some 11) (.append 1 (.tmp 7) (.tmp 10)) none [0,3],.mk (some 12) (.mv (.tmp 2)) none [],.mk (some 13) (.bslice 1 [.int .i64 0] [(0,.tmp 12)] 1) none [5],.mk (some 14) (.append 1 (.tmp 11) (.tmp 13)) none [4,6,4],.mk (some 15) (.mv (.tmp 0)) none [],.mk (some 16) (.mv (.tmp 1)) none [],.mk (some 17) (.slice 1 (.tmp 15) (some (.tmp 16)) none) none [8,9]]
def l67r1b:List AOper :=
  [.mk (some 18) (.append 1 (.tmp 14) (.tmp 17)) none [7,10,7],.mk (some 6) (.mv (.tmp 18)) none [11,11,0,1,2,3,4,5,6,7,8,9,10,11]]
def l67r1:List AOper:=l67r1a ++ l67r1b
def l67:AFn :=
  (AFn.mk 19 3 (.seq (.reg l67r0) (.seq (.draw l67r1) .ret)) [.tmp 6])
theorem l67_eq:lowFn Tryz.prog 67=some l67:=by kernel_rfl
def l72r0:List AOper :=
  [.mk (some 2) (.mv (.const (.bool false))) none []]
def l72r1:List AOper :=
  [.mk (some 3) (.mv (.tmp 0)) none [],.mk (some 4) (.len (.tmp 3)) none [0],.mk (some 5) (.bin .leq (.tmp 4) (.const (.int .i64 4))) none [1],.mk (some 6) (.mv (.tmp 5)) none [2],.mk (some 7) (.mv (.tmp 0)) (some (6,true)) [3],.mk (some 8) (.call 101 [.tmp 7,.const (.int .i64 0),.const (.int .i64 60)]) (some (6,true)) [4,3,3],.mk (some 9) (.pick (.tmp 6) (.tmp 8) (.const (.bool false))) none [3,5],.mk (some 10) (.mv (.tmp 9)) none [6,5],.mk (some 11) (.mv (.tmp 0)) (some (10,true)) [7],.mk (some 12) (.call 89 [.tmp 11]) (some (10,true)) [8,7,7],.mk (some 13) (.bin .leq (.tmp 12) (.const (.int .i64 60))) (some (10,true)) [9,7],.mk (some 14) (.pick (.tmp 10) (.tmp 13) (.const (.bool false))) none [7,10],.mk (some 2) (.mv (.tmp 14)) none [11,9,0,1,2,3,4,5,6,7,8,9,10,11]]
def l72:AFn :=
  (AFn.mk 15 1 (.seq (.reg l72r0) (.seq (.reg l72r1) .ret)) [.tmp 2])
theorem l72_eq:lowFn Tryz.prog 72=some l72:=by kernel_rfl
def l77r0:List AOper :=
  [.mk (some 2) (.alloc [.int .i64 0,.int .i64 0,.int .i64 0]) none []]
def l77r1:List AOper :=
  [.mk (some 5) (.mv (.tmp 0)) none [],.mk (some 6) (.len (.tmp 5)) none [0]]
def l77r2:List AOper :=
  [.mk (some 8) (.bin .eql (.tmp 6) (.const (.int .i64 0))) none [],.mk (some 7) (.mv (.tmp 8)) none [0]]
def l77r3:List AOper :=
  [.mk (some 9) (.build [.int .i64 0,.int .i64 0,.int .i64 0] [(0,1,.const (.int .i64 0)),(1,1,.const (.int .i64 0)),(2,1,.const (.int .i64 1))]) none [],.mk none (.store 3 (.tmp 2) (.tmp 9)) none [0,0]]
def l77r4:List AOper :=
  [.mk (some 11) (.bin .eql (.tmp 6) (.const (.int .i64 1))) none [],.mk (some 10) (.mv (.tmp 11)) none [0]]
def l77r5a:List AOper :=
  [.mk (some 12) (.mv (.tmp 0)) none [],.mk (some 13) (.idxA 1 (.tmp 12) (.const (.int .i64 0))) none [0],.mk (some 14) (.load false 1 (.tmp 13)) none [1],.mk (some 15) (.mv (.tmp 0)) none [],.mk (some 16) (.idxA 1 (.tmp 15) (.const (.int .i64 0))) none [3],.mk (some 17) (.load false 1 (.tmp 16)) none [4],.mk (some 18) (.bin .add (.tmp 17) (.const (.int .i64 1))) none [5]]
def l77r5b:List AOper :=
  [.mk (some 19) (.build [.int .i64 0,.int .i64 0,.int .i64 0] [(0,1,.tmp 14),(1,1,.tmp 18),(2,1,.const (.int .i64 1))]) none [2,6],.mk none (.store 3 (.tmp 2) (.tmp 19)) none [7,0,1,2,3,4,5,6,7]]
def l77r5:List AOper:=l77r5a ++ l77r5b
def l77r6a:List AOper :=
  [.mk (some 20) (.mv (.tmp 0)) none [],.mk (some 21) (.idxA 1 (.tmp 20) (.const (.int .i64 1))) none [0],.mk (some 22) (.load false 1 (.tmp 21)) none [1],.mk (some 23) (.mv (.tmp 0)) none [],.mk (some 24) (.idxA 1 (.tmp 23) (.const (.int .i64 0))) none [3],.mk (some 25) (.load false 1 (.tmp 24)) none [4]]
def l77r6b:List AOper :=
  [.mk (some 26) (.bin .sub (.tmp 22) (.tmp 25)) none [2,5],.mk (some 3) (.mv (.tmp 26)) none [6,0,1,2,3,4,5,6]]
def l77r6:List AOper:=l77r6a ++ l77r6b
def l77r7:List AOper :=
  [.mk (some 27) (.mv (.tmp 0)) none [],.mk (some 28) (.mv (.tmp 0)) none [],.mk (some 29) (.len (.tmp 28)) none [1],.mk (some 30) (.bin .sub (.tmp 29) (.const (.int .i64 1))) none [2],.mk (some 31) (.idxA 1 (.tmp 27) (.tmp 30)) none [0,3],.mk (some 32) (.load false 1 (.tmp 31)) none [4],.mk (some 33) (.bin .add (.tmp 32) (.const (.int .i64 1))) none [5],.mk (some 4) (.mv (.tmp 33)) none [6,0,1,2,3,4,5,6]]
def l77r8:List AOper :=
  [.mk (some 34) (.mv (.tmp 3)) none [],.mk (some 35) (.bin .lss (.tmp 34) (.const (.int .i64 0))) none [0]]
def l77r9:List AOper :=
  [.mk (some 36) (.mv (.tmp 0)) none [],.mk (some 37) (.mv (.tmp 0)) none [],.mk (some 38) (.len (.tmp 37)) none [1],.mk (some 39) (.bin .sub (.tmp 38) (.const (.int .i64 1))) none [2],.mk (some 40) (.idxA 1 (.tmp 36) (.tmp 39)) none [0,3],.mk (some 41) (.load false 1 (.tmp 40)) none [4],.mk (some 42) (.bin .sub (.tmp 41) (.const (.int .i64 1))) none [5],.mk (some 4) (.mv (.tmp 42)) none [6,0,1,2,3,4,5,6]]
def l77r10:List AOper :=
  [.mk (some 43) (.mv (.tmp 0)) none [],.mk (some 44) (.idxA 1 (.tmp 43) (.const (.int .i64 0))) none [0],.mk (some 45) (.load false 1 (.tmp 44)) none [1],.mk (some 46) (.mv (.tmp 4)) none [],.mk (some 47) (.mv (.tmp 3)) none [],.mk (some 48) (.build [.int .i64 0,.int .i64 0,.int .i64 0] [(0,1,.tmp 45),(1,1,.tmp 46),(2,1,.tmp 47)]) none [2,3,4],.mk none (.store 3 (.tmp 2) (.tmp 48)) none [5,0,1,2,3,4,5]]
def l77:AFn :=
  (AFn.mk 49 1 (.seq (.reg l77r0) (.seq (.seq (.reg l77r1) (.block 0 (.seq (.reg l77r2) (.cond (.tmp 7) (.seq (.reg l77r3) .ret) (.seq (.reg l77r4) (.cond (.tmp 10) (.seq (.draw l77r5) .ret) .skip)))))) (.seq (.draw l77r6) (.seq (.reg l77r7) (.seq (.seq (.reg l77r8) (.cond (.tmp 35) (.reg l77r9) .skip)) (.seq (.reg l77r10) .ret)))))) [.cell 2 true 3])
theorem l77_eq:lowFn Tryz.prog 77=some l77:=by kernel_rfl
def l84r0:List AOper :=
  [.mk (some 1) (.box (.tmp 0)) none [],.mk (some 2) (.mv (.const (.slice none 0 0))) none []]
def l84r1:List AOper :=
  [.mk (some 5) (.load true 3 (.tmp 1)) none [],.mk (some 6) (.call 100 [.tmp 5]) none [0],.mk (some 7) (.mkslice 1 [.int .i64 0] (.tmp 6) (.tmp 6)) none [1,1],.mk (some 3) (.mv (.tmp 7)) none [2,1,0,1,2]]
def l84r2:List AOper :=
  [.mk (some 8) (.mv (.tmp 3)) none [],.mk (some 9) (.len (.tmp 8)) none [0],.mk (some 10) (.mv (.const (.int .i64 0))) none []]
def l84r3:List AOper :=
  [.mk (some 11) (.bin .lss (.tmp 10) (.tmp 9)) none []]
def l84r4:List AOper :=
  [.mk (some 12) (.mv (.tmp 10)) none [],.mk (some 4) (.mv (.tmp 12)) none [0,0]]
def l84r5a:List AOper :=
  [.mk (some 13) (.mv (.tmp 3)) none [],.mk (some 14) (.mv (.tmp 4)) none [],.mk (some 15) (.load true 3 (.tmp 1)) none [],.mk (some 16) (.fld 1 (.tmp 1)) none [],.mk (some 17) (.load false 1 (.tmp 16)) none [3],.mk (some 18) (.mv (.tmp 4)) none [],.mk (some 19) (.call 55 [.tmp 17,.tmp 18]) none [4,5],.mk (some 20) (.call 59 [.tmp 15,.tmp 19]) none [2,6,6]]
def l84r5b:List AOper :=
  [.mk (some 21) (.idxA 1 (.tmp 13) (.tmp 14)) none [0,1,0,1,2,3,4,5,6,7],.mk none (.store 1 (.tmp 21) (.tmp 20)) none [8,7,7,0,1,2,3,4,5,6,7]]
def l84r5:List AOper:=l84r5a ++ l84r5b
def l84r6:List AOper :=
  [.mk (some 22) (.bin .add (.tmp 10) (.const (.int .i64 1))) none [],.mk (some 10) (.mv (.tmp 22)) none [0]]
def l84r7:List AOper :=
  [.mk (some 23) (.mv (.tmp 3)) none [],.mk (some 2) (.mv (.tmp 23)) none [0,0]]
def l84:AFn :=
  (AFn.mk 24 1 (.seq (.reg l84r0) (.seq (.reg l84r1) (.seq (.seq (.reg l84r2) (.block 0 (.loop (.seq (.reg l84r3) (.seq (.cond (.tmp 11) .skip (.exit 0)) (.seq (.block 1 (.seq (.reg l84r4) (.draw l84r5))) (.reg l84r6))))))) (.seq (.reg l84r7) .ret)))) [.tmp 2])
theorem l84_eq:lowFn Tryz.prog 84=some l84:=by kernel_rfl
def l87r0:List AOper :=
  [.mk (some 1) (.box (.tmp 0)) none [],.mk (some 2) (.mv (.const (.slice none 0 0))) none []]
def l87r1:List AOper :=
  [.mk (some 5) (.bslice 1 [.int .i64 0] [] 0) none [],.mk (some 3) (.mv (.tmp 5)) none [0,0]]
def l87r2:List AOper :=
  [.mk (some 4) (.mv (.const (.int .i64 0))) none []]
def l87r3:List AOper :=
  [.mk (some 6) (.mv (.tmp 4)) none [],.mk (some 7) (.fld 1 (.tmp 1)) none [],.mk (some 8) (.load false 1 (.tmp 7)) none [1],.mk (some 9) (.call 89 [.tmp 8]) none [2],.mk (some 10) (.bin .lss (.tmp 6) (.tmp 9)) none [0,3]]
def l87r4a:List AOper :=
  [.mk (some 13) (.mv (.tmp 3)) none [],.mk (some 14) (.load true 3 (.tmp 1)) none [],.mk (some 15) (.fld 1 (.tmp 1)) none [],.mk (some 16) (.load false 1 (.tmp 15)) none [2],.mk (some 17) (.mv (.tmp 4)) none [],.mk (some 18) (.call 130 [.tmp 16,.tmp 17]) none [3,4],.mk (some 19) (.call 129 [.tmp 14,.tmp 18]) none [1,5,5],.mk (some 20) (.bslice 1 [.int .i64 0] [(0,.tmp 19)] 1) none [6]]
def l87r4b:List AOper :=
  [.mk (some 21) (.append 1 (.tmp 13) (.tmp 20)) none [0,7,6],.mk (some 3) (.mv (.tmp 21)) none [8,8,0,1,2,3,4,5,6,7,8]]
def l87r4:List AOper:=l87r4a ++ l87r4b
def l87r5:List AOper :=
  [.mk (some 11) (.mv (.tmp 4)) none [],.mk (some 12) (.bin .add (.tmp 11) (.const (.int .i64 1))) none [0],.mk (some 4) (.mv (.tmp 12)) none [1,0,1]]
def l87r6:List AOper :=
  [.mk (some 22) (.mv (.tmp 3)) none [],.mk (some 2) (.mv (.tmp 22)) none [0,0]]
def l87:AFn :=
  (AFn.mk 23 1 (.seq (.reg l87r0) (.seq (.reg l87r1) (.seq (.seq (.reg l87r2) (.block 0 (.loop (.seq (.seq (.reg l87r3) (.cond (.tmp 10) .skip (.exit 0))) (.seq (.block 1 (.draw l87r4)) (.reg l87r5)))))) (.seq (.reg l87r6) .ret)))) [.tmp 2])
theorem l87_eq:lowFn Tryz.prog 87=some l87:=by kernel_rfl
def l88r0:List AOper :=
  [.mk (some 2) (.mv (.const (.slice none 0 0))) none []]
def l88r1:List AOper :=
  [.mk (some 5) (.bslice 1 [.int .i64 0] [] 0) none [],.mk (some 3) (.mv (.tmp 5)) none [0,0]]
def l88r2:List AOper :=
  [.mk (some 4) (.mv (.const (.int .i64 0))) none []]
def l88r3:List AOper :=
  [.mk (some 6) (.mv (.tmp 4)) none [],.mk (some 7) (.mv (.tmp 0)) none [],.mk (some 8) (.bin .lss (.tmp 6) (.tmp 7)) none [0,1]]
def l88r4:List AOper :=
  [.mk (some 11) (.mv (.tmp 3)) none [],.mk (some 12) (.mv (.tmp 4)) none [],.mk (some 13) (.bslice 1 [.int .i64 0] [(0,.tmp 12)] 1) none [1],.mk (some 14) (.append 1 (.tmp 11) (.tmp 13)) none [0,2],.mk (some 3) (.mv (.tmp 14)) none [3,3,0,1,2,3]]
def l88r5:List AOper :=
  [.mk (some 9) (.mv (.tmp 4)) none [],.mk (some 10) (.bin .add (.tmp 9) (.const (.int .i64 1))) none [0],.mk (some 4) (.mv (.tmp 10)) none [1,0,1]]
def l88r6:List AOper :=
  [.mk (some 15) (.mv (.tmp 3)) none [],.mk (some 2) (.mv (.tmp 15)) none [0,0]]
def l88:AFn :=
  (AFn.mk 16 1 (.seq (.reg l88r0) (.seq (.reg l88r1) (.seq (.seq (.reg l88r2) (.block 0 (.loop (.seq (.seq (.reg l88r3) (.cond (.tmp 8) .skip (.exit 0))) (.seq (.block 1 (.reg l88r4)) (.reg l88r5)))))) (.seq (.reg l88r6) .ret)))) [.tmp 2])
theorem l88_eq:lowFn Tryz.prog 88=some l88:=by kernel_rfl
def l89r0:List AOper :=
  [.mk (some 2) (.mv (.const (.int .i64 0))) none []]
def l89r1:List AOper :=
  [.mk (some 3) (.mv (.const (.int .i64 1))) none []]
def l89r2:List AOper :=
  [.mk (some 4) (.mv (.const (.int .i64 0))) none []]
def l89r3:List AOper :=
  [.mk (some 5) (.mv (.tmp 4)) none [],.mk (some 6) (.mv (.tmp 0)) none [],.mk (some 7) (.len (.tmp 6)) none [1],.mk (some 8) (.bin .lss (.tmp 5) (.tmp 7)) none [0,2]]
def l89r4:List AOper :=
  [.mk (some 11) (.mv (.tmp 3)) none [],.mk (some 12) (.mv (.tmp 0)) none [],.mk (some 13) (.mv (.tmp 4)) none [],.mk (some 14) (.idxA 1 (.tmp 12) (.tmp 13)) none [1,2],.mk (some 15) (.load false 1 (.tmp 14)) none [3],.mk (some 16) (.bin .mul (.tmp 11) (.tmp 15)) none [0,4],.mk (some 3) (.mv (.tmp 16)) none [5,0,1,2,3,4,5]]
def l89r5:List AOper :=
  [.mk (some 9) (.mv (.tmp 4)) none [],.mk (some 10) (.bin .add (.tmp 9) (.const (.int .i64 1))) none [0],.mk (some 4) (.mv (.tmp 10)) none [1,0,1]]
def l89r6:List AOper :=
  [.mk (some 17) (.mv (.tmp 3)) none [],.mk (some 2) (.mv (.tmp 17)) none [0,0]]
def l89:AFn :=
  (AFn.mk 18 1 (.seq (.reg l89r0) (.seq (.reg l89r1) (.seq (.seq (.reg l89r2) (.block 0 (.loop (.seq (.seq (.reg l89r3) (.cond (.tmp 8) .skip (.exit 0))) (.seq (.block 1 (.reg l89r4)) (.reg l89r5)))))) (.seq (.reg l89r6) .ret)))) [.tmp 2])
theorem l89_eq:lowFn Tryz.prog 89=some l89:=by kernel_rfl
def l96r0:List AOper :=
  [.mk (some 4) (.mv (.const (.bool false))) none []]
def l96r1:List AOper :=
  [.mk (some 5) (.mv (.tmp 0)) none [],.mk (some 6) (.call 121 [.tmp 5,.const (.int .i64 100)]) none [0],.mk (some 7) (.mv (.tmp 6)) none [1,1],.mk (some 8) (.mv (.tmp 1)) (some (7,true)) [2],.mk (some 9) (.mv (.tmp 8)) (some (7,true)) [3,2,2],.mk (some 10) (.mv (.tmp 0)) (some (9,false)) [4],.mk (some 11) (.bin .eql (.tmp 10) (.const (.int .i64 0))) (some (9,false)) [5,4],.mk (some 12) (.pick (.tmp 9) (.const (.bool true)) (.tmp 11)) (some (7,true)) [4,6,2],.mk (some 13) (.pick (.tmp 7) (.tmp 12) (.const (.bool false))) none [2,7],.mk (some 4) (.mv (.tmp 13)) none [8,4,0,1,2,3,4,5,6,7,8]]
def l96:AFn :=
  (AFn.mk 14 2 (.seq (.reg l96r0) (.seq (.reg l96r1) .ret)) [.tmp 4])
theorem l96_eq:lowFn Tryz.prog 96=some l96:=by kernel_rfl
def l97r0:List AOper :=
  [.mk (some 2) (.mv (.const (.bool false))) none []]
def l97r1:List AOper :=
  [.mk (some 3) (.mv (.tmp 0)) none [],.mk (some 4) (.call 121 [.tmp 3,.const (.int .i64 200)]) none [0],.mk (some 5) (.mv (.tmp 4)) none [1,1],.mk (some 6) (.mv (.tmp 0)) (some (5,true)) [2],.mk (some 7) (.bin .neq (.tmp 6) (.const (.int .i64 0))) (some (5,true)) [3,2],.mk (some 8) (.pick (.tmp 5) (.tmp 7) (.const (.bool false))) none [2,4],.mk (some 2) (.mv (.tmp 8)) none [5,2,0,1,2,3,4,5]]
def l97:AFn :=
  (AFn.mk 9 1 (.seq (.reg l97r0) (.seq (.reg l97r1) .ret)) [.tmp 2])
theorem l97_eq:lowFn Tryz.prog 97=some l97:=by kernel_rfl
def l98r0:List AOper :=
  [.mk (some 8) (.mv (.const (.int .i64 0))) none []]
def l98r1:List AOper :=
  [.mk (some 9) (.mv (.tmp 0)) none [],.mk (some 10) (.bin .lss (.tmp 9) (.const (.int .i64 0))) none [0]]
def l98r2:List AOper :=
  [.mk (some 11) (.mv (.tmp 0)) none [],.mk (some 12) (.mv (.tmp 1)) none [],.mk (some 13) (.bin .add (.tmp 11) (.tmp 12)) none [0,1],.mk (some 0) (.mv (.tmp 13)) none [2,0,1,2]]
def l98r3:List AOper :=
  [.mk (some 14) (.mv (.tmp 0)) none [],.mk (some 15) (.mv (.tmp 2)) none [],.mk (some 16) (.minmax true (.tmp 14) (.tmp 15)) none [0,1],.mk (some 17) (.mv (.tmp 3)) none [],.mk (some 18) (.minmax false (.tmp 16) (.tmp 17)) none [2,3],.mk (some 8) (.mv (.tmp 18)) none [4,0,1,2,3,4]]
def l98:AFn :=
  (AFn.mk 19 4 (.seq (.reg l98r0) (.seq (.seq (.reg l98r1) (.cond (.tmp 10) (.reg l98r2) .skip)) (.seq (.reg l98r3) .ret))) [.tmp 8])
theorem l98_eq:lowFn Tryz.prog 98=some l98:=by kernel_rfl
def l99r0:List AOper :=
  [.mk (some 1) (.box (.tmp 0)) none [],.mk (some 2) (.alloc [.int .i64 0,.slice none 0 0,.slice none 0 0]) none []]
def l99r1:List AOper :=
  [.mk (some 6) (.fld 0 (.tmp 1)) none [],.mk (some 7) (.load true 3 (.tmp 6)) none [0],.mk (some 8) (.fld 3 (.tmp 1)) none [],.mk (some 9) (.load true 4 (.tmp 8)) none [2],.mk (some 10) (.call 59 [.tmp 7,.tmp 9]) none [1,3],.mk (some 11) (.build [.int .i64 0,.slice none 0 0,.slice none 0 0] [(0,1,.tmp 10)]) none [4],.mk (some 3) (.alloc [.int .i64 0,.slice none 0 0,.slice none 0 0]) none [],.mk none (.store 3 (.tmp 3) (.tmp 11)) none [6,5,4,0,1,2,3,4,5,6]]
def l99r2:List AOper :=
  [.mk (some 12) (.fld 7 (.tmp 1)) none [],.mk (some 13) (.load false 1 (.tmp 12)) none [0],.mk (some 14) (.len (.tmp 13)) none [1],.mk (some 15) (.mv (.const (.int .i64 0))) none []]
def l99r3:List AOper :=
  [.mk (some 16) (.bin .lss (.tmp 15) (.tmp 14)) none []]
def l99r4:List AOper :=
  [.mk (some 17) (.idxA 2 (.tmp 13) (.tmp 15)) none [],.mk (some 18) (.load true 2 (.tmp 17)) none [0],.mk (some 5) (.alloc [.int .i64 0,.int .i64 0]) none [],.mk none (.store 2 (.tmp 5) (.tmp 18)) none [2,1,0,1,2]]
def l99r5:List AOper :=
  [.mk (some 19) (.fld 1 (.tmp 3)) none [],.mk (some 20) (.load false 1 (.tmp 19)) none [0],.mk (some 21) (.fld 0 (.tmp 5)) none [],.mk (some 22) (.load false 1 (.tmp 21)) none [2],.mk (some 23) (.bslice 1 [.int .i64 0] [(0,.tmp 22)] 1) none [3],.mk (some 24) (.append 1 (.tmp 20) (.tmp 23)) none [1,4],.mk (some 25) (.fld 1 (.tmp 3)) none [0,1,2,3,4,5],.mk none (.store 1 (.tmp 25) (.tmp 24)) none [6,5,5,0,1,2,3,4,5]]
def l99r6:List AOper :=
  [.mk (some 26) (.fld 2 (.tmp 3)) none [],.mk (some 27) (.load false 1 (.tmp 26)) none [0],.mk (some 28) (.fld 1 (.tmp 5)) none [],.mk (some 29) (.load false 1 (.tmp 28)) none [2],.mk (some 30) (.bslice 1 [.int .i64 0] [(0,.tmp 29)] 1) none [3],.mk (some 31) (.append 1 (.tmp 27) (.tmp 30)) none [1,4],.mk (some 32) (.fld 2 (.tmp 3)) none [0,1,2,3,4,5],.mk none (.store 1 (.tmp 32) (.tmp 31)) none [6,5,5,0,1,2,3,4,5]]
def l99r7:List AOper :=
  [.mk (some 33) (.bin .add (.tmp 15) (.const (.int .i64 1))) none [],.mk (some 15) (.mv (.tmp 33)) none [0]]
def l99r8:List AOper :=
  [.mk (some 34) (.load true 3 (.tmp 3)) none [],.mk none (.store 3 (.tmp 2) (.tmp 34)) none [0,0]]
def l99:AFn :=
  (AFn.mk 35 1 (.seq (.reg l99r0) (.seq (.reg l99r1) (.seq (.seq (.reg l99r2) (.block 0 (.loop (.seq (.reg l99r3) (.seq (.cond (.tmp 16) .skip (.exit 0)) (.seq (.block 1 (.seq (.reg l99r4) (.seq (.reg l99r5) (.reg l99r6)))) (.reg l99r7))))))) (.seq (.reg l99r8) .ret)))) [.cell 2 true 3])
theorem l99_eq:lowFn Tryz.prog 99=some l99:=by kernel_rfl
def l100r0:List AOper :=
  [.mk (some 1) (.box (.tmp 0)) none [],.mk (some 2) (.mv (.const (.int .i64 0))) none []]
def l100r1:List AOper :=
  [.mk (some 3) (.fld 1 (.tmp 1)) none [],.mk (some 4) (.load false 1 (.tmp 3)) none [0],.mk (some 5) (.call 53 [.tmp 4]) none [1],.mk (some 2) (.mv (.tmp 5)) none [2,2,0,1,2]]
def l100:AFn :=
  (AFn.mk 6 1 (.seq (.reg l100r0) (.seq (.reg l100r1) .ret)) [.tmp 2])
theorem l100_eq:lowFn Tryz.prog 100=some l100:=by kernel_rfl
def l101r0:List AOper :=
  [.mk (some 6) (.mv (.const (.bool false))) none []]
def l101r1:List AOper :=
  [.mk (some 7) (.mv (.const (.int .i64 0))) none []]
def l101r2:List AOper :=
  [.mk (some 8) (.mv (.tmp 7)) none [],.mk (some 9) (.mv (.tmp 0)) none [],.mk (some 10) (.len (.tmp 9)) none [1],.mk (some 11) (.bin .lss (.tmp 8) (.tmp 10)) none [0,2]]
def l101r3:List AOper :=
  [.mk (some 14) (.mv (.tmp 0)) none [],.mk (some 15) (.mv (.tmp 7)) none [],.mk (some 16) (.idxA 1 (.tmp 14) (.tmp 15)) none [0,1],.mk (some 17) (.load false 1 (.tmp 16)) none [2],.mk (some 18) (.mv (.tmp 1)) none [],.mk (some 19) (.mv (.tmp 2)) none [],.mk (some 20) (.call 102 [.tmp 17,.tmp 18,.tmp 19]) none [3,4,5],.mk (some 21) (.un .not (.tmp 20)) none [6]]
def l101r4:List AOper :=
  [.mk (some 6) (.mv (.const (.bool false))) none []]
def l101r5:List AOper :=
  [.mk (some 12) (.mv (.tmp 7)) none [],.mk (some 13) (.bin .add (.tmp 12) (.const (.int .i64 1))) none [0],.mk (some 7) (.mv (.tmp 13)) none [1,0,1]]
def l101r6:List AOper :=
  [.mk (some 6) (.mv (.const (.bool true))) none []]
def l101:AFn :=
  (AFn.mk 22 3 (.seq (.reg l101r0) (.seq (.seq (.reg l101r1) (.block 0 (.loop (.seq (.seq (.reg l101r2) (.cond (.tmp 11) .skip (.exit 0))) (.seq (.block 1 (.seq (.reg l101r3) (.cond (.tmp 21) (.seq (.reg l101r4) .ret) .skip))) (.reg l101r5)))))) (.seq (.reg l101r6) .ret))) [.tmp 6])
theorem l101_eq:lowFn Tryz.prog 101=some l101:=by kernel_rfl
def l102r0:List AOper :=
  [.mk (some 6) (.mv (.const (.bool false))) none []]
def l102r1:List AOper :=
  [.mk (some 7) (.mv (.tmp 1)) none [],.mk (some 8) (.mv (.tmp 0)) none [],.mk (some 9) (.bin .leq (.tmp 7) (.tmp 8)) none [0,1],.mk (some 10) (.mv (.tmp 9)) none [2],.mk (some 11) (.mv (.tmp 0)) (some (10,true)) [3],.mk (some 12) (.mv (.tmp 2)) (some (10,true)) [3],.mk (some 13) (.bin .leq (.tmp 11) (.tmp 12)) (some (10,true)) [4,5,3],.mk (some 14) (.pick (.tmp 10) (.tmp 13) (.const (.bool false))) none [3,6],.mk (some 6) (.mv (.tmp 14)) none [7,3,0,1,2,3,4,5,6,7]]
def l102:AFn :=
  (AFn.mk 15 3 (.seq (.reg l102r0) (.seq (.reg l102r1) .ret)) [.tmp 6])
theorem l102_eq:lowFn Tryz.prog 102=some l102:=by kernel_rfl
def l103r0:List AOper :=
  [.mk (some 1) (.box (.tmp 0)) none [],.mk (some 2) (.alloc [.int .i64 0,.slice none 0 0,.slice none 0 0]) none []]
def l103r1a:List AOper :=
  [.mk (some 3) (.fld 0 (.tmp 1)) none [],.mk (some 4) (.load false 1 (.tmp 3)) none [0],.mk (some 5) (.fld 1 (.tmp 1)) none [],.mk (some 6) (.load false 1 (.tmp 5)) none [2],.mk (some 7) (.call 64 [.tmp 6]) none [3],.mk (some 8) (.fld 2 (.tmp 1)) none [],.mk (some 9) (.load false 1 (.tmp 8)) none [5],.mk (some 10) (.call 64 [.tmp 9]) none [6,4]]
def l103r1b:List AOper :=
  [.mk (some 11) (.build [.int .i64 0,.slice none 0 0,.slice none 0 0] [(0,1,.tmp 4),(1,1,.tmp 7),(2,1,.tmp 10)]) none [1,4,7],.mk none (.store 3 (.tmp 2) (.tmp 11)) none [8,7,0,1,2,3,4,5,6,7,8]]
def l103r1:List AOper:=l103r1a ++ l103r1b
def l103:AFn :=
  (AFn.mk 12 1 (.seq (.reg l103r0) (.seq (.draw l103r1) .ret)) [.cell 2 true 3])
theorem l103_eq:lowFn Tryz.prog 103=some l103:=by kernel_rfl
def l104r0:List AOper :=
  [.mk (some 3) (.box (.tmp 1)) none [],.mk (some 4) (.mv (.const (.slice none 0 0))) none []]
def l104r1:List AOper :=
  [.mk (some 5) (.mv (.const (.int .i64 0))) none []]
def l104r2:List AOper :=
  [.mk (some 7) (.mv (.tmp 0)) none [],.mk (some 6) (.mv (.tmp 7)) none [0,0]]
def l104r3:List AOper :=
  [.mk (some 8) (.fld 2 (.tmp 3)) none [],.mk (some 9) (.load false 1 (.tmp 8)) none [0],.mk (some 10) (.bin .lss (.tmp 9) (.const (.int .i64 0))) none [1]]
def l104r4:List AOper :=
  [.mk (some 11) (.mv (.tmp 0)) none [],.mk (some 12) (.bin .sub (.tmp 11) (.const (.int .i64 1))) none [0],.mk (some 5) (.mv (.tmp 12)) none [1,0,1]]
def l104r5:List AOper :=
  [.mk (some 6) (.mv (.const (.int .i64 (-1)))) none []]
def l104r6:List AOper :=
  [.mk (some 13) (.fld 3 (.tmp 3)) none [],.mk (some 14) (.load false 1 (.tmp 13)) none [0]]
def l104r7:List AOper :=
  [.mk (some 15) (.mv (.tmp 0)) none [],.mk (some 16) (.fld 0 (.tmp 3)) none [],.mk (some 17) (.load false 1 (.tmp 16)) none [1],.mk (some 18) (.fld 2 (.tmp 3)) none [],.mk (some 19) (.load false 1 (.tmp 18)) none [3],.mk (some 20) (.call 135 [.tmp 15,.tmp 17,.tmp 19]) none [0,2,4],.mk (some 5) (.mv (.tmp 20)) none [5,5,0,1,2,3,4,5]]
def l104r8:List AOper :=
  [.mk (some 21) (.fld 4 (.tmp 3)) none [],.mk (some 22) (.load false 1 (.tmp 21)) none [0]]
def l104r9:List AOper :=
  [.mk (some 23) (.mv (.tmp 0)) none [],.mk (some 24) (.fld 1 (.tmp 3)) none [],.mk (some 25) (.load false 1 (.tmp 24)) none [1],.mk (some 26) (.fld 2 (.tmp 3)) none [],.mk (some 27) (.load false 1 (.tmp 26)) none [3],.mk (some 28) (.call 135 [.tmp 23,.tmp 25,.tmp 27]) none [0,2,4],.mk (some 6) (.mv (.tmp 28)) none [5,5,0,1,2,3,4,5]]
def l104r10:List AOper :=
  [.mk (some 29) (.mv (.tmp 5)) none [],.mk (some 30) (.mv (.tmp 6)) none [],.mk (some 31) (.fld 2 (.tmp 3)) none [],.mk (some 32) (.load false 1 (.tmp 31)) none [2],.mk (some 33) (.build [.int .i64 0,.int .i64 0,.int .i64 0] [(0,1,.tmp 29),(1,1,.tmp 30),(2,1,.tmp 32)]) none [0,1,3],.mk (some 34) (.call 105 [.tmp 33]) none [4],.mk (some 4) (.mv (.tmp 34)) none [5,5,0,1,2,3,4,5]]
def l104:AFn :=
  (AFn.mk 35 2 (.seq (.reg l104r0) (.seq (.reg l104r1) (.seq (.reg l104r2) (.seq (.seq (.reg l104r3) (.cond (.tmp 10) (.seq (.reg l104r4) (.reg l104r5)) .skip)) (.seq (.seq (.reg l104r6) (.cond (.tmp 14) (.reg l104r7) .skip)) (.seq (.seq (.reg l104r8) (.cond (.tmp 22) (.reg l104r9) .skip)) (.seq (.reg l104r10) .ret))))))) [.tmp 4])
theorem l104_eq:lowFn Tryz.prog 104=some l104:=by kernel_rfl
def l105r0:List AOper :=
  [.mk (some 1) (.box (.tmp 0)) none [],.mk (some 2) (.mv (.const (.slice none 0 0))) none []]
def l105r1:List AOper :=
  [.mk (some 5) (.bslice 1 [.int .i64 0] [] 0) none [],.mk (some 3) (.mv (.tmp 5)) none [0,0]]
def l105r2:List AOper :=
  [.mk (some 6) (.fld 0 (.tmp 1)) none [],.mk (some 7) (.load false 1 (.tmp 6)) none [0],.mk (some 4) (.mv (.tmp 7)) none [1,0,1]]
def l105r3:List AOper :=
  [.mk (some 8) (.fld 2 (.tmp 1)) none [],.mk (some 9) (.load false 1 (.tmp 8)) none [0],.mk (some 10) (.bin .gtr (.tmp 9) (.const (.int .i64 0))) none [1],.mk (some 11) (.mv (.tmp 10)) none [2],.mk (some 12) (.mv (.tmp 4)) (some (11,true)) [3],.mk (some 13) (.fld 1 (.tmp 1)) (some (11,true)) [3],.mk (some 14) (.load false 1 (.tmp 13)) (some (11,true)) [5,3],.mk (some 15) (.bin .lss (.tmp 12) (.tmp 14)) (some (11,true)) [4,6,3],.mk (some 16) (.pick (.tmp 11) (.tmp 15) (.const (.bool false))) none [3,7],.mk (some 17) (.mv (.tmp 16)) none [8,3],.mk (some 18) (.fld 2 (.tmp 1)) (some (17,false)) [9],.mk (some 19) (.load false 1 (.tmp 18)) (some (17,false)) [10,9],.mk (some 20) (.bin .lss (.tmp 19) (.const (.int .i64 0))) (some (17,false)) [11,9],.mk (some 21) (.mv (.tmp 20)) (some (17,false)) [12,9,9],.mk (some 22) (.mv (.tmp 4)) (some (21,true)) [13],.mk (some 23) (.fld 1 (.tmp 1)) (some (21,true)) [13],.mk (some 24) (.load false 1 (.tmp 23)) (some (21,true)) [15,13],.mk (some 25) (.bin .gtr (.tmp 22) (.tmp 24)) (some (21,true)) [14,16,13],.mk (some 26) (.pick (.tmp 21) (.tmp 25) (.const (.bool false))) (some (17,false)) [13,17,9],.mk (some 27) (.pick (.tmp 17) (.const (.bool true)) (.tmp 26)) none [9,18]]
def l105r4:List AOper :=
  [.mk (some 32) (.mv (.tmp 3)) none [],.mk (some 33) (.mv (.tmp 4)) none [],.mk (some 34) (.bslice 1 [.int .i64 0] [(0,.tmp 33)] 1) none [1],.mk (some 35) (.append 1 (.tmp 32) (.tmp 34)) none [0,2],.mk (some 3) (.mv (.tmp 35)) none [3,3,0,1,2,3]]
def l105r5:List AOper :=
  [.mk (some 28) (.mv (.tmp 4)) none [],.mk (some 29) (.fld 2 (.tmp 1)) none [],.mk (some 30) (.load false 1 (.tmp 29)) none [1],.mk (some 31) (.bin .add (.tmp 28) (.tmp 30)) none [0,2],.mk (some 4) (.mv (.tmp 31)) none [3,0,1,2,3]]
def l105r6:List AOper :=
  [.mk (some 36) (.mv (.tmp 3)) none [],.mk (some 2) (.mv (.tmp 36)) none [0,0]]
def l105:AFn :=
  (AFn.mk 37 1 (.seq (.reg l105r0) (.seq (.reg l105r1) (.seq (.seq (.reg l105r2) (.block 0 (.loop (.seq (.seq (.reg l105r3) (.cond (.tmp 27) .skip (.exit 0))) (.seq (.block 1 (.reg l105r4)) (.reg l105r5)))))) (.seq (.reg l105r6) .ret)))) [.tmp 2])
theorem l105_eq:lowFn Tryz.prog 105=some l105:=by kernel_rfl
def l106r0:List AOper :=
  [.mk (some 1) (.box (.tmp 0)) none [],.mk (some 2) (.alloc [.int .i64 0,.slice none 0 0,.slice none 0 0]) none []]
def l106r1:List AOper :=
  [.mk (some 3) (.fld 1 (.tmp 1)) none [],.mk (some 4) (.load false 1 (.tmp 3)) none [0],.mk (some 5) (.call 89 [.tmp 4]) none [1],.mk (some 6) (.bin .eql (.tmp 5) (.const (.int .i64 0))) none [2]]
def l106r2a:List AOper :=
  [.mk (some 7) (.fld 1 (.tmp 1)) none [],.mk (some 8) (.load false 1 (.tmp 7)) none [0],.mk (some 9) (.fld 1 (.tmp 1)) none [],.mk (some 10) (.load false 1 (.tmp 9)) none [2],.mk (some 11) (.len (.tmp 10)) none [3],.mk (some 12) (.mkslice 1 [.int .i64 0] (.tmp 11) (.tmp 11)) none [4,4]]
def l106r2b:List AOper :=
  [.mk (some 13) (.build [.int .i64 0,.slice none 0 0,.slice none 0 0] [(1,1,.tmp 8),(2,1,.tmp 12)]) none [1,5],.mk none (.store 3 (.tmp 2) (.tmp 13)) none [6,0,1,2,3,4,5,6]]
def l106r2:List AOper:=l106r2a ++ l106r2b
def l106r3:List AOper :=
  [.mk (some 14) (.load true 3 (.tmp 1)) none [],.mk none (.store 3 (.tmp 2) (.tmp 14)) none [0,0]]
def l106:AFn :=
  (AFn.mk 15 1 (.seq (.reg l106r0) (.seq (.seq (.reg l106r1) (.cond (.tmp 6) (.seq (.draw l106r2) .ret) .skip)) (.seq (.reg l106r3) .ret))) [.cell 2 true 3])
theorem l106_eq:lowFn Tryz.prog 106=some l106:=by kernel_rfl
def l107r0:List AOper :=
  [.mk (some 2) (.box (.tmp 0)) none [],.mk (some 4) (.mv (.const (.int .i64 0))) none []]
def l107r1:List AOper :=
  [.mk (some 5) (.fld 0 (.tmp 2)) none [],.mk (some 6) (.load false 1 (.tmp 5)) none [0],.mk (some 7) (.mv (.tmp 1)) none [],.mk (some 8) (.fld 2 (.tmp 2)) none [],.mk (some 9) (.load false 1 (.tmp 8)) none [3],.mk (some 10) (.bin .mul (.tmp 7) (.tmp 9)) none [2,4],.mk (some 11) (.bin .add (.tmp 6) (.tmp 10)) none [1,5],.mk (some 4) (.mv (.tmp 11)) none [6,0,1,2,3,4,5,6]]
def l107:AFn :=
  (AFn.mk 12 2 (.seq (.reg l107r0) (.seq (.reg l107r1) .ret)) [.tmp 4])
theorem l107_eq:lowFn Tryz.prog 107=some l107:=by kernel_rfl
def l108r0:List AOper :=
  [.mk (some 4) (.mv (.const (.bool false))) none []]
def l108r1:List AOper :=
  [.mk (some 7) (.mv (.tmp 0)) none [],.mk (some 8) (.len (.tmp 7)) none [0],.mk (some 9) (.mv (.tmp 1)) none [],.mk (some 10) (.bin .neq (.tmp 8) (.tmp 9)) none [1,2]]
def l108r2:List AOper :=
  [.mk (some 4) (.mv (.const (.bool false))) none []]
def l108r3:List AOper :=
  [.mk (some 11) (.mv (.tmp 0)) none [],.mk (some 12) (.len (.tmp 11)) none [0],.mk (some 13) (.mv (.const (.int .i64 0))) none []]
def l108r4:List AOper :=
  [.mk (some 14) (.bin .lss (.tmp 13) (.tmp 12)) none []]
def l108r5:List AOper :=
  [.mk (some 15) (.idxA 1 (.tmp 11) (.tmp 13)) none [],.mk (some 16) (.load false 1 (.tmp 15)) none [0],.mk (some 6) (.mv (.tmp 16)) none [1,0,1]]
def l108r6:List AOper :=
  [.mk (some 17) (.mv (.tmp 6)) none [],.mk (some 18) (.call 121 [.tmp 17,.const (.int .i64 60)]) none [0],.mk (some 19) (.un .not (.tmp 18)) none [1]]
def l108r7:List AOper :=
  [.mk (some 4) (.mv (.const (.bool false))) none []]
def l108r8:List AOper :=
  [.mk (some 20) (.bin .add (.tmp 13) (.const (.int .i64 1))) none [],.mk (some 13) (.mv (.tmp 20)) none [0]]
def l108r9:List AOper :=
  [.mk (some 4) (.mv (.const (.bool true))) none []]
def l108:AFn :=
  (AFn.mk 21 2 (.seq (.reg l108r0) (.seq (.seq (.reg l108r1) (.cond (.tmp 10) (.seq (.reg l108r2) .ret) .skip)) (.seq (.seq (.reg l108r3) (.block 0 (.loop (.seq (.reg l108r4) (.seq (.cond (.tmp 14) .skip (.exit 0)) (.seq (.block 1 (.seq (.reg l108r5) (.seq (.reg l108r6) (.cond (.tmp 19) (.seq (.reg l108r7) .ret) .skip)))) (.reg l108r8))))))) (.seq (.reg l108r9) .ret)))) [.tmp 4])
theorem l108_eq:lowFn Tryz.prog 108=some l108:=by kernel_rfl
def l109r0:List AOper :=
  [.mk (some 1) (.box (.tmp 0)) none [],.mk (some 2) (.mv (.const (.int .i64 0))) none [],.mk (some 3) (.mv (.const (.int .i64 0))) none [1]]
def l109r1:List AOper :=
  [.mk (some 9) (.load true 3 (.tmp 1)) none [],.mk (some 10) (.call 100 [.tmp 9]) none [0],.mk (some 11) (.bin .eql (.tmp 10) (.const (.int .i64 0))) none [1]]
def l109r2:List AOper :=
  [.mk (some 2) (.mv (.const (.int .i64 (-1)))) none [],.mk (some 3) (.mv (.const (.int .i64 (-1)))) none [0,0]]
def l109r3a:List AOper :=
  [.mk (some 12) (.fld 0 (.tmp 1)) none [],.mk (some 13) (.load false 1 (.tmp 12)) none [0],.mk (some 14) (.fld 0 (.tmp 1)) none [],.mk (some 15) (.load false 1 (.tmp 14)) none [2],.mk (some 4) (.mv (.tmp 13)) none [1,0,1]]
def l109r3b:List AOper :=
  [.mk (some 5) (.mv (.tmp 15)) none [3,4,0,1,2,3,4]]
def l109r3:List AOper:=l109r3a ++ l109r3b
def l109r4:List AOper :=
  [.mk (some 16) (.fld 2 (.tmp 1)) none [],.mk (some 17) (.load false 1 (.tmp 16)) none [0],.mk (some 18) (.len (.tmp 17)) none [1],.mk (some 19) (.mv (.const (.int .i64 0))) none []]
def l109r5:List AOper :=
  [.mk (some 20) (.bin .lss (.tmp 19) (.tmp 18)) none []]
def l109r6:List AOper :=
  [.mk (some 21) (.mv (.tmp 19)) none [],.mk (some 22) (.idxA 1 (.tmp 17) (.tmp 19)) none [],.mk (some 23) (.load false 1 (.tmp 22)) none [1],.mk (some 6) (.mv (.tmp 21)) none [0,0,1,2],.mk (some 7) (.mv (.tmp 23)) none [2,3,0,1,2,3]]
def l109r7:List AOper :=
  [.mk (some 24) (.fld 1 (.tmp 1)) none [],.mk (some 25) (.load false 1 (.tmp 24)) none [0],.mk (some 26) (.mv (.tmp 6)) none [],.mk (some 27) (.idxA 1 (.tmp 25) (.tmp 26)) none [1,2],.mk (some 28) (.load false 1 (.tmp 27)) none [3],.mk (some 29) (.bin .sub (.tmp 28) (.const (.int .i64 1))) none [4],.mk (some 30) (.mv (.tmp 7)) none [],.mk (some 31) (.bin .mul (.tmp 29) (.tmp 30)) none [5,6],.mk (some 8) (.mv (.tmp 31)) none [7,0,1,2,3,4,5,6,7]]
def l109r8:List AOper :=
  [.mk (some 32) (.mv (.tmp 4)) none [],.mk (some 33) (.mv (.tmp 8)) none [],.mk (some 34) (.minmax false (.tmp 33) (.const (.int .i64 0))) none [1],.mk (some 35) (.bin .add (.tmp 32) (.tmp 34)) none [0,2],.mk (some 4) (.mv (.tmp 35)) none [3,0,1,2,3]]
def l109r9:List AOper :=
  [.mk (some 36) (.mv (.tmp 5)) none [],.mk (some 37) (.mv (.tmp 8)) none [],.mk (some 38) (.minmax true (.tmp 37) (.const (.int .i64 0))) none [1],.mk (some 39) (.bin .add (.tmp 36) (.tmp 38)) none [0,2],.mk (some 5) (.mv (.tmp 39)) none [3,0,1,2,3]]
def l109r10:List AOper :=
  [.mk (some 40) (.bin .add (.tmp 19) (.const (.int .i64 1))) none [],.mk (some 19) (.mv (.tmp 40)) none [0]]
def l109r11:List AOper :=
  [.mk (some 41) (.mv (.tmp 4)) none [],.mk (some 42) (.mv (.tmp 5)) none [],.mk (some 2) (.mv (.tmp 41)) none [0,0],.mk (some 3) (.mv (.tmp 42)) none [1,2,0,1,2]]
def l109:AFn :=
  (AFn.mk 43 1 (.seq (.reg l109r0) (.seq (.seq (.reg l109r1) (.cond (.tmp 11) (.seq (.reg l109r2) .ret) .skip)) (.seq (.draw l109r3) (.seq (.seq (.reg l109r4) (.block 0 (.loop (.seq (.reg l109r5) (.seq (.cond (.tmp 20) .skip (.exit 0)) (.seq (.block 1 (.seq (.reg l109r6) (.seq (.reg l109r7) (.seq (.reg l109r8) (.reg l109r9))))) (.reg l109r10))))))) (.seq (.reg l109r11) .ret))))) [.tmp 2,.tmp 3])
theorem l109_eq:lowFn Tryz.prog 109=some l109:=by kernel_rfl
def l110r0:List AOper :=
  [.mk (some 2) (.box (.tmp 0)) none [],.mk (some 4) (.mv (.const (.int .i64 0))) none []]
def l110r1:List AOper :=
  [.mk (some 5) (.mv (.const (.int .i64 0))) none []]
def l110r2:List AOper :=
  [.mk (some 8) (.mv (.tmp 1)) none [],.mk (some 9) (.len (.tmp 8)) none [0],.mk (some 10) (.mv (.const (.int .i64 0))) none []]
def l110r3:List AOper :=
  [.mk (some 11) (.bin .lss (.tmp 10) (.tmp 9)) none []]
def l110r4:List AOper :=
  [.mk (some 12) (.mv (.tmp 10)) none [],.mk (some 13) (.idxA 1 (.tmp 8) (.tmp 10)) none [],.mk (some 14) (.load false 1 (.tmp 13)) none [1],.mk (some 6) (.mv (.tmp 12)) none [0,0,1,2],.mk (some 7) (.mv (.tmp 14)) none [2,3,0,1,2,3]]
def l110r5:List AOper :=
  [.mk (some 15) (.mv (.tmp 5)) none [],.mk (some 16) (.mv (.tmp 6)) none [],.mk (some 17) (.idxP 1 4 (.tmp 2) (.tmp 16)) none [1],.mk (some 18) (.load false 1 (.tmp 17)) none [2],.mk (some 19) (.mv (.tmp 7)) none [],.mk (some 20) (.bin .mul (.tmp 18) (.tmp 19)) none [3,4],.mk (some 21) (.bin .add (.tmp 15) (.tmp 20)) none [0,5],.mk (some 5) (.mv (.tmp 21)) none [6,0,1,2,3,4,5,6]]
def l110r6:List AOper :=
  [.mk (some 22) (.bin .add (.tmp 10) (.const (.int .i64 1))) none [],.mk (some 10) (.mv (.tmp 22)) none [0]]
def l110r7:List AOper :=
  [.mk (some 23) (.mv (.tmp 5)) none [],.mk (some 4) (.mv (.tmp 23)) none [0,0]]
def l110:AFn :=
  (AFn.mk 24 2 (.seq (.reg l110r0) (.seq (.reg l110r1) (.seq (.seq (.reg l110r2) (.block 0 (.loop (.seq (.reg l110r3) (.seq (.cond (.tmp 11) .skip (.exit 0)) (.seq (.block 1 (.seq (.reg l110r4) (.reg l110r5))) (.reg l110r6))))))) (.seq (.reg l110r7) .ret)))) [.tmp 4])
theorem l110_eq:lowFn Tryz.prog 110=some l110:=by kernel_rfl
def l111r0:List AOper :=
  [.mk (some 6) (.mv (.tmp 1)) none [],.mk (some 7) (.len (.tmp 6)) none [0],.mk (some 8) (.mv (.const (.int .i64 0))) none []]
def l111r1:List AOper :=
  [.mk (some 9) (.bin .lss (.tmp 8) (.tmp 7)) none []]
def l111r2:List AOper :=
  [.mk (some 10) (.idxA 1 (.tmp 6) (.tmp 8)) none [],.mk (some 11) (.load false 1 (.tmp 10)) none [0],.mk (some 5) (.mv (.tmp 11)) none [1,0,1]]
def l111r3:List AOper :=
  [.mk (some 12) (.mv (.tmp 0)) none [],.mk (some 13) (.mv (.tmp 5)) none [],.mk (some 14) (.raw (Op.lookup 121 (.tmp 12) (.tmp 13) false)) none [0,1],.mk (some 15) (.bin .add (.tmp 14) (.const (.int .i64 1))) none [2],.mk none (.raw (Op.mapUpdate 121 (.tmp 12) (.tmp 13) (.tmp 15))) none [0,1,3,0,1,2,3]]
def l111r4:List AOper :=
  [.mk (some 16) (.bin .add (.tmp 8) (.const (.int .i64 1))) none [],.mk (some 8) (.mv (.tmp 16)) none [0]]
def l111:AFn :=
  (AFn.mk 17 2 (.seq (.reg l111r0) (.block 0 (.loop (.seq (.reg l111r1) (.seq (.cond (.tmp 9) .skip (.exit 0)) (.seq (.block 1 (.seq (.reg l111r2) (.reg l111r3))) (.reg l111r4))))))) [])
theorem l111_eq:lowFn Tryz.prog 111=some l111:=by kernel_rfl
def l112r0:List AOper :=
  [.mk (some 4) (.mv (.const (.slice none 0 0))) none []]
def l112r1:List AOper :=
  [.mk (some 5) (.mv (.const (.slice none 0 0))) none []]
def l112r2:List AOper :=
  [.mk (some 8) (.mv (.tmp 0)) none [],.mk (some 9) (.raw (Op.range 121 (.tmp 8))) none [0]]
def l112r3:List AOper :=
  [.mk (some 10) (.raw (Op.next (.tmp 9) false)) none [],.mk (some 11) (.extract (.tmp 10) 0) none [0]]
def l112r4:List AOper :=
  [.mk (some 12) (.raw (Op.entry (.tmp 9))) none [],.mk (some 13) (.extract (.tmp 12) 0) none [0],.mk (some 14) (.extract (.tmp 12) 1) none [0],.mk (some 6) (.mv (.tmp 13)) none [1,0,1],.mk (some 7) (.mv (.tmp 14)) none [2,3,0,1,2,3]]
def l112r5:List AOper :=
  [.mk (some 15) (.mv (.tmp 7)) none [],.mk (some 16) (.mv (.tmp 1)) none [],.mk (some 17) (.bin .geq (.tmp 15) (.tmp 16)) none [0,1]]
def l112r6:List AOper :=
  [.mk (some 18) (.mv (.tmp 5)) none [],.mk (some 19) (.mv (.tmp 6)) none [],.mk (some 20) (.bslice 1 [.int .i64 0] [(0,.tmp 19)] 1) none [1],.mk (some 21) (.append 1 (.tmp 18) (.tmp 20)) none [0,2],.mk (some 5) (.mv (.tmp 21)) none [3,3,0,1,2,3]]
def l112r7:List AOper :=
  [.mk (some 22) (.mv (.tmp 5)) none [],.mk (some 23) (.call 136 [.tmp 22]) none [0]]
def l112r8:List AOper :=
  [.mk (some 24) (.mv (.tmp 5)) none [],.mk (some 4) (.mv (.tmp 24)) none [0,0]]
def l112:AFn :=
  (AFn.mk 25 2 (.seq (.reg l112r0) (.seq (.reg l112r1) (.seq (.seq (.reg l112r2) (.block 0 (.loop (.seq (.reg l112r3) (.seq (.cond (.tmp 11) .skip (.exit 0)) (.block 1 (.seq (.reg l112r4) (.seq (.reg l112r5) (.cond (.tmp 17) (.reg l112r6) .skip))))))))) (.seq (.reg l112r7) (.seq (.reg l112r8) .ret))))) [.tmp 4])
theorem l112_eq:lowFn Tryz.prog 112=some l112:=by kernel_rfl
def l113r0:List AOper :=
  [.mk (some 2) (.mv (.const (.map none))) none []]
def l113r1:List AOper :=
  [.mk (some 6) (.raw (Op.makeMap 121 none)) none [],.mk (some 3) (.mv (.tmp 6)) none [0,0]]
def l113r2:List AOper :=
  [.mk (some 7) (.mv (.tmp 0)) none [],.mk (some 8) (.len (.tmp 7)) none [0],.mk (some 9) (.mv (.const (.int .i64 0))) none []]
def l113r3:List AOper :=
  [.mk (some 10) (.bin .lss (.tmp 9) (.tmp 8)) none []]
def l113r4:List AOper :=
  [.mk (some 11) (.idxA 3 (.tmp 7) (.tmp 9)) none [],.mk (some 12) (.load true 3 (.tmp 11)) none [0],.mk (some 5) (.alloc [.int .i64 0,.slice none 0 0,.slice none 0 0]) none [],.mk none (.store 3 (.tmp 5) (.tmp 12)) none [2,1,0,1,2]]
def l113r5:List AOper :=
  [.mk (some 13) (.mv (.tmp 3)) none [],.mk (some 14) (.load true 3 (.tmp 5)) none [],.mk (some 15) (.call 84 [.tmp 14]) none [1],.mk (some 16) (.call 111 [.tmp 13,.tmp 15]) none [0,2,2]]
def l113r6:List AOper :=
  [.mk (some 17) (.bin .add (.tmp 9) (.const (.int .i64 1))) none [],.mk (some 9) (.mv (.tmp 17)) none [0]]
def l113r7:List AOper :=
  [.mk (some 18) (.mv (.tmp 3)) none [],.mk (some 2) (.mv (.tmp 18)) none [0,0]]
def l113:AFn :=
  (AFn.mk 19 1 (.seq (.reg l113r0) (.seq (.reg l113r1) (.seq (.seq (.reg l113r2) (.block 0 (.loop (.seq (.reg l113r3) (.seq (.cond (.tmp 10) .skip (.exit 0)) (.seq (.block 1 (.seq (.reg l113r4) (.reg l113r5))) (.reg l113r6))))))) (.seq (.reg l113r7) .ret)))) [.tmp 2])
theorem l113_eq:lowFn Tryz.prog 113=some l113:=by kernel_rfl
def l114r0:List AOper :=
  [.mk (some 2) (.alloc [.int .i64 0,.slice none 0 0,.slice none 0 0]) none []]
def l114r1:List AOper :=
  [.mk (some 8) (.mv (.tmp 0)) none [],.mk (some 9) (.call 115 [.tmp 8]) none [0],.mk (some 10) (.call 137 [.tmp 9]) none [1,1],.mk (some 3) (.alloc [.int .i64 0,.slice none 0 0,.slice none 0 0]) none [],.mk none (.store 3 (.tmp 3) (.tmp 10)) none [3,2,2,0,1,2,3]]
def l114r2:List AOper :=
  [.mk (some 11) (.mv (.tmp 0)) none [],.mk (some 12) (.mv (.tmp 0)) none [],.mk (some 13) (.call 65 [.tmp 12,.const (.int .i64 10)]) none [1],.mk (some 14) (.bslice 1 [.int .i64 0] [(0,.const (.int .i64 0)),(1,.const (.int .i64 0)),(2,.const (.int .i64 1)),(3,.const (.int .i64 3)),(4,.tmp 13)] 5) none [2],.mk (some 15) (.call 66 [.tmp 11,.tmp 14]) none [0,3,2],.mk (some 16) (.fld 0 (.tmp 3)) none [0,1,2,3,4],.mk none (.store 1 (.tmp 16) (.tmp 15)) none [5,4,4,0,1,2,3,4]]
def l114r3:List AOper :=
  [.mk (some 17) (.mv (.tmp 0)) none [],.mk (some 18) (.call 65 [.tmp 17,.const (.int .i64 4)]) none [0],.mk (some 4) (.mv (.tmp 18)) none [1,1,0,1]]
def l114r4:List AOper :=
  [.mk (some 19) (.mv (.tmp 4)) none [],.mk (some 20) (.bin .gtr (.tmp 19) (.const (.int .i64 0))) none [0],.mk (some 21) (.mv (.tmp 20)) none [1],.mk (some 22) (.fld 1 (.tmp 3)) (some (21,true)) [2],.mk (some 23) (.load false 1 (.tmp 22)) (some (21,true)) [3,2],.mk (some 24) (.len (.tmp 23)) (some (21,true)) [4,2],.mk (some 25) (.bin .gtr (.tmp 24) (.const (.int .i64 0))) (some (21,true)) [5,2],.mk (some 26) (.pick (.tmp 21) (.tmp 25) (.const (.bool false))) none [2,6]]
def l114r5:List AOper :=
  [.mk (some 29) (.mv (.tmp 0)) none [],.mk (some 30) (.fld 1 (.tmp 3)) none [],.mk (some 31) (.load false 1 (.tmp 30)) none [1],.mk (some 32) (.len (.tmp 31)) none [2],.mk (some 33) (.call 65 [.tmp 29,.tmp 32]) none [0,3],.mk (some 5) (.mv (.tmp 33)) none [4,4,0,1,2,3,4]]
def l114r6:List AOper :=
  [.mk (some 34) (.load true 3 (.tmp 3)) none [],.mk (some 6) (.alloc [.int .i64 0,.slice none 0 0,.slice none 0 0]) none [],.mk none (.store 3 (.tmp 6) (.tmp 34)) none [1,0,0,1]]
def l114r7:List AOper :=
  [.mk (some 7) (.mv (.const (.bool false))) none []]
def l114r8:List AOper :=
  [.mk (some 35) (.mv (.tmp 0)) none [],.mk (some 36) (.call 65 [.tmp 35,.const (.int .i64 6)]) none [0]]
def l114r9:List AOper :=
  [.mk (some 47) (.bin .eql (.tmp 36) (.const (.int .i64 0))) none [],.mk (some 46) (.mv (.tmp 47)) none [0]]
def l114r10a:List AOper :=
  [.mk (some 49) (.load true 3 (.tmp 3)) none [],.mk (some 50) (.mv (.tmp 5)) none [],.mk (some 51) (.mv (.tmp 0)) none [],.mk (some 52) (.call 37 [.tmp 51]) none [2],.mk (some 53) (.call 9 [.tmp 49,.tmp 50,.tmp 52]) none [0,1,3,3],.mk (some 48) (.mv (.tmp 53)) none [4],.mk (some 54) (.extract (.tmp 48) 0) none [5],.mk (some 55) (.extract (.tmp 48) 1) none [5],.mk none (.store 3 (.tmp 6) (.tmp 54)) none [6,4,0,1,2,3,4,5,6]]
def l114r10b:List AOper :=
  [.mk (some 7) (.mv (.tmp 55)) none [7,8,0,1,2,3,4,5,6,7,8]]
def l114r10:List AOper:=l114r10a ++ l114r10b
def l114r11:List AOper :=
  [.mk (some 57) (.bin .eql (.tmp 36) (.const (.int .i64 1))) none [],.mk (some 56) (.mv (.tmp 57)) none [0]]
def l114r12:List AOper :=
  [.mk (some 59) (.load true 3 (.tmp 3)) none [],.mk (some 60) (.mv (.tmp 5)) none [],.mk (some 61) (.call 138 [.tmp 59,.tmp 60]) none [0,1],.mk (some 58) (.mv (.tmp 61)) none [2],.mk (some 62) (.extract (.tmp 58) 0) none [3],.mk (some 63) (.extract (.tmp 58) 1) none [3],.mk none (.store 3 (.tmp 6) (.tmp 62)) none [4,2,0,1,2,3,4],.mk (some 7) (.mv (.tmp 63)) none [5,6,0,1,2,3,4,5,6]]
def l114r13:List AOper :=
  [.mk (some 65) (.bin .eql (.tmp 36) (.const (.int .i64 2))) none [],.mk (some 64) (.mv (.tmp 65)) none [0]]
def l114r14a:List AOper :=
  [.mk (some 67) (.load true 3 (.tmp 3)) none [],.mk (some 68) (.fld 1 (.tmp 3)) none [],.mk (some 69) (.load false 1 (.tmp 68)) none [1],.mk (some 70) (.len (.tmp 69)) none [2],.mk (some 71) (.call 88 [.tmp 70]) none [3],.mk (some 72) (.call 140 [.tmp 71]) none [4,4],.mk (some 73) (.call 139 [.tmp 67,.tmp 72]) none [0,5,5],.mk (some 66) (.mv (.tmp 73)) none [6],.mk (some 74) (.extract (.tmp 66) 0) none [7],.mk (some 75) (.extract (.tmp 66) 1) none [7],.mk none (.store 3 (.tmp 6) (.tmp 74)) none [8,6,0,1,2,3,4,5,6,7,8]]
def l114r14b:List AOper :=
  [.mk (some 7) (.mv (.tmp 75)) none [9,10,0,1,2,3,4,5,6,7,8,9,10]]
def l114r14:List AOper:=l114r14a ++ l114r14b
def l114r15:List AOper :=
  [.mk (some 77) (.bin .eql (.tmp 36) (.const (.int .i64 3))) none [],.mk (some 76) (.mv (.tmp 77)) none [0]]
def l114r16a:List AOper :=
  [.mk (some 79) (.load true 3 (.tmp 3)) none [],.mk (some 80) (.mv (.tmp 5)) none [],.mk (some 81) (.mv (.tmp 0)) none [],.mk (some 82) (.call 65 [.tmp 81,.const (.int .i64 3)]) none [2],.mk (some 83) (.bin .add (.const (.int .i64 1)) (.tmp 82)) none [3],.mk (some 84) (.call 141 [.tmp 79,.tmp 80,.tmp 83]) none [0,1,4,3],.mk (some 78) (.mv (.tmp 84)) none [5],.mk (some 85) (.extract (.tmp 78) 0) none [6],.mk (some 86) (.extract (.tmp 78) 1) none [6],.mk none (.store 3 (.tmp 6) (.tmp 85)) none [7,5,0,1,2,3,4,5,6,7]]
def l114r16b:List AOper :=
  [.mk (some 7) (.mv (.tmp 86)) none [8,9,0,1,2,3,4,5,6,7,8,9]]
def l114r16:List AOper:=l114r16a ++ l114r16b
def l114r17:List AOper :=
  [.mk (some 88) (.bin .eql (.tmp 36) (.const (.int .i64 4))) none [],.mk (some 87) (.mv (.tmp 88)) none [0]]
def l114r18:List AOper :=
  [.mk (some 90) (.load true 3 (.tmp 3)) none [],.mk (some 91) (.mv (.tmp 5)) none [],.mk (some 92) (.call 142 [.tmp 90,.tmp 91]) none [0,1],.mk (some 89) (.mv (.tmp 92)) none [2],.mk (some 93) (.extract (.tmp 89) 0) none [3],.mk (some 94) (.extract (.tmp 89) 1) none [3],.mk none (.store 3 (.tmp 6) (.tmp 93)) none [4,2,0,1,2,3,4],.mk (some 7) (.mv (.tmp 94)) none [5,6,0,1,2,3,4,5,6]]
def l114r19:List AOper :=
  [.mk (some 37) (.load true 3 (.tmp 3)) none [],.mk (some 38) (.call 103 [.tmp 37]) none [0],.mk none (.store 3 (.tmp 6) (.tmp 38)) none [1,1,0,1]]
def l114r20a:List AOper :=
  [.mk (some 39) (.fld 2 (.tmp 6)) none [],.mk (some 40) (.load false 1 (.tmp 39)) none [0],.mk (some 41) (.mv (.tmp 5)) none [],.mk (some 42) (.mv (.tmp 0)) none [],.mk (some 43) (.bslice 1 [.int .i64 0] [(0,.const (.int .i64 0)),(1,.const (.int .i64 2)),(2,.const (.int .i64 3)),(3,.const (.int .i64 1)),(4,.const (.int .i64 (-1))),(5,.const (.int .i64 5))] 6) none [],.mk (some 44) (.call 66 [.tmp 42,.tmp 43]) none [3,4]]
def l114r20b:List AOper :=
  [.mk (some 45) (.idxA 1 (.tmp 40) (.tmp 41)) none [1,2,0,1,2,3,4,5],.mk none (.store 1 (.tmp 45) (.tmp 44)) none [6,5,5,0,1,2,3,4,5]]
def l114r20:List AOper:=l114r20a ++ l114r20b
def l114r21:List AOper :=
  [.mk (some 7) (.mv (.const (.bool true))) none []]
def l114r22:List AOper :=
  [.mk (some 95) (.mv (.tmp 7)) none [],.mk (some 96) (.mv (.tmp 95)) none [0],.mk (some 97) (.load true 3 (.tmp 6)) (some (96,true)) [1],.mk (some 98) (.call 45 [.tmp 97]) (some (96,true)) [2,1,1],.mk (some 99) (.pick (.tmp 96) (.tmp 98) (.const (.bool false))) none [1,3]]
def l114r23:List AOper :=
  [.mk (some 100) (.load true 3 (.tmp 6)) none [],.mk none (.store 3 (.tmp 3) (.tmp 100)) none [0,0]]
def l114r24:List AOper :=
  [.mk (some 27) (.mv (.tmp 4)) none [],.mk (some 28) (.bin .sub (.tmp 27) (.const (.int .i64 1))) none [0],.mk (some 4) (.mv (.tmp 28)) none [1,0,1]]
def l114r25:List AOper :=
  [.mk (some 101) (.load true 3 (.tmp 3)) none [],.mk (some 102) (.call 45 [.tmp 101]) none [0],.mk (some 103) (.un .not (.tmp 102)) none [1]]
def l114r26:List AOper :=
  [.mk (some 104) (.fld 0 (.tmp 3)) none [],.mk none (.store 1 (.tmp 104) (.const (.int .i64 0))) none [0]]
def l114r27:List AOper :=
  [.mk (some 105) (.load true 3 (.tmp 3)) none [],.mk none (.store 3 (.tmp 2) (.tmp 105)) none [0,0]]
def l114:AFn :=
  (AFn.mk 106 1 (.seq (.reg l114r0) (.seq (.reg l114r1) (.seq (.reg l114r2) (.seq (.seq (.reg l114r3) (.block 0 (.loop (.seq (.seq (.reg l114r4) (.cond (.tmp 26) .skip (.exit 0))) (.seq (.block 1 (.seq (.reg l114r5) (.seq (.reg l114r6) (.seq (.reg l114r7) (.seq (.seq (.reg l114r8) (.block 2 (.seq (.reg l114r9) (.cond (.tmp 46) (.draw l114r10) (.seq (.reg l114r11) (.cond (.tmp 56) (.reg l114r12) (.seq (.reg l114r13) (.cond (.tmp 64) (.draw l114r14) (.seq (.reg l114r15) (.cond (.tmp 76) (.draw l114r16) (.seq (.reg l114r17) (.cond (.tmp 87) (.reg l114r18) (.seq (.reg l114r19) (.seq (.draw l114r20) (.reg l114r21))))))))))))))) (.seq (.reg l114r22) (.cond (.tmp 99) (.reg l114r23) .skip))))))) (.reg l114r24)))))) (.seq (.seq (.reg l114r25) (.cond (.tmp 103) (.reg l114r26) .skip)) (.seq (.reg l114r27) .ret)))))) [.cell 2 true 3])
theorem l114_eq:lowFn Tryz.prog 114=some l114:=by kernel_rfl
def l115r0:List AOper :=
  [.mk (some 2) (.mv (.const (.slice none 0 0))) none []]
def l115r1:List AOper :=
  [.mk (some 6) (.bslice 1 [.int .i64 0] [] 0) none [],.mk (some 3) (.mv (.tmp 6)) none [0,0]]
def l115r2:List AOper :=
  [.mk (some 7) (.mv (.tmp 0)) none [],.mk (some 8) (.bslice 1 [.int .i64 0] [(0,.const (.int .i64 2)),(1,.const (.int .i64 1)),(2,.const (.int .i64 3)),(3,.const (.int .i64 2)),(4,.const (.int .i64 0)),(5,.const (.int .i64 4))] 6) none [],.mk (some 9) (.call 66 [.tmp 7,.tmp 8]) none [0,1],.mk (some 4) (.mv (.tmp 9)) none [2,2,0,1,2]]
def l115r3:List AOper :=
  [.mk (some 10) (.mv (.tmp 4)) none [],.mk (some 11) (.bin .gtr (.tmp 10) (.const (.int .i64 0))) none [0]]
def l115r4:List AOper :=
  [.mk (some 14) (.mv (.tmp 0)) none [],.mk (some 15) (.bslice 1 [.int .i64 0] [(0,.const (.int .i64 2)),(1,.const (.int .i64 3)),(2,.const (.int .i64 1)),(3,.const (.int .i64 4)),(4,.const (.int .i64 2)),(5,.const (.int .i64 3)),(6,.const (.int .i64 5)),(7,.const (.int .i64 0))] 8) none [],.mk (some 16) (.call 66 [.tmp 14,.tmp 15]) none [0,1],.mk (some 5) (.mv (.tmp 16)) none [2,2,0,1,2]]
def l115r5:List AOper :=
  [.mk (some 17) (.mv (.tmp 3)) none [],.mk (some 18) (.call 89 [.tmp 17]) none [0],.mk (some 19) (.mv (.tmp 5)) none [],.mk (some 20) (.bin .mul (.tmp 18) (.tmp 19)) none [1,2],.mk (some 21) (.bin .leq (.tmp 20) (.const (.int .i64 60))) none [3]]
def l115r6:List AOper :=
  [.mk (some 22) (.mv (.tmp 3)) none [],.mk (some 23) (.mv (.tmp 5)) none [],.mk (some 24) (.bslice 1 [.int .i64 0] [(0,.tmp 23)] 1) none [1],.mk (some 25) (.append 1 (.tmp 22) (.tmp 24)) none [0,2],.mk (some 3) (.mv (.tmp 25)) none [3,3,0,1,2,3]]
def l115r7:List AOper :=
  [.mk (some 12) (.mv (.tmp 4)) none [],.mk (some 13) (.bin .sub (.tmp 12) (.const (.int .i64 1))) none [0],.mk (some 4) (.mv (.tmp 13)) none [1,0,1]]
def l115r8:List AOper :=
  [.mk (some 26) (.mv (.tmp 3)) none [],.mk (some 2) (.mv (.tmp 26)) none [0,0]]
def l115:AFn :=
  (AFn.mk 27 1 (.seq (.reg l115r0) (.seq (.reg l115r1) (.seq (.seq (.reg l115r2) (.block 0 (.loop (.seq (.seq (.reg l115r3) (.cond (.tmp 11) .skip (.exit 0))) (.seq (.block 1 (.seq (.reg l115r4) (.seq (.reg l115r5) (.cond (.tmp 21) (.reg l115r6) .skip)))) (.reg l115r7)))))) (.seq (.reg l115r8) .ret)))) [.tmp 2])
theorem l115_eq:lowFn Tryz.prog 115=some l115:=by kernel_rfl
def l121r0:List AOper :=
  [.mk (some 4) (.mv (.const (.bool false))) none []]
def l121r1:List AOper :=
  [.mk (some 5) (.mv (.tmp 1)) none [],.mk (some 6) (.un .neg (.tmp 5)) none [0],.mk (some 7) (.mv (.tmp 0)) none [],.mk (some 8) (.bin .leq (.tmp 6) (.tmp 7)) none [1,2],.mk (some 9) (.mv (.tmp 8)) none [3],.mk (some 10) (.mv (.tmp 0)) (some (9,true)) [4],.mk (some 11) (.mv (.tmp 1)) (some (9,true)) [4],.mk (some 12) (.bin .leq (.tmp 10) (.tmp 11)) (some (9,true)) [5,6,4],.mk (some 13) (.pick (.tmp 9) (.tmp 12) (.const (.bool false))) none [4,7],.mk (some 4) (.mv (.tmp 13)) none [8,4,0,1,2,3,4,5,6,7,8]]
def l121:AFn :=
  (AFn.mk 14 2 (.seq (.reg l121r0) (.seq (.reg l121r1) .ret)) [.tmp 4])
theorem l121_eq:lowFn Tryz.prog 121=some l121:=by kernel_rfl
def l129r0:List AOper :=
  [.mk (some 2) (.box (.tmp 0)) none [],.mk (some 4) (.mv (.const (.int .i64 0))) none []]
def l129r1:List AOper :=
  [.mk (some 7) (.fld 0 (.tmp 2)) none [],.mk (some 8) (.load false 1 (.tmp 7)) none [0],.mk (some 5) (.mv (.tmp 8)) none [1,0,1]]
def l129r2:List AOper :=
  [.mk (some 6) (.mv (.const (.int .i64 0))) none []]
def l129r3:List AOper :=
  [.mk (some 9) (.mv (.tmp 6)) none [],.mk (some 10) (.mv (.tmp 1)) none [],.mk (some 11) (.len (.tmp 10)) none [1],.mk (some 12) (.bin .lss (.tmp 9) (.tmp 11)) none [0,2]]
def l129r4a:List AOper :=
  [.mk (some 15) (.mv (.tmp 5)) none [],.mk (some 16) (.mv (.tmp 1)) none [],.mk (some 17) (.mv (.tmp 6)) none [],.mk (some 18) (.idxA 1 (.tmp 16) (.tmp 17)) none [1,2],.mk (some 19) (.load false 1 (.tmp 18)) none [3],.mk (some 20) (.fld 2 (.tmp 2)) none [],.mk (some 21) (.load false 1 (.tmp 20)) none [5],.mk (some 22) (.mv (.tmp 6)) none [],.mk (some 23) (.idxA 1 (.tmp 21) (.tmp 22)) none [6,7],.mk (some 24) (.load false 1 (.tmp 23)) none [8],.mk (some 25) (.bin .mul (.tmp 19) (.tmp 24)) none [4,9]]
def l129r4b:List AOper :=
  [.mk (some 26) (.bin .add (.tmp 15) (.tmp 25)) none [0,10],.mk (some 5) (.mv (.tmp 26)) none [11,0,1,2,3,4,5,6,7,8,9,10,11]]
def l129r4:List AOper:=l129r4a ++ l129r4b
def l129r5:List AOper :=
  [.mk (some 13) (.mv (.tmp 6)) none [],.mk (some 14) (.bin .add (.tmp 13) (.const (.int .i64 1))) none [0],.mk (some 6) (.mv (.tmp 14)) none [1,0,1]]
def l129r6:List AOper :=
  [.mk (some 27) (.mv (.tmp 5)) none [],.mk (some 4) (.mv (.tmp 27)) none [0,0]]
def l129:AFn :=
  (AFn.mk 28 2 (.seq (.reg l129r0) (.seq (.reg l129r1) (.seq (.seq (.reg l129r2) (.block 0 (.loop (.seq (.seq (.reg l129r3) (.cond (.tmp 12) .skip (.exit 0))) (.seq (.block 1 (.draw l129r4)) (.reg l129r5)))))) (.seq (.reg l129r6) .ret)))) [.tmp 4])
theorem l129_eq:lowFn Tryz.prog 129=some l129:=by kernel_rfl
def l130r0:List AOper :=
  [.mk (some 4) (.mv (.const (.slice none 0 0))) none []]
def l130r1:List AOper :=
  [.mk (some 7) (.mv (.tmp 0)) none [],.mk (some 8) (.len (.tmp 7)) none [0],.mk (some 9) (.mkslice 1 [.int .i64 0] (.tmp 8) (.tmp 8)) none [1,1],.mk (some 5) (.mv (.tmp 9)) none [2,0,1,2]]
def l130r2:List AOper :=
  [.mk (some 10) (.mv (.tmp 0)) none [],.mk (some 11) (.len (.tmp 10)) none [0],.mk (some 12) (.bin .sub (.tmp 11) (.const (.int .i64 1))) none [1],.mk (some 6) (.mv (.tmp 12)) none [2,0,1,2]]
def l130r3:List AOper :=
  [.mk (some 13) (.mv (.tmp 6)) none [],.mk (some 14) (.bin .geq (.tmp 13) (.const (.int .i64 0))) none [0]]
def l130r4:List AOper :=
  [.mk (some 17) (.mv (.tmp 5)) none [],.mk (some 18) (.mv (.tmp 6)) none [],.mk (some 19) (.mv (.tmp 1)) none [],.mk (some 20) (.mv (.tmp 0)) none [],.mk (some 21) (.mv (.tmp 6)) none [],.mk (some 22) (.idxA 1 (.tmp 20) (.tmp 21)) none [3,4],.mk (some 23) (.load false 1 (.tmp 22)) none [5],.mk (some 24) (.bin .rem (.tmp 19) (.tmp 23)) none [2,6],.mk (some 25) (.idxA 1 (.tmp 17) (.tmp 18)) none [0,1,0,1,2,3,4,5,6,7],.mk none (.store 1 (.tmp 25) (.tmp 24)) none [8,7,0,1,2,3,4,5,6,7]]
def l130r5:List AOper :=
  [.mk (some 26) (.mv (.tmp 1)) none [],.mk (some 27) (.mv (.tmp 0)) none [],.mk (some 28) (.mv (.tmp 6)) none [],.mk (some 29) (.idxA 1 (.tmp 27) (.tmp 28)) none [1,2],.mk (some 30) (.load false 1 (.tmp 29)) none [3],.mk (some 31) (.bin .quo (.tmp 26) (.tmp 30)) none [0,4],.mk (some 1) (.mv (.tmp 31)) none [5,0,1,2,3,4,5]]
def l130r6:List AOper :=
  [.mk (some 15) (.mv (.tmp 6)) none [],.mk (some 16) (.bin .sub (.tmp 15) (.const (.int .i64 1))) none [0],.mk (some 6) (.mv (.tmp 16)) none [1,0,1]]
def l130r7:List AOper :=
  [.mk (some 32) (.mv (.tmp 5)) none [],.mk (some 4) (.mv (.tmp 32)) none [0,0]]
def l130:AFn :=
  (AFn.mk 33 2 (.seq (.reg l130r0) (.seq (.reg l130r1) (.seq (.seq (.reg l130r2) (.block 0 (.loop (.seq (.seq (.reg l130r3) (.cond (.tmp 14) .skip (.exit 0))) (.seq (.block 1 (.seq (.reg l130r4) (.reg l130r5))) (.reg l130r6)))))) (.seq (.reg l130r7) .ret)))) [.tmp 4])
theorem l130_eq:lowFn Tryz.prog 130=some l130:=by kernel_rfl
def l135r0:List AOper :=
  [.mk (some 6) (.mv (.const (.int .i64 0))) none []]
def l135r1:List AOper :=
  [.mk (some 7) (.mv (.const (.int .i64 0))) none []]
def l135r2:List AOper :=
  [.mk (some 9) (.mv (.tmp 0)) none [],.mk (some 8) (.mv (.tmp 9)) none [0,0]]
def l135r3:List AOper :=
  [.mk (some 10) (.mv (.tmp 2)) none [],.mk (some 11) (.bin .lss (.tmp 10) (.const (.int .i64 0))) none [0]]
def l135r4:List AOper :=
  [.mk (some 7) (.mv (.const (.int .i64 (-1)))) none []]
def l135r5:List AOper :=
  [.mk (some 12) (.mv (.tmp 0)) none [],.mk (some 13) (.bin .sub (.tmp 12) (.const (.int .i64 1))) none [0],.mk (some 8) (.mv (.tmp 13)) none [1,0,1]]
def l135r6:List AOper :=
  [.mk (some 14) (.mv (.tmp 1)) none [],.mk (some 15) (.bin .lss (.tmp 14) (.const (.int .i64 0))) none [0]]
def l135r7:List AOper :=
  [.mk (some 16) (.mv (.tmp 1)) none [],.mk (some 17) (.mv (.tmp 0)) none [],.mk (some 18) (.bin .add (.tmp 16) (.tmp 17)) none [0,1],.mk (some 1) (.mv (.tmp 18)) none [2,0,1,2]]
def l135r8:List AOper :=
  [.mk (some 19) (.mv (.tmp 8)) none [],.mk (some 20) (.mv (.tmp 7)) none [],.mk (some 21) (.mv (.tmp 1)) none [],.mk (some 22) (.minmax true (.tmp 20) (.tmp 21)) none [1,2],.mk (some 23) (.minmax false (.tmp 19) (.tmp 22)) none [0,3],.mk (some 6) (.mv (.tmp 23)) none [4,0,1,2,3,4]]
def l135:AFn :=
  (AFn.mk 24 3 (.seq (.reg l135r0) (.seq (.reg l135r1) (.seq (.reg l135r2) (.seq (.seq (.reg l135r3) (.cond (.tmp 11) (.seq (.reg l135r4) (.reg l135r5)) .skip)) (.seq (.seq (.reg l135r6) (.cond (.tmp 15) (.reg l135r7) .skip)) (.seq (.reg l135r8) .ret)))))) [.tmp 6])
theorem l135_eq:lowFn Tryz.prog 135=some l135:=by kernel_rfl
def l137r0:List AOper :=
  [.mk (some 2) (.alloc [.int .i64 0,.slice none 0 0,.slice none 0 0]) none []]
def l137r1:List AOper :=
  [.mk (some 3) (.mv (.tmp 0)) none [],.mk (some 4) (.call 72 [.tmp 3]) none [0],.mk (some 5) (.un .not (.tmp 4)) none [1]]
def l137r2:List AOper :=
  [.mk (some 6) (.build [.int .i64 0,.slice none 0 0,.slice none 0 0] []) none [],.mk none (.store 3 (.tmp 2) (.tmp 6)) none [0,0]]
def l137r3:List AOper :=
  [.mk (some 7) (.mv (.tmp 0)) none [],.mk (some 8) (.call 89 [.tmp 7]) none [0],.mk (some 9) (.bin .eql (.tmp 8) (.const (.int .i64 0))) none [1]]
def l137r4a:List AOper :=
  [.mk (some 10) (.mv (.tmp 0)) none [],.mk (some 11) (.call 64 [.tmp 10]) none [0],.mk (some 12) (.mv (.tmp 0)) none [],.mk (some 13) (.len (.tmp 12)) none [2],.mk (some 14) (.mkslice 1 [.int .i64 0] (.tmp 13) (.tmp 13)) none [3,3]]
def l137r4b:List AOper :=
  [.mk (some 15) (.build [.int .i64 0,.slice none 0 0,.slice none 0 0] [(1,1,.tmp 11),(2,1,.tmp 14)]) none [1,4],.mk none (.store 3 (.tmp 2) (.tmp 15)) none [5,1,0,1,2,3,4,5]]
def l137r4:List AOper:=l137r4a ++ l137r4b
def l137r5:List AOper :=
  [.mk (some 16) (.mv (.tmp 0)) none [],.mk (some 17) (.call 64 [.tmp 16]) none [0],.mk (some 18) (.mv (.tmp 0)) none [],.mk (some 19) (.call 152 [.tmp 18]) none [2,1],.mk (some 20) (.build [.int .i64 0,.slice none 0 0,.slice none 0 0] [(1,1,.tmp 17),(2,1,.tmp 19)]) none [1,3],.mk none (.store 3 (.tmp 2) (.tmp 20)) none [4,3,0,1,2,3,4]]
def l137:AFn :=
  (AFn.mk 21 1 (.seq (.reg l137r0) (.seq (.seq (.reg l137r1) (.cond (.tmp 5) (.seq (.reg l137r2) .ret) .skip)) (.seq (.seq (.reg l137r3) (.cond (.tmp 9) (.seq (.draw l137r4) .ret) .skip)) (.seq (.reg l137r5) .ret)))) [.cell 2 true 3])
theorem l137_eq:lowFn Tryz.prog 137=some l137:=by kernel_rfl
def l138r0:List AOper :=
  [.mk (some 2) (.box (.tmp 0)) none [],.mk (some 4) (.alloc [.int .i64 0,.slice none 0 0,.slice none 0 0]) none [],.mk (some 5) (.mv (.const (.bool false))) none []]
def l138r1:List AOper :=
  [.mk (some 6) (.load true 3 (.tmp 2)) none [],.mk (some 7) (.mv (.tmp 1)) none [],.mk (some 8) (.build [.int .i64 0,.int .i64 0,.int .i64 0,.bool false,.bool false] [(2,1,.const (.int .i64 (-1)))]) none [],.mk (some 9) (.call 9 [.tmp 6,.tmp 7,.tmp 8]) none [0,1,2],.mk (some 10) (.extract (.tmp 9) 0) none [3],.mk (some 11) (.extract (.tmp 9) 1) none [3],.mk none (.store 3 (.tmp 4) (.tmp 10)) none [4,3,0,1,2,3,4,5],.mk (some 5) (.mv (.tmp 11)) none [5,6,0,1,2,3,4,5,6]]
def l138:AFn :=
  (AFn.mk 12 2 (.seq (.reg l138r0) (.seq (.reg l138r1) .ret)) [.cell 4 true 3,.tmp 5])
theorem l138_eq:lowFn Tryz.prog 138=some l138:=by kernel_rfl
def l139r0:List AOper :=
  [.mk (some 2) (.box (.tmp 0)) none [],.mk (some 4) (.alloc [.int .i64 0,.slice none 0 0,.slice none 0 0]) none [],.mk (some 5) (.mv (.const (.bool false))) none []]
def l139r1:List AOper :=
  [.mk (some 6) (.load true 3 (.tmp 2)) none [],.mk (some 7) (.call 45 [.tmp 6]) none [0],.mk (some 8) (.un .not (.tmp 7)) none [1],.mk (some 9) (.mv (.tmp 8)) none [2,1],.mk (some 10) (.mv (.tmp 1)) (some (9,false)) [3],.mk (some 11) (.fld 1 (.tmp 2)) (some (9,false)) [3],.mk (some 12) (.load false 1 (.tmp 11)) (some (9,false)) [5,3],.mk (some 13) (.len (.tmp 12)) (some (9,false)) [6,3],.mk (some 14) (.call 153 [.tmp 10,.tmp 13]) (some (9,false)) [4,7,3,3],.mk (some 15) (.un .not (.tmp 14)) (some (9,false)) [8,3],.mk (some 16) (.pick (.tmp 9) (.const (.bool true)) (.tmp 15)) none [3,9]]
def l139r2:List AOper :=
  [.mk (some 17) (.build [.int .i64 0,.slice none 0 0,.slice none 0 0] []) none [],.mk none (.store 3 (.tmp 4) (.tmp 17)) none [0,0],.mk (some 5) (.mv (.const (.bool false))) none [1,0,1]]
def l139r3:List AOper :=
  [.mk (some 18) (.load true 3 (.tmp 2)) none [],.mk (some 19) (.mv (.tmp 1)) none [],.mk (some 20) (.call 154 [.tmp 18,.tmp 19]) none [0,1],.mk (some 21) (.call 48 [.tmp 20]) none [2,2],.mk (some 22) (.extract (.tmp 21) 0) none [3],.mk (some 23) (.extract (.tmp 21) 1) none [3],.mk none (.store 3 (.tmp 4) (.tmp 22)) none [4,3,0,1,2,3,4,5],.mk (some 5) (.mv (.tmp 23)) none [5,6,0,1,2,3,4,5,6]]
def l139:AFn :=
  (AFn.mk 24 2 (.seq (.reg l139r0) (.seq (.seq (.reg l139r1) (.cond (.tmp 16) (.seq (.reg l139r2) .ret) .skip)) (.seq (.reg l139r3) .ret))) [.cell 4 true 3,.tmp 5])
theorem l139_eq:lowFn Tryz.prog 139=some l139:=by kernel_rfl
def l140r0:List AOper :=
  [.mk (some 2) (.mv (.const (.slice none 0 0))) none []]
def l140r1:List AOper :=
  [.mk (some 5) (.bslice 1 [.int .i64 0] [] 0) none [],.mk (some 3) (.mv (.tmp 5)) none [0,0]]
def l140r2:List AOper :=
  [.mk (some 6) (.mv (.tmp 0)) none [],.mk (some 7) (.len (.tmp 6)) none [0],.mk (some 8) (.bin .sub (.tmp 7) (.const (.int .i64 1))) none [1],.mk (some 4) (.mv (.tmp 8)) none [2,0,1,2]]
def l140r3:List AOper :=
  [.mk (some 9) (.mv (.tmp 4)) none [],.mk (some 10) (.bin .geq (.tmp 9) (.const (.int .i64 0))) none [0]]
def l140r4:List AOper :=
  [.mk (some 13) (.mv (.tmp 3)) none [],.mk (some 14) (.mv (.tmp 0)) none [],.mk (some 15) (.mv (.tmp 4)) none [],.mk (some 16) (.idxA 1 (.tmp 14) (.tmp 15)) none [1,2],.mk (some 17) (.load false 1 (.tmp 16)) none [3],.mk (some 18) (.bslice 1 [.int .i64 0] [(0,.tmp 17)] 1) none [4],.mk (some 19) (.append 1 (.tmp 13) (.tmp 18)) none [0,5],.mk (some 3) (.mv (.tmp 19)) none [6,6,0,1,2,3,4,5,6]]
def l140r5:List AOper :=
  [.mk (some 11) (.mv (.tmp 4)) none [],.mk (some 12) (.bin .sub (.tmp 11) (.const (.int .i64 1))) none [0],.mk (some 4) (.mv (.tmp 12)) none [1,0,1]]
def l140r6:List AOper :=
  [.mk (some 20) (.mv (.tmp 3)) none [],.mk (some 2) (.mv (.tmp 20)) none [0,0]]
def l140:AFn :=
  (AFn.mk 21 1 (.seq (.reg l140r0) (.seq (.reg l140r1) (.seq (.seq (.reg l140r2) (.block 0 (.loop (.seq (.seq (.reg l140r3) (.cond (.tmp 10) .skip (.exit 0))) (.seq (.block 1 (.reg l140r4)) (.reg l140r5)))))) (.seq (.reg l140r6) .ret)))) [.tmp 2])
theorem l140_eq:lowFn Tryz.prog 140=some l140:=by kernel_rfl
def l141r0:List AOper :=
  [.mk (some 3) (.box (.tmp 0)) none [],.mk (some 6) (.alloc [.int .i64 0,.slice none 0 0,.slice none 0 0]) none [],.mk (some 7) (.mv (.const (.bool false))) none []]
def l141r1:List AOper :=
  [.mk (some 9) (.load true 3 (.tmp 3)) none [],.mk (some 10) (.call 45 [.tmp 9]) none [0],.mk (some 11) (.un .not (.tmp 10)) none [1],.mk (some 12) (.mv (.tmp 11)) none [2,1],.mk (some 13) (.load true 3 (.tmp 3)) (some (12,false)) [3],.mk (some 14) (.mv (.tmp 1)) (some (12,false)) [3],.mk (some 15) (.call 46 [.tmp 13,.tmp 14]) (some (12,false)) [4,5,3,3],.mk (some 16) (.un .not (.tmp 15)) (some (12,false)) [6,3],.mk (some 17) (.pick (.tmp 12) (.const (.bool true)) (.tmp 16)) none [3,7],.mk (some 18) (.mv (.tmp 17)) none [8,6],.mk (some 19) (.mv (.tmp 2)) (some (18,false)) [9],.mk (some 20) (.fld 1 (.tmp 3)) (some (18,false)) [9],.mk (some 21) (.load false 1 (.tmp 20)) (some (18,false)) [11,9],.mk (some 22) (.mv (.tmp 1)) (some (18,false)) [9],.mk (some 23) (.idxA 1 (.tmp 21) (.tmp 22)) (some (18,false)) [12,13,9],.mk (some 24) (.load false 1 (.tmp 23)) (some (18,false)) [14,9],.mk (some 25) (.call 102 [.tmp 19,.const (.int .i64 1),.tmp 24]) (some (18,false)) [10,15,9,9],.mk (some 26) (.un .not (.tmp 25)) (some (18,false)) [16,9],.mk (some 27) (.pick (.tmp 18) (.const (.bool true)) (.tmp 26)) none [9,17]]
def l141r2:List AOper :=
  [.mk (some 28) (.build [.int .i64 0,.slice none 0 0,.slice none 0 0] []) none [],.mk none (.store 3 (.tmp 6) (.tmp 28)) none [0,0],.mk (some 7) (.mv (.const (.bool false))) none [1,0,1]]
def l141r3:List AOper :=
  [.mk (some 29) (.load true 3 (.tmp 3)) none [],.mk (some 30) (.call 103 [.tmp 29]) none [0],.mk (some 8) (.alloc [.int .i64 0,.slice none 0 0,.slice none 0 0]) none [],.mk none (.store 3 (.tmp 8) (.tmp 30)) none [2,1,1,0,1,2]]
def l141r4a:List AOper :=
  [.mk (some 31) (.fld 1 (.tmp 8)) none [],.mk (some 32) (.load false 1 (.tmp 31)) none [0],.mk (some 33) (.mv (.tmp 1)) none [],.mk (some 34) (.fld 1 (.tmp 3)) none [],.mk (some 35) (.load false 1 (.tmp 34)) none [3],.mk (some 36) (.mv (.tmp 1)) none [],.mk (some 37) (.idxA 1 (.tmp 35) (.tmp 36)) none [4,5],.mk (some 38) (.load false 1 (.tmp 37)) none [6],.mk (some 39) (.mv (.tmp 2)) none [],.mk (some 40) (.bin .sub (.tmp 38) (.tmp 39)) none [7,8],.mk (some 41) (.bin .add (.tmp 40) (.const (.int .i64 1))) none [9]]
def l141r4b:List AOper :=
  [.mk (some 42) (.idxA 1 (.tmp 32) (.tmp 33)) none [1,2,0,1,2,3,4,5,6,7,8,9,10],.mk none (.store 1 (.tmp 42) (.tmp 41)) none [11,10,0,1,2,3,4,5,6,7,8,9,10]]
def l141r4:List AOper:=l141r4a ++ l141r4b
def l141r5:List AOper :=
  [.mk (some 43) (.fld 1 (.tmp 8)) none [],.mk (some 44) (.load false 1 (.tmp 43)) none [0],.mk (some 45) (.mv (.tmp 2)) none [],.mk (some 46) (.bslice 1 [.int .i64 0] [(0,.tmp 45)] 1) none [2],.mk (some 47) (.append 1 (.tmp 44) (.tmp 46)) none [1,3],.mk (some 48) (.fld 1 (.tmp 8)) none [0,1,2,3,4],.mk none (.store 1 (.tmp 48) (.tmp 47)) none [5,4,4,0,1,2,3,4]]
def l141r6a:List AOper :=
  [.mk (some 49) (.fld 2 (.tmp 8)) none [],.mk (some 50) (.load false 1 (.tmp 49)) none [0],.mk (some 51) (.fld 2 (.tmp 3)) none [],.mk (some 52) (.load false 1 (.tmp 51)) none [2],.mk (some 53) (.mv (.tmp 1)) none [],.mk (some 54) (.idxA 1 (.tmp 52) (.tmp 53)) none [3,4],.mk (some 55) (.load false 1 (.tmp 54)) none [5],.mk (some 56) (.bslice 1 [.int .i64 0] [(0,.tmp 55)] 1) none [6]]
def l141r6b:List AOper :=
  [.mk (some 57) (.append 1 (.tmp 50) (.tmp 56)) none [1,7],.mk (some 58) (.fld 2 (.tmp 8)) none [0,1,2,3,4,5,6,7,8],.mk none (.store 1 (.tmp 58) (.tmp 57)) none [9,8,8,0,1,2,3,4,5,6,7,8]]
def l141r6:List AOper:=l141r6a ++ l141r6b
def l141r7:List AOper :=
  [.mk (some 59) (.load true 3 (.tmp 8)) none [],.mk (some 60) (.call 48 [.tmp 59]) none [0],.mk (some 61) (.extract (.tmp 60) 0) none [1],.mk (some 62) (.extract (.tmp 60) 1) none [1],.mk none (.store 3 (.tmp 6) (.tmp 61)) none [2,1,0,1,2,3],.mk (some 7) (.mv (.tmp 62)) none [3,4,0,1,2,3,4]]
def l141:AFn :=
  (AFn.mk 63 3 (.seq (.reg l141r0) (.seq (.seq (.reg l141r1) (.cond (.tmp 27) (.seq (.reg l141r2) .ret) .skip)) (.seq (.reg l141r3) (.seq (.draw l141r4) (.seq (.reg l141r5) (.seq (.draw l141r6) (.seq (.reg l141r7) .ret))))))) [.cell 6 true 3,.tmp 7])
theorem l141_eq:lowFn Tryz.prog 141=some l141:=by kernel_rfl
def l142r0:List AOper :=
  [.mk (some 2) (.box (.tmp 0)) none [],.mk (some 4) (.alloc [.int .i64 0,.slice none 0 0,.slice none 0 0]) none [],.mk (some 5) (.mv (.const (.bool false))) none []]
def l142r1:List AOper :=
  [.mk (some 6) (.load true 3 (.tmp 2)) none [],.mk (some 7) (.call 45 [.tmp 6]) none [0],.mk (some 8) (.un .not (.tmp 7)) none [1],.mk (some 9) (.mv (.tmp 8)) none [2,1],.mk (some 10) (.mv (.tmp 1)) (some (9,false)) [3],.mk (some 11) (.fld 1 (.tmp 2)) (some (9,false)) [3],.mk (some 12) (.load false 1 (.tmp 11)) (some (9,false)) [5,3],.mk (some 13) (.len (.tmp 12)) (some (9,false)) [6,3],.mk (some 14) (.call 102 [.tmp 10,.const (.int .i64 0),.tmp 13]) (some (9,false)) [4,7,3,3],.mk (some 15) (.un .not (.tmp 14)) (some (9,false)) [8,3],.mk (some 16) (.pick (.tmp 9) (.const (.bool true)) (.tmp 15)) none [3,9],.mk (some 17) (.mv (.tmp 16)) none [10,8],.mk (some 18) (.fld 1 (.tmp 2)) (some (17,false)) [11],.mk (some 19) (.load false 1 (.tmp 18)) (some (17,false)) [12,11],.mk (some 20) (.len (.tmp 19)) (some (17,false)) [13,11],.mk (some 21) (.bin .eql (.tmp 20) (.const (.int .i64 4))) (some (17,false)) [14,11],.mk (some 22) (.pick (.tmp 17) (.const (.bool true)) (.tmp 21)) none [11,15]]
def l142r2:List AOper :=
  [.mk (some 23) (.build [.int .i64 0,.slice none 0 0,.slice none 0 0] []) none [],.mk none (.store 3 (.tmp 4) (.tmp 23)) none [0,0],.mk (some 5) (.mv (.const (.bool false))) none [1,0,1]]
def l142r3a:List AOper :=
  [.mk (some 24) (.fld 0 (.tmp 2)) none [],.mk (some 25) (.load false 1 (.tmp 24)) none [0],.mk (some 26) (.fld 1 (.tmp 2)) none [],.mk (some 27) (.load false 1 (.tmp 26)) none [2],.mk (some 28) (.mv (.tmp 1)) none [],.mk (some 29) (.call 67 [.tmp 27,.tmp 28,.const (.int .i64 1)]) none [3,4],.mk (some 30) (.fld 2 (.tmp 2)) none [],.mk (some 31) (.load false 1 (.tmp 30)) none [6],.mk (some 32) (.mv (.tmp 1)) none [],.mk (some 33) (.call 67 [.tmp 31,.tmp 32,.const (.int .i64 0)]) none [7,8,5],.mk (some 34) (.build [.int .i64 0,.slice none 0 0,.slice none 0 0] [(0,1,.tmp 25),(1,1,.tmp 29),(2,1,.tmp 33)]) none [1,5,9],.mk (some 35) (.call 48 [.tmp 34]) none [10,9],.mk (some 36) (.extract (.tmp 35) 0) none [11],.mk (some 37) (.extract (.tmp 35) 1) none [11]]
def l142r3b:List AOper :=
  [.mk none (.store 3 (.tmp 4) (.tmp 36)) none [12,11,0,1,2,3,4,5,6,7,8,9,10,11,12,13],.mk (some 5) (.mv (.tmp 37)) none [13,14,0,1,2,3,4,5,6,7,8,9,10,11,12,13,14]]
def l142r3:List AOper:=l142r3a ++ l142r3b
def l142:AFn :=
  (AFn.mk 38 2 (.seq (.reg l142r0) (.seq (.seq (.reg l142r1) (.cond (.tmp 22) (.seq (.reg l142r2) .ret) .skip)) (.seq (.draw l142r3) .ret))) [.cell 4 true 3,.tmp 5])
theorem l142_eq:lowFn Tryz.prog 142=some l142:=by kernel_rfl
def l145r0:List AOper :=
  [.mk (some 4) (.mv (.const (.int .i64 0))) none []]
def l145r1:List AOper :=
  [.mk (some 5) (.mv (.const (.int .i64 0))) none []]
def l145r2:List AOper :=
  [.mk (some 6) (.mv (.tmp 5)) none [],.mk (some 7) (.mv (.tmp 0)) none [],.mk (some 8) (.len (.tmp 7)) none [1],.mk (some 9) (.bin .lss (.tmp 6) (.tmp 8)) none [0,2]]
def l145r3:List AOper :=
  [.mk (some 12) (.mv (.tmp 0)) none [],.mk (some 13) (.mv (.tmp 5)) none [],.mk (some 14) (.idxA 1 (.tmp 12) (.tmp 13)) none [0,1],.mk (some 15) (.load false 1 (.tmp 14)) none [2],.mk (some 16) (.mv (.tmp 1)) none [],.mk (some 17) (.bin .eql (.tmp 15) (.tmp 16)) none [3,4]]
def l145r4:List AOper :=
  [.mk (some 18) (.mv (.tmp 5)) none [],.mk (some 4) (.mv (.tmp 18)) none [0,0]]
def l145r5:List AOper :=
  [.mk (some 10) (.mv (.tmp 5)) none [],.mk (some 11) (.bin .add (.tmp 10) (.const (.int .i64 1))) none [0],.mk (some 5) (.mv (.tmp 11)) none [1,0,1]]
def l145r6:List AOper :=
  [.mk (some 4) (.mv (.const (.int .i64 (-1)))) none []]
def l145:AFn :=
  (AFn.mk 19 2 (.seq (.reg l145r0) (.seq (.seq (.reg l145r1) (.block 0 (.loop (.seq (.seq (.reg l145r2) (.cond (.tmp 9) .skip (.exit 0))) (.seq (.block 1 (.seq (.reg l145r3) (.cond (.tmp 17) (.seq (.reg l145r4) .ret) .skip))) (.reg l145r5)))))) (.seq (.reg l145r6) .ret))) [.tmp 4])
theorem l145_eq:lowFn Tryz.prog 145=some l145:=by kernel_rfl
def l152r0:List AOper :=
  [.mk (some 2) (.mv (.const (.slice none 0 0))) none []]
def l152r1:List AOper :=
  [.mk (some 6) (.mv (.tmp 0)) none [],.mk (some 7) (.len (.tmp 6)) none [0],.mk (some 8) (.mkslice 1 [.int .i64 0] (.tmp 7) (.tmp 7)) none [1,1],.mk (some 3) (.mv (.tmp 8)) none [2,0,1,2]]
def l152r2:List AOper :=
  [.mk (some 4) (.mv (.const (.int .i64 1))) none []]
def l152r3:List AOper :=
  [.mk (some 9) (.mv (.tmp 0)) none [],.mk (some 10) (.len (.tmp 9)) none [0],.mk (some 11) (.bin .sub (.tmp 10) (.const (.int .i64 1))) none [1],.mk (some 5) (.mv (.tmp 11)) none [2,0,1,2]]
def l152r4:List AOper :=
  [.mk (some 12) (.mv (.tmp 5)) none [],.mk (some 13) (.bin .geq (.tmp 12) (.const (.int .i64 0))) none [0]]
def l152r5:List AOper :=
  [.mk (some 16) (.mv (.tmp 3)) none [],.mk (some 17) (.mv (.tmp 5)) none [],.mk (some 18) (.mv (.tmp 4)) none [],.mk (some 19) (.idxA 1 (.tmp 16) (.tmp 17)) none [0,1,0,1,2],.mk none (.store 1 (.tmp 19) (.tmp 18)) none [3,2,0,1,2]]
def l152r6:List AOper :=
  [.mk (some 20) (.mv (.tmp 4)) none [],.mk (some 21) (.mv (.tmp 0)) none [],.mk (some 22) (.mv (.tmp 5)) none [],.mk (some 23) (.idxA 1 (.tmp 21) (.tmp 22)) none [1,2],.mk (some 24) (.load false 1 (.tmp 23)) none [3],.mk (some 25) (.bin .mul (.tmp 20) (.tmp 24)) none [0,4],.mk (some 4) (.mv (.tmp 25)) none [5,0,1,2,3,4,5]]
def l152r7:List AOper :=
  [.mk (some 14) (.mv (.tmp 5)) none [],.mk (some 15) (.bin .sub (.tmp 14) (.const (.int .i64 1))) none [0],.mk (some 5) (.mv (.tmp 15)) none [1,0,1]]
def l152r8:List AOper :=
  [.mk (some 26) (.mv (.tmp 3)) none [],.mk (some 2) (.mv (.tmp 26)) none [0,0]]
def l152:AFn :=
  (AFn.mk 27 1 (.seq (.reg l152r0) (.seq (.reg l152r1) (.seq (.reg l152r2) (.seq (.seq (.reg l152r3) (.block 0 (.loop (.seq (.seq (.reg l152r4) (.cond (.tmp 13) .skip (.exit 0))) (.seq (.block 1 (.seq (.reg l152r5) (.reg l152r6))) (.reg l152r7)))))) (.seq (.reg l152r8) .ret))))) [.tmp 2])
theorem l152_eq:lowFn Tryz.prog 152=some l152:=by kernel_rfl
def l153r0:List AOper :=
  [.mk (some 4) (.mv (.const (.bool false))) none []]
def l153r1:List AOper :=
  [.mk (some 5) (.mv (.tmp 0)) none [],.mk (some 6) (.len (.tmp 5)) none [0],.mk (some 7) (.mv (.tmp 1)) none [],.mk (some 8) (.bin .eql (.tmp 6) (.tmp 7)) none [1,2],.mk (some 9) (.mv (.tmp 8)) none [3],.mk (some 10) (.mv (.tmp 0)) (some (9,true)) [4],.mk (some 11) (.mv (.tmp 1)) (some (9,true)) [4],.mk (some 12) (.bin .sub (.tmp 11) (.const (.int .i64 1))) (some (9,true)) [6,4],.mk (some 13) (.call 101 [.tmp 10,.const (.int .i64 0),.tmp 12]) (some (9,true)) [5,7,4,4],.mk (some 14) (.pick (.tmp 9) (.tmp 13) (.const (.bool false))) none [4,8],.mk (some 15) (.mv (.tmp 14)) none [9,8],.mk (some 16) (.mv (.tmp 0)) (some (15,true)) [10],.mk (some 17) (.call 166 [.tmp 16]) (some (15,true)) [11,10,10],.mk (some 18) (.pick (.tmp 15) (.tmp 17) (.const (.bool false))) none [10,12],.mk (some 4) (.mv (.tmp 18)) none [13,12,0,1,2,3,4,5,6,7,8,9,10,11,12,13]]
def l153:AFn :=
  (AFn.mk 19 2 (.seq (.reg l153r0) (.seq (.reg l153r1) .ret)) [.tmp 4])
theorem l153_eq:lowFn Tryz.prog 153=some l153:=by kernel_rfl
def l154r0:List AOper :=
  [.mk (some 2) (.box (.tmp 0)) none [],.mk (some 4) (.alloc [.int .i64 0,.slice none 0 0,.slice none 0 0]) none []]
def l154r1:List AOper :=
  [.mk (some 7) (.fld 0 (.tmp 2)) none [],.mk (some 8) (.load false 1 (.tmp 7)) none [0],.mk (some 9) (.build [.int .i64 0,.slice none 0 0,.slice none 0 0] [(0,1,.tmp 8)]) none [1],.mk (some 5) (.alloc [.int .i64 0,.slice none 0 0,.slice none 0 0]) none [],.mk none (.store 3 (.tmp 5) (.tmp 9)) none [3,2,0,1,2,3]]
def l154r2:List AOper :=
  [.mk (some 6) (.mv (.const (.int .i64 0))) none []]
def l154r3:List AOper :=
  [.mk (some 10) (.mv (.tmp 6)) none [],.mk (some 11) (.mv (.tmp 1)) none [],.mk (some 12) (.len (.tmp 11)) none [1],.mk (some 13) (.bin .lss (.tmp 10) (.tmp 12)) none [0,2]]
def l154r4a:List AOper :=
  [.mk (some 16) (.fld 1 (.tmp 5)) none [],.mk (some 17) (.load false 1 (.tmp 16)) none [0],.mk (some 18) (.fld 1 (.tmp 2)) none [],.mk (some 19) (.load false 1 (.tmp 18)) none [2],.mk (some 20) (.mv (.tmp 1)) none [],.mk (some 21) (.mv (.tmp 6)) none [],.mk (some 22) (.idxA 1 (.tmp 20) (.tmp 21)) none [4,5],.mk (some 23) (.load false 1 (.tmp 22)) none [6],.mk (some 24) (.idxA 1 (.tmp 19) (.tmp 23)) none [3,7],.mk (some 25) (.load false 1 (.tmp 24)) none [8],.mk (some 26) (.bslice 1 [.int .i64 0] [(0,.tmp 25)] 1) none [9]]
def l154r4b:List AOper :=
  [.mk (some 27) (.append 1 (.tmp 17) (.tmp 26)) none [1,10],.mk (some 28) (.fld 1 (.tmp 5)) none [0,1,2,3,4,5,6,7,8,9,10,11],.mk none (.store 1 (.tmp 28) (.tmp 27)) none [12,11,11,0,1,2,3,4,5,6,7,8,9,10,11]]
def l154r4:List AOper:=l154r4a ++ l154r4b
def l154r5a:List AOper :=
  [.mk (some 29) (.fld 2 (.tmp 5)) none [],.mk (some 30) (.load false 1 (.tmp 29)) none [0],.mk (some 31) (.fld 2 (.tmp 2)) none [],.mk (some 32) (.load false 1 (.tmp 31)) none [2],.mk (some 33) (.mv (.tmp 1)) none [],.mk (some 34) (.mv (.tmp 6)) none [],.mk (some 35) (.idxA 1 (.tmp 33) (.tmp 34)) none [4,5],.mk (some 36) (.load false 1 (.tmp 35)) none [6],.mk (some 37) (.idxA 1 (.tmp 32) (.tmp 36)) none [3,7],.mk (some 38) (.load false 1 (.tmp 37)) none [8],.mk (some 39) (.bslice 1 [.int .i64 0] [(0,.tmp 38)] 1) none [9]]
def l154r5b:List AOper :=
  [.mk (some 40) (.append 1 (.tmp 30) (.tmp 39)) none [1,10],.mk (some 41) (.fld 2 (.tmp 5)) none [0,1,2,3,4,5,6,7,8,9,10,11],.mk none (.store 1 (.tmp 41) (.tmp 40)) none [12,11,11,0,1,2,3,4,5,6,7,8,9,10,11]]
def l154r5:List AOper:=l154r5a ++ l154r5b
def l154r6:List AOper :=
  [.mk (some 14) (.mv (.tmp 6)) none [],.mk (some 15) (.bin .add (.tmp 14) (.const (.int .i64 1))) none [0],.mk (some 6) (.mv (.tmp 15)) none [1,0,1]]
def l154r7:List AOper :=
  [.mk (some 42) (.load true 3 (.tmp 5)) none [],.mk none (.store 3 (.tmp 4) (.tmp 42)) none [0,0]]
def l154:AFn :=
  (AFn.mk 43 2 (.seq (.reg l154r0) (.seq (.reg l154r1) (.seq (.seq (.reg l154r2) (.block 0 (.loop (.seq (.seq (.reg l154r3) (.cond (.tmp 13) .skip (.exit 0))) (.seq (.block 1 (.seq (.draw l154r4) (.draw l154r5))) (.reg l154r6)))))) (.seq (.reg l154r7) .ret)))) [.cell 4 true 3])
theorem l154_eq:lowFn Tryz.prog 154=some l154:=by kernel_rfl
def l166r0:List AOper :=
  [.mk (some 2) (.mv (.const (.bool false))) none []]
def l166r1:List AOper :=
  [.mk (some 3) (.mv (.const (.int .i64 0))) none []]
def l166r2:List AOper :=
  [.mk (some 4) (.mv (.tmp 3)) none [],.mk (some 5) (.mv (.tmp 0)) none [],.mk (some 6) (.len (.tmp 5)) none [1],.mk (some 7) (.bin .lss (.tmp 4) (.tmp 6)) none [0,2]]
def l166r3a:List AOper :=
  [.mk (some 10) (.mv (.tmp 0)) none [],.mk (some 11) (.mv (.tmp 3)) none [],.mk (some 12) (.slice 1 (.tmp 10) none (some (.tmp 11))) none [0,1],.mk (some 13) (.mv (.tmp 0)) none [],.mk (some 14) (.mv (.tmp 3)) none [],.mk (some 15) (.idxA 1 (.tmp 13) (.tmp 14)) none [3,4],.mk (some 16) (.load false 1 (.tmp 15)) none [5]]
def l166r3b:List AOper :=
  [.mk (some 17) (.call 145 [.tmp 12,.tmp 16]) none [2,6],.mk (some 18) (.bin .geq (.tmp 17) (.const (.int .i64 0))) none [7]]
def l166r3:List AOper:=l166r3a ++ l166r3b
def l166r4:List AOper :=
  [.mk (some 2) (.mv (.const (.bool false))) none []]
def l166r5:List AOper :=
  [.mk (some 8) (.mv (.tmp 3)) none [],.mk (some 9) (.bin .add (.tmp 8) (.const (.int .i64 1))) none [0],.mk (some 3) (.mv (.tmp 9)) none [1,0,1]]
def l166r6:List AOper :=
  [.mk (some 2) (.mv (.const (.bool true))) none []]
def l166:AFn :=
  (AFn.mk 19 1 (.seq (.reg l166r0) (.seq (.seq (.reg l166r1) (.block 0 (.loop (.seq (.seq (.reg l166r2) (.cond (.tmp 7) .skip (.exit 0))) (.seq (.block 1 (.seq (.draw l166r3) (.cond (.tmp 18) (.seq (.reg l166r4) .ret) .skip))) (.reg l166r5)))))) (.seq (.reg l166r6) .ret))) [.tmp 2])
theorem l166_eq:lowFn Tryz.prog 166=some l166:=by kernel_rfl
end Go.Proofs.YtfphjgmkpgoomaaGreat
