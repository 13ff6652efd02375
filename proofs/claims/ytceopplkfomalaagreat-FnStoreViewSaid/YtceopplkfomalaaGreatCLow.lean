import Derived.Test.YtceopplkfomalaaGreatCW3
import Derived.Test.YtceopplkfomalaaGreatProg
import Derived.KernelRfl
set_option maxRecDepth 100000
namespace Go.Proofs.YtceopplkfomalaaGreat
open Vw Go
instance globs:Inhabited GlobT:=⟨⟨[]⟩⟩
attribute [push_cast] Bool.false_eq_true List.length_replicate
attribute [bitvec_to_nat] decide_eq_true_eq decide_eq_false_iff_not Bool.not_eq_true' Bool.not_eq_false' Bool.and_eq_true Bool.or_eq_true Bool.and_eq_false_iff Bool.or_eq_false_iff Int.not_le Int.not_lt bne_iff_ne ne_eq beq_iff_eq Bool.not_eq_true Bool.not_eq_false
theorem sd {P:Prop} (h:P:=by first|assumption|rfl|omega|(simp<;>omega)|(simp_all<;>omega)):P:=h
def l3r0:List AOper :=
  [.mk (some 2) (.mv (.const (.bool false))) none []]
def l3r1:List AOper :=
  [.mk (some 11) (.mv (.tmp 0)) none [],.mk (some 12) (.len (.tmp 11)) none [0],.mk (some 13) (.bin .gtr (.tmp 12) (.const (.int .i64 1048576))) none [1]]
def l3r2:List AOper :=
  [.mk (some 2) (.mv (.const (.bool true))) none []]
def l3r3:List AOper :=
  [.mk (some 15) (.mv (.tmp 0)) none [],.mk (some 16) (.call 6 [.tmp 15]) none [0],.mk (some 14) (.mv (.tmp 16)) none [1],.mk (some 17) (.extract (.tmp 14) 0) none [2],.mk (some 18) (.extract (.tmp 14) 1) none [2],.mk (some 19) (.extract (.tmp 14) 2) none [2],.mk (some 4) (.alloc [.int .i64 0,.slice none 0 0,.slice none 0 0]) none [],.mk (some 3) (.mv (.tmp 17)) none [3,1,0,1,2,3,6],.mk none (.store 3 (.tmp 4) (.tmp 18)) none [6,4,7,0,1,2,3,4,6,7],.mk (some 5) (.mv (.tmp 19)) none [5,8,0,1,2,3,4,5,6,7,8]]
def l3r4:List AOper :=
  [.mk (some 21) (.mv (.tmp 3)) none [],.mk (some 22) (.load true 3 (.tmp 4)) none [],.mk (some 23) (.mv (.tmp 5)) none [],.mk (some 24) (.call 7 [.tmp 21,.tmp 22,.tmp 23]) none [0,1,2],.mk (some 20) (.mv (.tmp 24)) none [3],.mk (some 25) (.extract (.tmp 20) 0) none [4],.mk (some 26) (.extract (.tmp 20) 1) none [4],.mk (some 6) (.mv (.tmp 25)) none [5,3,0,1,2,3,4,5],.mk (some 7) (.mv (.tmp 26)) none [6,7,0,1,2,3,4,5,6,7]]
def l3r5:List AOper :=
  [.mk (some 28) (.mv (.tmp 3)) none [],.mk (some 29) (.load true 3 (.tmp 4)) none [],.mk (some 30) (.mv (.tmp 5)) none [],.mk (some 31) (.call 8 [.tmp 28,.tmp 29,.tmp 30]) none [0,1,2],.mk (some 27) (.mv (.tmp 31)) none [3],.mk (some 32) (.extract (.tmp 27) 0) none [4],.mk (some 33) (.extract (.tmp 27) 1) none [4],.mk (some 8) (.mv (.tmp 32)) none [5,3,0,1,2,3,4,5],.mk (some 9) (.mv (.tmp 33)) none [6,7,0,1,2,3,4,5,6,7]]
def l3r6:List AOper :=
  [.mk (some 34) (.mv (.tmp 6)) none [],.mk (some 35) (.mv (.tmp 8)) none [],.mk (some 36) (.call 9 [.tmp 34,.tmp 35]) none [0,1],.mk (some 37) (.un .not (.tmp 36)) none [2],.mk (some 38) (.mv (.tmp 37)) none [3,2],.mk (some 39) (.mv (.tmp 7)) (some (38,false)) [4],.mk (some 40) (.mv (.tmp 9)) (some (38,false)) [4],.mk (some 41) (.binB .neq (.tmp 39) (.tmp 40)) (some (38,false)) [5,6,4],.mk (some 42) (.pick (.tmp 38) (.const (.bool true)) (.tmp 41)) none [4,7],.mk (some 43) (.mv (.tmp 42)) none [8,4],.mk (some 44) (.mv (.tmp 7)) (some (43,false)) [9],.mk (some 45) (.un .not (.tmp 44)) (some (43,false)) [10,9],.mk (some 46) (.pick (.tmp 43) (.const (.bool true)) (.tmp 45)) none [9,11]]
def l3r7:List AOper :=
  [.mk (some 47) (.mv (.tmp 6)) none [],.mk (some 48) (.mv (.tmp 8)) none [],.mk (some 49) (.call 9 [.tmp 47,.tmp 48]) none [0,1],.mk (some 50) (.mv (.tmp 49)) none [2,2],.mk (some 51) (.mv (.tmp 7)) (some (50,true)) [3],.mk (some 52) (.mv (.tmp 9)) (some (50,true)) [3],.mk (some 53) (.binB .eql (.tmp 51) (.tmp 52)) (some (50,true)) [4,5,3],.mk (some 54) (.pick (.tmp 50) (.tmp 53) (.const (.bool false))) none [3,6],.mk (some 2) (.mv (.tmp 54)) none [7,3,0,1,2,3,4,5,6,7]]
def l3r8:List AOper :=
  [.mk (some 55) (.mv (.tmp 6)) none [],.mk (some 56) (.load true 3 (.tmp 4)) none [],.mk (some 57) (.call 10 [.tmp 55,.tmp 56]) none [0,1],.mk (some 10) (.mv (.tmp 57)) none [2,2,0,1,2]]
def l3r9a:List AOper :=
  [.mk (some 58) (.mv (.tmp 3)) none [],.mk (some 59) (.mv (.tmp 6)) none [],.mk (some 60) (.call 12 [.tmp 58,.tmp 59]) none [0,1],.mk (some 61) (.load true 3 (.tmp 4)) none [],.mk (some 62) (.call 13 [.tmp 61]) none [3,2],.mk (some 63) (.call 11 [.tmp 60,.tmp 62]) none [2,4,4],.mk (some 64) (.mv (.tmp 63)) none [5,5],.mk (some 65) (.load true 3 (.tmp 4)) (some (64,true)) [6],.mk (some 66) (.call 14 [.tmp 65]) (some (64,true)) [7,6,6],.mk (some 67) (.un .not (.tmp 66)) (some (64,true)) [8,6],.mk (some 68) (.mv (.tmp 67)) (some (64,true)) [9,8,6],.mk (some 69) (.mv (.tmp 10)) (some (68,false)) [10],.mk (some 70) (.mv (.tmp 5)) (some (68,false)) [10],.mk (some 71) (.call 9 [.tmp 69,.tmp 70]) (some (68,false)) [11,12,10,10],.mk (some 72) (.pick (.tmp 68) (.const (.bool true)) (.tmp 71)) (some (64,true)) [10,13,6],.mk (some 73) (.pick (.tmp 64) (.tmp 72) (.const (.bool false))) none [6,14],.mk (some 74) (.mv (.tmp 73)) none [15,13],.mk (some 75) (.mv (.tmp 6)) (some (74,true)) [16],.mk (some 76) (.len (.tmp 75)) (some (74,true)) [17,16],.mk (some 77) (.mv (.tmp 3)) (some (74,true)) [16],.mk (some 78) (.len (.tmp 77)) (some (74,true)) [19,16]]
def l3r9b:List AOper :=
  [.mk (some 79) (.bin .eql (.tmp 76) (.tmp 78)) (some (74,true)) [18,20,16],.mk (some 80) (.pick (.tmp 74) (.tmp 79) (.const (.bool false))) none [16,21],.mk (some 2) (.mv (.tmp 80)) none [22,16,0,1,2,3,4,5,6,7,8,9,10,11,12,13,14,15,16,17,18,19,20,21,22]]
def l3r9:List AOper:=l3r9a ++ l3r9b
def l3:AFn :=
  (AFn.mk 81 1 (.seq (.reg l3r0) (.seq (.seq (.reg l3r1) (.cond (.tmp 13) (.seq (.reg l3r2) .ret) .skip)) (.seq (.reg l3r3) (.seq (.reg l3r4) (.seq (.reg l3r5) (.seq (.seq (.reg l3r6) (.cond (.tmp 46) (.seq (.reg l3r7) .ret) .skip)) (.seq (.reg l3r8) (.seq (.draw l3r9) .ret)))))))) [.tmp 2])
theorem l3_eq:lowFn Tryz.prog 3=some l3:=by kernel_rfl
def l6r0:List AOper :=
  [.mk (some 2) (.mv (.const (.slice none 0 0))) none [],.mk (some 3) (.alloc [.int .i64 0,.slice none 0 0,.slice none 0 0]) none [],.mk (some 4) (.mv (.const (.slice none 0 0))) none [0]]
def l6r1:List AOper :=
  [.mk (some 8) (.mv (.tmp 0)) none [],.mk (some 9) (.call 21 [.tmp 8]) none [0],.mk (some 5) (.mv (.tmp 9)) none [1,1,0,1]]
def l6r2:List AOper :=
  [.mk (some 11) (.mv (.tmp 5)) none [],.mk (some 12) (.call 22 [.tmp 11]) none [0],.mk (some 10) (.mv (.tmp 12)) none [1],.mk (some 13) (.extract (.tmp 10) 0) none [2],.mk (some 14) (.extract (.tmp 10) 1) none [2],.mk (some 7) (.alloc [.int .i64 0,.slice none 0 0,.slice none 0 0]) none [],.mk (some 6) (.mv (.tmp 13)) none [3,1,0,1,2,3,5],.mk none (.store 3 (.tmp 7) (.tmp 14)) none [5,4,6,0,1,2,3,4,5,6]]
def l6r3a:List AOper :=
  [.mk (some 15) (.mv (.tmp 6)) none [],.mk (some 16) (.load true 3 (.tmp 7)) none [],.mk (some 17) (.mv (.tmp 5)) none [],.mk (some 18) (.load true 3 (.tmp 7)) none [],.mk (some 19) (.call 23 [.tmp 17,.tmp 18]) none [2,3],.mk (some 2) (.mv (.tmp 15)) none [0,4,0]]
def l6r3b:List AOper :=
  [.mk none (.store 3 (.tmp 3) (.tmp 16)) none [1,5,0,1,5],.mk (some 4) (.mv (.tmp 19)) none [4,6,0,1,2,3,4,5,6]]
def l6r3:List AOper:=l6r3a ++ l6r3b
def l6:AFn :=
  (AFn.mk 20 1 (.seq (.reg l6r0) (.seq (.reg l6r1) (.seq (.reg l6r2) (.seq (.draw l6r3) .ret)))) [.tmp 2,.cell 3 true 3,.tmp 4])
theorem l6_eq:lowFn Tryz.prog 6=some l6:=by kernel_rfl
def l7r0:List AOper :=
  [.mk (some 4) (.box (.tmp 1)) none [],.mk (some 6) (.mv (.const (.slice none 0 0))) none [],.mk (some 7) (.mv (.const (.bool false))) none [1]]
def l7r1:List AOper :=
  [.mk (some 8) (.mv (.tmp 0)) none [],.mk (some 9) (.load true 3 (.tmp 4)) none [],.mk (some 10) (.mv (.tmp 2)) none [],.mk (some 11) (.call 24 [.tmp 8,.tmp 9,.tmp 10]) none [0,1,2],.mk (some 12) (.un .not (.tmp 11)) none [3]]
def l7r2:List AOper :=
  [.mk (some 6) (.mv (.const (.slice none 0 0))) none [],.mk (some 7) (.mv (.const (.bool false))) none [0,0]]
def l7r3:List AOper :=
  [.mk (some 13) (.mv (.tmp 0)) none [],.mk (some 14) (.load true 3 (.tmp 4)) none [],.mk (some 15) (.mv (.tmp 2)) none [],.mk (some 16) (.call 25 [.tmp 13,.tmp 14,.tmp 15]) none [0,1,2],.mk (some 6) (.mv (.tmp 16)) none [3,3,0,1,2,3],.mk (some 7) (.mv (.const (.bool true))) none [4,0,1,2,3,4]]
def l7:AFn :=
  (AFn.mk 17 3 (.seq (.reg l7r0) (.seq (.seq (.reg l7r1) (.cond (.tmp 12) (.seq (.reg l7r2) .ret) .skip)) (.seq (.reg l7r3) .ret))) [.tmp 6,.tmp 7])
theorem l7_eq:lowFn Tryz.prog 7=some l7:=by kernel_rfl
def l8r0:List AOper :=
  [.mk (some 4) (.box (.tmp 1)) none [],.mk (some 6) (.mv (.const (.slice none 0 0))) none [],.mk (some 7) (.mv (.const (.bool false))) none [1]]
def l8r1:List AOper :=
  [.mk (some 8) (.mv (.tmp 0)) none [],.mk (some 9) (.load true 3 (.tmp 4)) none [],.mk (some 10) (.call 26 [.tmp 8,.tmp 9]) none [0,1],.mk (some 11) (.un .not (.tmp 10)) none [2],.mk (some 12) (.mv (.tmp 11)) none [3,2],.mk (some 13) (.mv (.tmp 2)) (some (12,false)) [4],.mk (some 14) (.len (.tmp 13)) (some (12,false)) [5,4],.mk (some 15) (.fld 1 (.tmp 4)) (some (12,false)) [4],.mk (some 16) (.load false 1 (.tmp 15)) (some (12,false)) [7,4],.mk (some 17) (.call 27 [.tmp 16]) (some (12,false)) [8,4,4],.mk (some 18) (.bin .neq (.tmp 14) (.tmp 17)) (some (12,false)) [6,9,4],.mk (some 19) (.pick (.tmp 12) (.const (.bool true)) (.tmp 18)) none [4,10],.mk (some 20) (.mv (.tmp 19)) none [11,9],.mk (some 21) (.mv (.tmp 2)) (some (20,false)) [12],.mk (some 22) (.call 28 [.tmp 21,.const (.int .i64 0),.const (.int .i64 255)]) (some (20,false)) [13,12,12],.mk (some 23) (.un .not (.tmp 22)) (some (20,false)) [14,12],.mk (some 24) (.pick (.tmp 20) (.const (.bool true)) (.tmp 23)) none [12,15]]
def l8r2:List AOper :=
  [.mk (some 6) (.mv (.const (.slice none 0 0))) none [],.mk (some 7) (.mv (.const (.bool false))) none [0,0]]
def l8r3:List AOper :=
  [.mk (some 25) (.mv (.tmp 0)) none [],.mk (some 26) (.load true 3 (.tmp 4)) none [],.mk (some 27) (.mv (.tmp 2)) none [],.mk (some 28) (.call 29 [.tmp 25,.tmp 26,.tmp 27]) none [0,1,2],.mk (some 6) (.mv (.tmp 28)) none [3,3,0,1,2,3],.mk (some 7) (.mv (.const (.bool true))) none [4,0,1,2,3,4]]
def l8:AFn :=
  (AFn.mk 29 3 (.seq (.reg l8r0) (.seq (.seq (.reg l8r1) (.cond (.tmp 24) (.seq (.reg l8r2) .ret) .skip)) (.seq (.reg l8r3) .ret))) [.tmp 6,.tmp 7])
theorem l8_eq:lowFn Tryz.prog 8=some l8:=by kernel_rfl
def l9r0:List AOper :=
  [.mk (some 4) (.mv (.const (.bool false))) none []]
def l9r1:List AOper :=
  [.mk (some 6) (.mv (.tmp 0)) none [],.mk (some 7) (.len (.tmp 6)) none [0],.mk (some 8) (.mv (.tmp 1)) none [],.mk (some 9) (.len (.tmp 8)) none [2],.mk (some 10) (.bin .neq (.tmp 7) (.tmp 9)) none [1,3]]
def l9r2:List AOper :=
  [.mk (some 4) (.mv (.const (.bool false))) none []]
def l9r3:List AOper :=
  [.mk (some 5) (.mv (.const (.int .i64 0))) none []]
def l9r4:List AOper :=
  [.mk (some 11) (.mv (.tmp 5)) none [],.mk (some 12) (.mv (.tmp 0)) none [],.mk (some 13) (.len (.tmp 12)) none [1],.mk (some 14) (.bin .lss (.tmp 11) (.tmp 13)) none [0,2]]
def l9r5a:List AOper :=
  [.mk (some 17) (.mv (.tmp 0)) none [],.mk (some 18) (.mv (.tmp 5)) none [],.mk (some 19) (.idxA 1 (.tmp 17) (.tmp 18)) none [0,1],.mk (some 20) (.load false 1 (.tmp 19)) none [2],.mk (some 21) (.mv (.tmp 1)) none [],.mk (some 22) (.mv (.tmp 5)) none [],.mk (some 23) (.idxA 1 (.tmp 21) (.tmp 22)) none [4,5],.mk (some 24) (.load false 1 (.tmp 23)) none [6]]
def l9r5b:List AOper :=
  [.mk (some 25) (.bin .neq (.tmp 20) (.tmp 24)) none [3,7]]
def l9r5:List AOper:=l9r5a ++ l9r5b
def l9r6:List AOper :=
  [.mk (some 4) (.mv (.const (.bool false))) none []]
def l9r7:List AOper :=
  [.mk (some 15) (.mv (.tmp 5)) none [],.mk (some 16) (.bin .add (.tmp 15) (.const (.int .i64 1))) none [0],.mk (some 5) (.mv (.tmp 16)) none [1,0,1]]
def l9r8:List AOper :=
  [.mk (some 4) (.mv (.const (.bool true))) none []]
def l9:AFn :=
  (AFn.mk 26 2 (.seq (.reg l9r0) (.seq (.seq (.reg l9r1) (.cond (.tmp 10) (.seq (.reg l9r2) .ret) .skip)) (.seq (.seq (.reg l9r3) (.block 0 (.loop (.seq (.seq (.reg l9r4) (.cond (.tmp 14) .skip (.exit 0))) (.seq (.block 1 (.seq (.draw l9r5) (.cond (.tmp 25) (.seq (.reg l9r6) .ret) .skip))) (.reg l9r7)))))) (.seq (.reg l9r8) .ret)))) [.tmp 4])
theorem l9_eq:lowFn Tryz.prog 9=some l9:=by kernel_rfl
def l10r0:List AOper :=
  [.mk (some 3) (.box (.tmp 1)) none [],.mk (some 4) (.mv (.const (.slice none 0 0))) none []]
def l10r1:List AOper :=
  [.mk (some 5) (.mv (.tmp 0)) none [],.mk (some 6) (.load true 3 (.tmp 3)) none [],.mk (some 7) (.call 30 [.tmp 5,.tmp 6]) none [0,1],.mk (some 8) (.un .not (.tmp 7)) none [2]]
def l10r2:List AOper :=
  [.mk (some 4) (.mv (.const (.slice none 0 0))) none []]
def l10r3:List AOper :=
  [.mk (some 9) (.mv (.tmp 0)) none [],.mk (some 10) (.load true 3 (.tmp 3)) none [],.mk (some 11) (.call 31 [.tmp 9,.tmp 10]) none [0,1],.mk (some 4) (.mv (.tmp 11)) none [2,2,0,1,2]]
def l10:AFn :=
  (AFn.mk 12 2 (.seq (.reg l10r0) (.seq (.seq (.reg l10r1) (.cond (.tmp 8) (.seq (.reg l10r2) .ret) .skip)) (.seq (.reg l10r3) .ret))) [.tmp 4])
theorem l10_eq:lowFn Tryz.prog 10=some l10:=by kernel_rfl
def l11r0:List AOper :=
  [.mk (some 4) (.mv (.const (.bool false))) none []]
def l11r1:List AOper :=
  [.mk (some 5) (.mv (.const (.int .i64 0))) none []]
def l11r2:List AOper :=
  [.mk (some 6) (.mv (.tmp 5)) none [],.mk (some 7) (.mv (.tmp 0)) none [],.mk (some 8) (.len (.tmp 7)) none [1],.mk (some 9) (.bin .lss (.tmp 6) (.tmp 8)) none [0,2]]
def l11r3:List AOper :=
  [.mk (some 12) (.mv (.tmp 1)) none [],.mk (some 13) (.mv (.tmp 0)) none [],.mk (some 14) (.mv (.tmp 5)) none [],.mk (some 15) (.idxA 1 (.tmp 13) (.tmp 14)) none [1,2],.mk (some 16) (.load false 1 (.tmp 15)) none [3],.mk (some 17) (.call 32 [.tmp 12,.tmp 16]) none [0,4],.mk (some 18) (.un .not (.tmp 17)) none [5]]
def l11r4:List AOper :=
  [.mk (some 4) (.mv (.const (.bool false))) none []]
def l11r5:List AOper :=
  [.mk (some 10) (.mv (.tmp 5)) none [],.mk (some 11) (.bin .add (.tmp 10) (.const (.int .i64 1))) none [0],.mk (some 5) (.mv (.tmp 11)) none [1,0,1]]
def l11r6:List AOper :=
  [.mk (some 4) (.mv (.const (.bool true))) none []]
def l11:AFn :=
  (AFn.mk 19 2 (.seq (.reg l11r0) (.seq (.seq (.reg l11r1) (.block 0 (.loop (.seq (.seq (.reg l11r2) (.cond (.tmp 9) .skip (.exit 0))) (.seq (.block 1 (.seq (.reg l11r3) (.cond (.tmp 18) (.seq (.reg l11r4) .ret) .skip))) (.reg l11r5)))))) (.seq (.reg l11r6) .ret))) [.tmp 4])
theorem l11_eq:lowFn Tryz.prog 11=some l11:=by kernel_rfl
def l12r0:List AOper :=
  [.mk (some 4) (.mv (.const (.slice none 0 0))) none []]
def l12r1:List AOper :=
  [.mk (some 8) (.mv (.tmp 0)) none [],.mk (some 9) (.call 33 [.tmp 8]) none [0],.mk (some 10) (.un .not (.tmp 9)) none [1],.mk (some 11) (.mv (.tmp 10)) none [2,1],.mk (some 12) (.mv (.tmp 1)) (some (11,false)) [3],.mk (some 13) (.call 33 [.tmp 12]) (some (11,false)) [4,3,3],.mk (some 14) (.un .not (.tmp 13)) (some (11,false)) [5,3],.mk (some 15) (.pick (.tmp 11) (.const (.bool true)) (.tmp 14)) none [3,6],.mk (some 16) (.mv (.tmp 15)) none [7,5],.mk (some 17) (.mv (.tmp 0)) (some (16,false)) [8],.mk (some 18) (.len (.tmp 17)) (some (16,false)) [9,8],.mk (some 19) (.mv (.tmp 1)) (some (16,false)) [8],.mk (some 20) (.len (.tmp 19)) (some (16,false)) [11,8],.mk (some 21) (.bin .neq (.tmp 18) (.tmp 20)) (some (16,false)) [10,12,8],.mk (some 22) (.pick (.tmp 16) (.const (.bool true)) (.tmp 21)) none [8,13]]
def l12r2:List AOper :=
  [.mk (some 4) (.mv (.const (.slice none 0 0))) none []]
def l12r3:List AOper :=
  [.mk (some 5) (.mv (.const (.slice none 0 0))) none []]
def l12r4:List AOper :=
  [.mk (some 23) (.mv (.tmp 0)) none [],.mk (some 24) (.len (.tmp 23)) none [0],.mk (some 25) (.mv (.const (.int .i64 0))) none []]
def l12r5:List AOper :=
  [.mk (some 26) (.bin .lss (.tmp 25) (.tmp 24)) none []]
def l12r6:List AOper :=
  [.mk (some 27) (.mv (.tmp 25)) none [],.mk (some 28) (.idxA 1 (.tmp 23) (.tmp 25)) none [],.mk (some 29) (.load false 1 (.tmp 28)) none [1],.mk (some 6) (.mv (.tmp 27)) none [0,0,1,2],.mk (some 7) (.mv (.tmp 29)) none [2,3,0,1,2,3]]
def l12r7:List AOper :=
  [.mk (some 30) (.mv (.tmp 7)) none [],.mk (some 31) (.mv (.tmp 1)) none [],.mk (some 32) (.mv (.tmp 6)) none [],.mk (some 33) (.idxA 1 (.tmp 31) (.tmp 32)) none [1,2],.mk (some 34) (.load false 1 (.tmp 33)) none [3],.mk (some 35) (.bin .neq (.tmp 30) (.tmp 34)) none [0,4]]
def l12r8:List AOper :=
  [.mk (some 36) (.mv (.tmp 5)) none [],.mk (some 37) (.mv (.tmp 6)) none [],.mk (some 38) (.bslice 1 [.int .i64 0] [(0,.tmp 37)] 1) none [1],.mk (some 39) (.append 1 (.tmp 36) (.tmp 38)) none [0,2],.mk (some 5) (.mv (.tmp 39)) none [3,3,0,1,2,3]]
def l12r9:List AOper :=
  [.mk (some 40) (.bin .add (.tmp 25) (.const (.int .i64 1))) none [],.mk (some 25) (.mv (.tmp 40)) none [0]]
def l12r10:List AOper :=
  [.mk (some 41) (.mv (.tmp 5)) none [],.mk (some 4) (.mv (.tmp 41)) none [0,0]]
def l12:AFn :=
  (AFn.mk 42 2 (.seq (.reg l12r0) (.seq (.seq (.reg l12r1) (.cond (.tmp 22) (.seq (.reg l12r2) .ret) .skip)) (.seq (.reg l12r3) (.seq (.seq (.reg l12r4) (.block 0 (.loop (.seq (.reg l12r5) (.seq (.cond (.tmp 26) .skip (.exit 0)) (.seq (.block 1 (.seq (.reg l12r6) (.seq (.reg l12r7) (.cond (.tmp 35) (.reg l12r8) .skip)))) (.reg l12r9))))))) (.seq (.reg l12r10) .ret))))) [.tmp 4])
theorem l12_eq:lowFn Tryz.prog 12=some l12:=by kernel_rfl
def l13r0:List AOper :=
  [.mk (some 1) (.box (.tmp 0)) none [],.mk (some 2) (.mv (.const (.slice none 0 0))) none []]
def l13r1:List AOper :=
  [.mk (some 3) (.load true 3 (.tmp 1)) none [],.mk (some 4) (.call 34 [.tmp 3]) none [0],.mk (some 5) (.un .not (.tmp 4)) none [1]]
def l13r2:List AOper :=
  [.mk (some 2) (.mv (.const (.slice none 0 0))) none []]
def l13r3:List AOper :=
  [.mk (some 6) (.load true 3 (.tmp 1)) none [],.mk (some 7) (.call 35 [.tmp 6]) none [0],.mk (some 2) (.mv (.tmp 7)) none [1,1,0,1]]
def l13:AFn :=
  (AFn.mk 8 1 (.seq (.reg l13r0) (.seq (.seq (.reg l13r1) (.cond (.tmp 5) (.seq (.reg l13r2) .ret) .skip)) (.seq (.reg l13r3) .ret))) [.tmp 2])
theorem l13_eq:lowFn Tryz.prog 13=some l13:=by kernel_rfl
def l14r0:List AOper :=
  [.mk (some 1) (.box (.tmp 0)) none [],.mk (some 2) (.mv (.const (.bool false))) none []]
def l14r1:List AOper :=
  [.mk (some 6) (.load true 3 (.tmp 1)) none [],.mk (some 7) (.call 34 [.tmp 6]) none [0],.mk (some 8) (.un .not (.tmp 7)) none [1]]
def l14r2:List AOper :=
  [.mk (some 2) (.mv (.const (.bool false))) none []]
def l14r3:List AOper :=
  [.mk (some 3) (.alloc [.bool false,.bool false,.bool false,.bool false,.bool false,.bool false,.bool false,.bool false,.bool false,.bool false,.bool false,.bool false,.bool false,.bool false,.bool false,.bool false,.bool false,.bool false,.bool false,.bool false,.bool false,.bool false,.bool false,.bool false,.bool false,.bool false,.bool false,.bool false,.bool false,.bool false,.bool false,.bool false,.bool false,.bool false,.bool false,.bool false,.bool false,.bool false,.bool false,.bool false,.bool false,.bool false,.bool false,.bool false,.bool false,.bool false,.bool false,.bool false,.bool false,.bool false,.bool false,.bool false,.bool false,.bool false,.bool false,.bool false,.bool false,.bool false,.bool false,.bool false]) none []]
def l14r4:List AOper :=
  [.mk (some 9) (.load true 3 (.tmp 1)) none [],.mk (some 10) (.call 36 [.tmp 9]) none [0],.mk (some 11) (.len (.tmp 10)) none [1],.mk (some 12) (.mv (.const (.int .i64 0))) none []]
def l14r5:List AOper :=
  [.mk (some 13) (.bin .lss (.tmp 12) (.tmp 11)) none []]
def l14r6:List AOper :=
  [.mk (some 14) (.idxA 1 (.tmp 10) (.tmp 12)) none [],.mk (some 15) (.load false 1 (.tmp 14)) none [0],.mk (some 5) (.mv (.tmp 15)) none [1,0,1]]
def l14r7:List AOper :=
  [.mk (some 16) (.mv (.tmp 5)) none [],.mk (some 17) (.idxP 1 60 (.tmp 3) (.tmp 16)) none [0],.mk (some 18) (.load false 1 (.tmp 17)) none [1]]
def l14r8:List AOper :=
  [.mk (some 2) (.mv (.const (.bool false))) none []]
def l14r9:List AOper :=
  [.mk (some 19) (.mv (.tmp 5)) none [],.mk (some 20) (.idxP 1 60 (.tmp 3) (.tmp 19)) none [0,0],.mk none (.store 1 (.tmp 20) (.const (.bool true))) none [1,0]]
def l14r10:List AOper :=
  [.mk (some 21) (.bin .add (.tmp 12) (.const (.int .i64 1))) none [],.mk (some 12) (.mv (.tmp 21)) none [0]]
def l14r11:List AOper :=
  [.mk (some 2) (.mv (.const (.bool true))) none []]
def l14:AFn :=
  (AFn.mk 22 1 (.seq (.reg l14r0) (.seq (.seq (.reg l14r1) (.cond (.tmp 8) (.seq (.reg l14r2) .ret) .skip)) (.seq (.reg l14r3) (.seq (.seq (.reg l14r4) (.block 0 (.loop (.seq (.reg l14r5) (.seq (.cond (.tmp 13) .skip (.exit 0)) (.seq (.block 1 (.seq (.reg l14r6) (.seq (.seq (.reg l14r7) (.cond (.tmp 18) (.seq (.reg l14r8) .ret) .skip)) (.reg l14r9)))) (.reg l14r10))))))) (.seq (.reg l14r11) .ret))))) [.tmp 2])
theorem l14_eq:lowFn Tryz.prog 14=some l14:=by kernel_rfl
def l21r0:List AOper :=
  [.mk (some 2) (.mv (.const (.pointer none))) none []]
def l21r1:List AOper :=
  [.mk (some 3) (.mv (.tmp 0)) none [],.mk (some 4) (.len (.tmp 3)) none [0],.mk (some 5) (.bin .gtr (.tmp 4) (.const (.int .i64 2000))) none [1]]
def l21r2:List AOper :=
  [.mk (some 6) (.mv (.tmp 0)) none [],.mk (some 7) (.slice 1 (.tmp 6) none (some (.const (.int .i64 2000)))) none [0],.mk (some 0) (.mv (.tmp 7)) none [1,0,1]]
def l21r3:List AOper :=
  [.mk (some 8) (.mv (.tmp 0)) none [],.mk (some 9) (.build [.slice none 0 0,.int .i64 0] [(0,1,.tmp 8)]) none [0],.mk (some 10) (.box (.tmp 9)) none [1],.mk (some 2) (.mv (.tmp 10)) none [2,0,1,2]]
def l21:AFn :=
  (AFn.mk 11 1 (.seq (.reg l21r0) (.seq (.seq (.reg l21r1) (.cond (.tmp 5) (.reg l21r2) .skip)) (.seq (.reg l21r3) .ret))) [.tmp 2])
theorem l21_eq:lowFn Tryz.prog 21=some l21:=by kernel_rfl
def l22r0:List AOper :=
  [.mk (some 2) (.mv (.const (.slice none 0 0))) none [],.mk (some 3) (.alloc [.int .i64 0,.slice none 0 0,.slice none 0 0]) none []]
def l22r1:List AOper :=
  [.mk (some 4) (.mv (.tmp 0)) none [],.mk (some 5) (.call 45 [.tmp 4]) none [0],.mk (some 6) (.mv (.tmp 0)) none [],.mk (some 7) (.call 53 [.tmp 6]) none [2,1],.mk (some 2) (.mv (.tmp 5)) none [1,3,0,1],.mk none (.store 3 (.tmp 3) (.tmp 7)) none [3,4,0,1,2,3,4]]
def l22:AFn :=
  (AFn.mk 8 1 (.seq (.reg l22r0) (.seq (.reg l22r1) .ret)) [.tmp 2,.cell 3 true 3])
theorem l22_eq:lowFn Tryz.prog 22=some l22:=by kernel_rfl
def l23r0:List AOper :=
  [.mk (some 3) (.box (.tmp 1)) none [],.mk (some 4) (.mv (.const (.slice none 0 0))) none []]
def l23r1:List AOper :=
  [.mk (some 7) (.bslice 1 [.int .i64 0] [] 0) none [],.mk (some 5) (.mv (.tmp 7)) none [0,0]]
def l23r2:List AOper :=
  [.mk (some 8) (.fld 1 (.tmp 3)) none [],.mk (some 9) (.load false 1 (.tmp 8)) none [0],.mk (some 10) (.call 27 [.tmp 9]) none [1],.mk (some 6) (.mv (.tmp 10)) none [2,2,0,1,2]]
def l23r3:List AOper :=
  [.mk (some 11) (.mv (.tmp 6)) none [],.mk (some 12) (.bin .gtr (.tmp 11) (.const (.int .i64 0))) none [0],.mk (some 13) (.mv (.tmp 12)) none [1],.mk (some 14) (.fld 1 (.tmp 3)) (some (13,true)) [2],.mk (some 15) (.load false 1 (.tmp 14)) (some (13,true)) [3,2],.mk (some 16) (.call 54 [.tmp 15]) (some (13,true)) [4,2,2],.mk (some 17) (.pick (.tmp 13) (.tmp 16) (.const (.bool false))) none [2,5]]
def l23r4:List AOper :=
  [.mk (some 20) (.mv (.tmp 5)) none [],.mk (some 21) (.mv (.tmp 0)) none [],.mk (some 22) (.call 44 [.tmp 21,.const (.int .i64 256)]) none [1],.mk (some 23) (.bslice 1 [.int .i64 0] [(0,.tmp 22)] 1) none [2],.mk (some 24) (.append 1 (.tmp 20) (.tmp 23)) none [0,3,2],.mk (some 5) (.mv (.tmp 24)) none [4,4,0,1,2,3,4]]
def l23r5:List AOper :=
  [.mk (some 18) (.mv (.tmp 6)) none [],.mk (some 19) (.bin .sub (.tmp 18) (.const (.int .i64 1))) none [0],.mk (some 6) (.mv (.tmp 19)) none [1,0,1]]
def l23r6:List AOper :=
  [.mk (some 25) (.mv (.tmp 5)) none [],.mk (some 26) (.len (.tmp 25)) none [0],.mk (some 27) (.bin .gtr (.tmp 26) (.const (.int .i64 0))) none [1]]
def l23r7:List AOper :=
  [.mk (some 28) (.mv (.tmp 0)) none [],.mk (some 29) (.call 44 [.tmp 28,.const (.int .i64 20)]) none [0]]
def l23r8:List AOper :=
  [.mk (some 31) (.bin .eql (.tmp 29) (.const (.int .i64 0))) none [],.mk (some 30) (.mv (.tmp 31)) none [0]]
def l23r9:List AOper :=
  [.mk (some 32) (.mv (.tmp 5)) none [],.mk (some 33) (.slice 1 (.tmp 32) (some (.const (.int .i64 1))) none) none [0],.mk (some 5) (.mv (.tmp 33)) none [1,0,1]]
def l23r10:List AOper :=
  [.mk (some 35) (.bin .eql (.tmp 29) (.const (.int .i64 1))) none [],.mk (some 34) (.mv (.tmp 35)) none [0]]
def l23r11:List AOper :=
  [.mk (some 36) (.mv (.tmp 5)) none [],.mk (some 37) (.mv (.tmp 0)) none [],.mk (some 38) (.bslice 1 [.int .i64 0] [(0,.const (.int .i64 (-1))),(1,.const (.int .i64 256))] 2) none [],.mk (some 39) (.call 37 [.tmp 37,.tmp 38]) none [1,2],.mk (some 40) (.idxA 1 (.tmp 36) (.const (.int .i64 0))) none [0,0,1,2,3],.mk none (.store 1 (.tmp 40) (.tmp 39)) none [4,3,3,0,1,2,3]]
def l23r12:List AOper :=
  [.mk (some 41) (.mv (.tmp 5)) none [],.mk (some 4) (.mv (.tmp 41)) none [0,0]]
def l23:AFn :=
  (AFn.mk 42 2 (.seq (.reg l23r0) (.seq (.reg l23r1) (.seq (.seq (.reg l23r2) (.block 0 (.loop (.seq (.seq (.reg l23r3) (.cond (.tmp 17) .skip (.exit 0))) (.seq (.block 1 (.reg l23r4)) (.reg l23r5)))))) (.seq (.seq (.reg l23r6) (.cond (.tmp 27) (.seq (.reg l23r7) (.block 2 (.seq (.reg l23r8) (.cond (.tmp 30) (.reg l23r9) (.seq (.reg l23r10) (.cond (.tmp 34) (.reg l23r11) .skip)))))) .skip)) (.seq (.reg l23r12) .ret))))) [.tmp 4])
theorem l23_eq:lowFn Tryz.prog 23=some l23:=by kernel_rfl
def l24r0:List AOper :=
  [.mk (some 4) (.box (.tmp 1)) none [],.mk (some 6) (.mv (.const (.bool false))) none []]
def l24r1:List AOper :=
  [.mk (some 7) (.mv (.tmp 0)) none [],.mk (some 8) (.load true 3 (.tmp 4)) none [],.mk (some 9) (.call 30 [.tmp 7,.tmp 8]) none [0,1],.mk (some 10) (.mv (.tmp 9)) none [2,2],.mk (some 11) (.mv (.tmp 2)) (some (10,true)) [3],.mk (some 12) (.len (.tmp 11)) (some (10,true)) [4,3],.mk (some 13) (.load true 3 (.tmp 4)) (some (10,true)) [3],.mk (some 14) (.call 40 [.tmp 13]) (some (10,true)) [6,3,3],.mk (some 15) (.bin .eql (.tmp 12) (.tmp 14)) (some (10,true)) [5,7,3],.mk (some 16) (.pick (.tmp 10) (.tmp 15) (.const (.bool false))) none [3,8],.mk (some 17) (.mv (.tmp 16)) none [9,7],.mk (some 18) (.mv (.tmp 2)) (some (17,true)) [10],.mk (some 19) (.call 38 [.tmp 18]) (some (17,true)) [11,10,10],.mk (some 20) (.pick (.tmp 17) (.tmp 19) (.const (.bool false))) none [10,12],.mk (some 6) (.mv (.tmp 20)) none [13,12,0,1,2,3,4,5,6,7,8,9,10,11,12,13]]
def l24:AFn :=
  (AFn.mk 21 3 (.seq (.reg l24r0) (.seq (.reg l24r1) .ret)) [.tmp 6])
theorem l24_eq:lowFn Tryz.prog 24=some l24:=by kernel_rfl
def l25r0:List AOper :=
  [.mk (some 4) (.box (.tmp 1)) none [],.mk (some 6) (.mv (.const (.slice none 0 0))) none []]
def l25r1:List AOper :=
  [.mk (some 11) (.mv (.tmp 0)) none [],.mk (some 12) (.call 55 [.tmp 11]) none [0],.mk (some 7) (.mv (.tmp 12)) none [1,1,0,1]]
def l25r2a:List AOper :=
  [.mk (some 13) (.load true 3 (.tmp 4)) none [],.mk (some 14) (.call 36 [.tmp 13]) none [0],.mk (some 15) (.load true 3 (.tmp 4)) none []]
def l25r2b:List AOper :=
  [.mk (some 16) (.call 56 [.tmp 15]) none [2,1],.mk (some 8) (.mv (.tmp 14)) none [1,3,0,1],.mk (some 9) (.mv (.tmp 16)) none [3,4,0,1,2,3,4]]
def l25r2:List AOper:=l25r2a ++ l25r2b
def l25r3:List AOper :=
  [.mk (some 10) (.mv (.const (.int .i64 0))) none []]
def l25r4:List AOper :=
  [.mk (some 17) (.mv (.tmp 10)) none [],.mk (some 18) (.mv (.tmp 8)) none [],.mk (some 19) (.len (.tmp 18)) none [1],.mk (some 20) (.bin .lss (.tmp 17) (.tmp 19)) none [0,2]]
def l25r5:List AOper :=
  [.mk (some 24) (.mv (.tmp 7)) none [],.mk (some 25) (.mv (.tmp 8)) none [],.mk (some 26) (.mv (.tmp 10)) none [],.mk (some 27) (.idxA 1 (.tmp 25) (.tmp 26)) none [1,2],.mk (some 28) (.load false 1 (.tmp 27)) none [3],.mk (some 29) (.mv (.tmp 9)) none [],.mk (some 30) (.call 57 [.tmp 24,.tmp 28,.tmp 29]) none [0,4,5],.mk (some 31) (.mv (.tmp 2)) none [],.mk (some 32) (.mv (.tmp 10)) none [],.mk (some 33) (.mv (.tmp 9)) none [],.mk (some 34) (.call 57 [.tmp 31,.tmp 32,.tmp 33]) none [7,8,9,6],.mk (some 35) (.cpy 1 (.tmp 30) (.tmp 34)) none [6,10,10]]
def l25r6:List AOper :=
  [.mk (some 21) (.mv (.tmp 10)) none [],.mk (some 22) (.mv (.tmp 9)) none [],.mk (some 23) (.bin .add (.tmp 21) (.tmp 22)) none [0,1],.mk (some 10) (.mv (.tmp 23)) none [2,0,1,2]]
def l25r7:List AOper :=
  [.mk (some 36) (.mv (.tmp 7)) none [],.mk (some 6) (.mv (.tmp 36)) none [0,0]]
def l25:AFn :=
  (AFn.mk 37 3 (.seq (.reg l25r0) (.seq (.reg l25r1) (.seq (.draw l25r2) (.seq (.seq (.reg l25r3) (.block 0 (.loop (.seq (.seq (.reg l25r4) (.cond (.tmp 20) .skip (.exit 0))) (.seq (.block 1 (.reg l25r5)) (.reg l25r6)))))) (.seq (.reg l25r7) .ret))))) [.tmp 6])
theorem l25_eq:lowFn Tryz.prog 25=some l25:=by kernel_rfl
def l26r0:List AOper :=
  [.mk (some 3) (.box (.tmp 1)) none [],.mk (some 4) (.mv (.const (.bool false))) none []]
def l26r1:List AOper :=
  [.mk (some 5) (.mv (.tmp 0)) none [],.mk (some 6) (.call 58 [.tmp 5]) none [0],.mk (some 7) (.mv (.tmp 6)) none [1,1],.mk (some 8) (.load true 3 (.tmp 3)) (some (7,true)) [2],.mk (some 9) (.call 59 [.tmp 8]) (some (7,true)) [3,2,2],.mk (some 10) (.pick (.tmp 7) (.tmp 9) (.const (.bool false))) none [2,4],.mk (some 11) (.mv (.tmp 10)) none [5,4],.mk (some 12) (.load true 3 (.tmp 3)) (some (11,true)) [6],.mk (some 13) (.mv (.tmp 0)) (some (11,true)) [6],.mk (some 14) (.len (.tmp 13)) (some (11,true)) [8,6],.mk (some 15) (.call 60 [.tmp 12,.tmp 14]) (some (11,true)) [7,9,6,6],.mk (some 16) (.pick (.tmp 11) (.tmp 15) (.const (.bool false))) none [6,10],.mk (some 4) (.mv (.tmp 16)) none [11,10,0,1,2,3,4,5,6,7,8,9,10,11]]
def l26:AFn :=
  (AFn.mk 17 2 (.seq (.reg l26r0) (.seq (.reg l26r1) .ret)) [.tmp 4])
theorem l26_eq:lowFn Tryz.prog 26=some l26:=by kernel_rfl
def l27r0:List AOper :=
  [.mk (some 2) (.mv (.const (.int .i64 0))) none []]
def l27r1:List AOper :=
  [.mk (some 3) (.mv (.const (.int .i64 1))) none []]
def l27r2:List AOper :=
  [.mk (some 4) (.mv (.const (.int .i64 0))) none []]
def l27r3:List AOper :=
  [.mk (some 5) (.mv (.tmp 4)) none [],.mk (some 6) (.mv (.tmp 0)) none [],.mk (some 7) (.len (.tmp 6)) none [1],.mk (some 8) (.bin .lss (.tmp 5) (.tmp 7)) none [0,2]]
def l27r4:List AOper :=
  [.mk (some 11) (.mv (.tmp 3)) none [],.mk (some 12) (.mv (.tmp 0)) none [],.mk (some 13) (.mv (.tmp 4)) none [],.mk (some 14) (.idxA 1 (.tmp 12) (.tmp 13)) none [1,2],.mk (some 15) (.load false 1 (.tmp 14)) none [3],.mk (some 16) (.bin .mul (.tmp 11) (.tmp 15)) none [0,4],.mk (some 3) (.mv (.tmp 16)) none [5,0,1,2,3,4,5]]
def l27r5:List AOper :=
  [.mk (some 9) (.mv (.tmp 4)) none [],.mk (some 10) (.bin .add (.tmp 9) (.const (.int .i64 1))) none [0],.mk (some 4) (.mv (.tmp 10)) none [1,0,1]]
def l27r6:List AOper :=
  [.mk (some 17) (.mv (.tmp 3)) none [],.mk (some 2) (.mv (.tmp 17)) none [0,0]]
def l27:AFn :=
  (AFn.mk 18 1 (.seq (.reg l27r0) (.seq (.reg l27r1) (.seq (.seq (.reg l27r2) (.block 0 (.loop (.seq (.seq (.reg l27r3) (.cond (.tmp 8) .skip (.exit 0))) (.seq (.block 1 (.reg l27r4)) (.reg l27r5)))))) (.seq (.reg l27r6) .ret)))) [.tmp 2])
theorem l27_eq:lowFn Tryz.prog 27=some l27:=by kernel_rfl
def l28r0:List AOper :=
  [.mk (some 6) (.mv (.const (.bool false))) none []]
def l28r1:List AOper :=
  [.mk (some 7) (.mv (.const (.int .i64 0))) none []]
def l28r2:List AOper :=
  [.mk (some 8) (.mv (.tmp 7)) none [],.mk (some 9) (.mv (.tmp 0)) none [],.mk (some 10) (.len (.tmp 9)) none [1],.mk (some 11) (.bin .lss (.tmp 8) (.tmp 10)) none [0,2]]
def l28r3:List AOper :=
  [.mk (some 14) (.mv (.tmp 0)) none [],.mk (some 15) (.mv (.tmp 7)) none [],.mk (some 16) (.idxA 1 (.tmp 14) (.tmp 15)) none [0,1],.mk (some 17) (.load false 1 (.tmp 16)) none [2],.mk (some 18) (.mv (.tmp 1)) none [],.mk (some 19) (.mv (.tmp 2)) none [],.mk (some 20) (.call 41 [.tmp 17,.tmp 18,.tmp 19]) none [3,4,5],.mk (some 21) (.un .not (.tmp 20)) none [6]]
def l28r4:List AOper :=
  [.mk (some 6) (.mv (.const (.bool false))) none []]
def l28r5:List AOper :=
  [.mk (some 12) (.mv (.tmp 7)) none [],.mk (some 13) (.bin .add (.tmp 12) (.const (.int .i64 1))) none [0],.mk (some 7) (.mv (.tmp 13)) none [1,0,1]]
def l28r6:List AOper :=
  [.mk (some 6) (.mv (.const (.bool true))) none []]
def l28:AFn :=
  (AFn.mk 22 3 (.seq (.reg l28r0) (.seq (.seq (.reg l28r1) (.block 0 (.loop (.seq (.seq (.reg l28r2) (.cond (.tmp 11) .skip (.exit 0))) (.seq (.block 1 (.seq (.reg l28r3) (.cond (.tmp 21) (.seq (.reg l28r4) .ret) .skip))) (.reg l28r5)))))) (.seq (.reg l28r6) .ret))) [.tmp 6])
theorem l28_eq:lowFn Tryz.prog 28=some l28:=by kernel_rfl
def l29r0:List AOper :=
  [.mk (some 4) (.box (.tmp 1)) none [],.mk (some 6) (.mv (.const (.slice none 0 0))) none []]
def l29r1:List AOper :=
  [.mk (some 10) (.mv (.tmp 0)) none [],.mk (some 11) (.call 42 [.tmp 10]) none [0],.mk (some 7) (.mv (.tmp 11)) none [1,1,0,1]]
def l29r2:List AOper :=
  [.mk (some 12) (.load true 3 (.tmp 4)) none [],.mk (some 13) (.call 43 [.tmp 12]) none [0],.mk (some 8) (.mv (.tmp 13)) none [1,1,0,1]]
def l29r3:List AOper :=
  [.mk (some 9) (.mv (.const (.int .i64 0))) none []]
def l29r4:List AOper :=
  [.mk (some 14) (.mv (.tmp 9)) none [],.mk (some 15) (.mv (.tmp 8)) none [],.mk (some 16) (.len (.tmp 15)) none [1],.mk (some 17) (.bin .lss (.tmp 14) (.tmp 16)) none [0,2]]
def l29r5a:List AOper :=
  [.mk (some 20) (.mv (.tmp 7)) none [],.mk (some 21) (.mv (.tmp 8)) none [],.mk (some 22) (.mv (.tmp 9)) none [],.mk (some 23) (.idxA 1 (.tmp 21) (.tmp 22)) none [1,2],.mk (some 24) (.load false 1 (.tmp 23)) none [3],.mk (some 25) (.mv (.tmp 2)) none [],.mk (some 26) (.mv (.tmp 9)) none [],.mk (some 27) (.idxA 1 (.tmp 25) (.tmp 26)) none [5,6],.mk (some 28) (.load false 1 (.tmp 27)) none [7]]
def l29r5b:List AOper :=
  [.mk (some 29) (.idxA 1 (.tmp 20) (.tmp 24)) none [0,4,0,1,2,3,4,5,6,7,8],.mk none (.store 1 (.tmp 29) (.tmp 28)) none [9,8,0,1,2,3,4,5,6,7,8]]
def l29r5:List AOper:=l29r5a ++ l29r5b
def l29r6:List AOper :=
  [.mk (some 18) (.mv (.tmp 9)) none [],.mk (some 19) (.bin .add (.tmp 18) (.const (.int .i64 1))) none [0],.mk (some 9) (.mv (.tmp 19)) none [1,0,1]]
def l29r7:List AOper :=
  [.mk (some 30) (.mv (.tmp 7)) none [],.mk (some 6) (.mv (.tmp 30)) none [0,0]]
def l29:AFn :=
  (AFn.mk 31 3 (.seq (.reg l29r0) (.seq (.reg l29r1) (.seq (.reg l29r2) (.seq (.seq (.reg l29r3) (.block 0 (.loop (.seq (.seq (.reg l29r4) (.cond (.tmp 17) .skip (.exit 0))) (.seq (.block 1 (.draw l29r5)) (.reg l29r6)))))) (.seq (.reg l29r7) .ret))))) [.tmp 6])
theorem l29_eq:lowFn Tryz.prog 29=some l29:=by kernel_rfl
def l30r0:List AOper :=
  [.mk (some 3) (.box (.tmp 1)) none [],.mk (some 4) (.mv (.const (.bool false))) none []]
def l30r1:List AOper :=
  [.mk (some 5) (.mv (.tmp 0)) none [],.mk (some 6) (.call 33 [.tmp 5]) none [0],.mk (some 7) (.mv (.tmp 6)) none [1,1],.mk (some 8) (.load true 3 (.tmp 3)) (some (7,true)) [2],.mk (some 9) (.mv (.tmp 0)) (some (7,true)) [2],.mk (some 10) (.len (.tmp 9)) (some (7,true)) [4,2],.mk (some 11) (.call 61 [.tmp 8,.tmp 10]) (some (7,true)) [3,5,2,2],.mk (some 12) (.pick (.tmp 7) (.tmp 11) (.const (.bool false))) none [2,6],.mk (some 4) (.mv (.tmp 12)) none [7,6,0,1,2,3,4,5,6,7]]
def l30:AFn :=
  (AFn.mk 13 2 (.seq (.reg l30r0) (.seq (.reg l30r1) .ret)) [.tmp 4])
theorem l30_eq:lowFn Tryz.prog 30=some l30:=by kernel_rfl
def l31r0:List AOper :=
  [.mk (some 3) (.box (.tmp 1)) none [],.mk (some 4) (.mv (.const (.slice none 0 0))) none []]
def l31r1a:List AOper :=
  [.mk (some 9) (.load true 3 (.tmp 3)) none [],.mk (some 10) (.call 36 [.tmp 9]) none [0],.mk (some 11) (.load true 3 (.tmp 3)) none []]
def l31r1b:List AOper :=
  [.mk (some 12) (.call 56 [.tmp 11]) none [2,1],.mk (some 5) (.mv (.tmp 10)) none [1,3,0,1],.mk (some 6) (.mv (.tmp 12)) none [3,4,0,1,2,3,4]]
def l31r1:List AOper:=l31r1a ++ l31r1b
def l31r2:List AOper :=
  [.mk (some 13) (.mv (.tmp 5)) none [],.mk (some 14) (.len (.tmp 13)) none [0],.mk (some 15) (.mkslice 1 [.int .i64 0] (.tmp 14) (.tmp 14)) none [1,1],.mk (some 7) (.mv (.tmp 15)) none [2,0,1,2]]
def l31r3:List AOper :=
  [.mk (some 8) (.mv (.const (.int .i64 0))) none []]
def l31r4:List AOper :=
  [.mk (some 16) (.mv (.tmp 8)) none [],.mk (some 17) (.mv (.tmp 5)) none [],.mk (some 18) (.len (.tmp 17)) none [1],.mk (some 19) (.bin .lss (.tmp 16) (.tmp 18)) none [0,2]]
def l31r5a:List AOper :=
  [.mk (some 23) (.mv (.tmp 7)) none [],.mk (some 24) (.mv (.tmp 8)) none [],.mk (some 25) (.mv (.tmp 6)) none [],.mk (some 26) (.call 57 [.tmp 23,.tmp 24,.tmp 25]) none [0,1,2],.mk (some 27) (.mv (.tmp 0)) none [],.mk (some 28) (.mv (.tmp 5)) none [],.mk (some 29) (.mv (.tmp 8)) none [],.mk (some 30) (.idxA 1 (.tmp 28) (.tmp 29)) none [5,6],.mk (some 31) (.load false 1 (.tmp 30)) none [7],.mk (some 32) (.mv (.tmp 6)) none []]
def l31r5b:List AOper :=
  [.mk (some 33) (.call 57 [.tmp 27,.tmp 31,.tmp 32]) none [4,8,9,3],.mk (some 34) (.cpy 1 (.tmp 26) (.tmp 33)) none [3,10,10]]
def l31r5:List AOper:=l31r5a ++ l31r5b
def l31r6:List AOper :=
  [.mk (some 20) (.mv (.tmp 8)) none [],.mk (some 21) (.mv (.tmp 6)) none [],.mk (some 22) (.bin .add (.tmp 20) (.tmp 21)) none [0,1],.mk (some 8) (.mv (.tmp 22)) none [2,0,1,2]]
def l31r7:List AOper :=
  [.mk (some 35) (.mv (.tmp 7)) none [],.mk (some 4) (.mv (.tmp 35)) none [0,0]]
def l31:AFn :=
  (AFn.mk 36 2 (.seq (.reg l31r0) (.seq (.draw l31r1) (.seq (.reg l31r2) (.seq (.seq (.reg l31r3) (.block 0 (.loop (.seq (.seq (.reg l31r4) (.cond (.tmp 19) .skip (.exit 0))) (.seq (.block 1 (.draw l31r5)) (.reg l31r6)))))) (.seq (.reg l31r7) .ret))))) [.tmp 4])
theorem l31_eq:lowFn Tryz.prog 31=some l31:=by kernel_rfl
def l32r0:List AOper :=
  [.mk (some 4) (.mv (.const (.bool false))) none []]
def l32r1:List AOper :=
  [.mk (some 5) (.mv (.const (.int .i64 0))) none []]
def l32r2:List AOper :=
  [.mk (some 6) (.mv (.tmp 5)) none [],.mk (some 7) (.mv (.tmp 0)) none [],.mk (some 8) (.len (.tmp 7)) none [1],.mk (some 9) (.bin .lss (.tmp 6) (.tmp 8)) none [0,2]]
def l32r3:List AOper :=
  [.mk (some 12) (.mv (.tmp 0)) none [],.mk (some 13) (.mv (.tmp 5)) none [],.mk (some 14) (.idxA 1 (.tmp 12) (.tmp 13)) none [0,1],.mk (some 15) (.load false 1 (.tmp 14)) none [2],.mk (some 16) (.mv (.tmp 1)) none [],.mk (some 17) (.bin .eql (.tmp 15) (.tmp 16)) none [3,4]]
def l32r4:List AOper :=
  [.mk (some 4) (.mv (.const (.bool true))) none []]
def l32r5:List AOper :=
  [.mk (some 10) (.mv (.tmp 5)) none [],.mk (some 11) (.bin .add (.tmp 10) (.const (.int .i64 1))) none [0],.mk (some 5) (.mv (.tmp 11)) none [1,0,1]]
def l32r6:List AOper :=
  [.mk (some 4) (.mv (.const (.bool false))) none []]
def l32:AFn :=
  (AFn.mk 18 2 (.seq (.reg l32r0) (.seq (.seq (.reg l32r1) (.block 0 (.loop (.seq (.seq (.reg l32r2) (.cond (.tmp 9) .skip (.exit 0))) (.seq (.block 1 (.seq (.reg l32r3) (.cond (.tmp 17) (.seq (.reg l32r4) .ret) .skip))) (.reg l32r5)))))) (.seq (.reg l32r6) .ret))) [.tmp 4])
theorem l32_eq:lowFn Tryz.prog 32=some l32:=by kernel_rfl
def l33r0:List AOper :=
  [.mk (some 2) (.mv (.const (.bool false))) none []]
def l33r1:List AOper :=
  [.mk (some 3) (.mv (.tmp 0)) none [],.mk (some 4) (.len (.tmp 3)) none [0],.mk (some 5) (.call 62 [.tmp 4]) none [1],.mk (some 6) (.mv (.tmp 5)) none [2,2],.mk (some 7) (.mv (.tmp 0)) (some (6,true)) [3],.mk (some 8) (.call 38 [.tmp 7]) (some (6,true)) [4,3,3],.mk (some 9) (.pick (.tmp 6) (.tmp 8) (.const (.bool false))) none [3,5],.mk (some 2) (.mv (.tmp 9)) none [6,5,0,1,2,3,4,5,6]]
def l33:AFn :=
  (AFn.mk 10 1 (.seq (.reg l33r0) (.seq (.reg l33r1) .ret)) [.tmp 2])
theorem l33_eq:lowFn Tryz.prog 33=some l33:=by kernel_rfl
def l34r0:List AOper :=
  [.mk (some 1) (.box (.tmp 0)) none [],.mk (some 2) (.mv (.const (.bool false))) none []]
def l34r1:List AOper :=
  [.mk (some 5) (.fld 1 (.tmp 1)) none [],.mk (some 6) (.load false 1 (.tmp 5)) none [0],.mk (some 7) (.call 63 [.tmp 6]) none [1],.mk (some 8) (.un .not (.tmp 7)) none [2],.mk (some 9) (.mv (.tmp 8)) none [3,2],.mk (some 10) (.fld 2 (.tmp 1)) (some (9,false)) [4],.mk (some 11) (.load false 1 (.tmp 10)) (some (9,false)) [5,4],.mk (some 12) (.fld 1 (.tmp 1)) (some (9,false)) [4],.mk (some 13) (.load false 1 (.tmp 12)) (some (9,false)) [7,4],.mk (some 14) (.len (.tmp 13)) (some (9,false)) [8,4],.mk (some 15) (.call 64 [.tmp 11,.tmp 14]) (some (9,false)) [6,9,4,4],.mk (some 16) (.un .not (.tmp 15)) (some (9,false)) [10,4],.mk (some 17) (.pick (.tmp 9) (.const (.bool true)) (.tmp 16)) none [4,11],.mk (some 18) (.mv (.tmp 17)) none [12,10],.mk (some 19) (.fld 0 (.tmp 1)) (some (18,false)) [13],.mk (some 20) (.load false 1 (.tmp 19)) (some (18,false)) [14,13],.mk (some 21) (.call 65 [.tmp 20,.const (.int .i64 60)]) (some (18,false)) [15,13,13],.mk (some 22) (.un .not (.tmp 21)) (some (18,false)) [16,13],.mk (some 23) (.pick (.tmp 18) (.const (.bool true)) (.tmp 22)) none [13,17]]
def l34r2:List AOper :=
  [.mk (some 2) (.mv (.const (.bool false))) none []]
def l34r3:List AOper :=
  [.mk (some 25) (.load true 3 (.tmp 1)) none [],.mk (some 26) (.call 66 [.tmp 25]) none [0],.mk (some 24) (.mv (.tmp 26)) none [1],.mk (some 27) (.extract (.tmp 24) 0) none [2],.mk (some 28) (.extract (.tmp 24) 1) none [2],.mk (some 3) (.mv (.tmp 27)) none [3,1,0,1,2,3],.mk (some 4) (.mv (.tmp 28)) none [4,5,0,1,2,3,4,5]]
def l34r4:List AOper :=
  [.mk (some 29) (.load true 3 (.tmp 1)) none [],.mk (some 30) (.call 40 [.tmp 29]) none [0],.mk (some 31) (.bin .eql (.tmp 30) (.const (.int .i64 0))) none [1],.mk (some 32) (.mv (.tmp 31)) none [2,1],.mk (some 33) (.mv (.tmp 3)) (some (32,false)) [3],.mk (some 34) (.bin .geq (.tmp 33) (.const (.int .i64 0))) (some (32,false)) [4,3],.mk (some 35) (.mv (.tmp 34)) (some (32,false)) [5,3,3],.mk (some 36) (.mv (.tmp 4)) (some (35,true)) [6],.mk (some 37) (.bin .lss (.tmp 36) (.const (.int .i64 60))) (some (35,true)) [7,6],.mk (some 38) (.pick (.tmp 35) (.tmp 37) (.const (.bool false))) (some (32,false)) [6,8,3],.mk (some 39) (.pick (.tmp 32) (.const (.bool true)) (.tmp 38)) none [3,9],.mk (some 2) (.mv (.tmp 39)) none [10,6,0,1,2,3,4,5,6,7,8,9,10]]
def l34:AFn :=
  (AFn.mk 40 1 (.seq (.reg l34r0) (.seq (.seq (.reg l34r1) (.cond (.tmp 23) (.seq (.reg l34r2) .ret) .skip)) (.seq (.reg l34r3) (.seq (.reg l34r4) .ret)))) [.tmp 2])
theorem l34_eq:lowFn Tryz.prog 34=some l34:=by kernel_rfl
def l35r0:List AOper :=
  [.mk (some 1) (.box (.tmp 0)) none [],.mk (some 2) (.mv (.const (.slice none 0 0))) none []]
def l35r1:List AOper :=
  [.mk (some 3) (.load true 3 (.tmp 1)) none [],.mk (some 4) (.bslice 3 [.int .i64 0,.slice none 0 0,.slice none 0 0] [(0,.tmp 3)] 1) none [0],.mk (some 5) (.call 67 [.tmp 4]) none [1],.mk (some 6) (.call 68 [.tmp 5,.const (.int .i64 1)]) none [2,2],.mk (some 2) (.mv (.tmp 6)) none [3,3,0,1,2,3]]
def l35:AFn :=
  (AFn.mk 7 1 (.seq (.reg l35r0) (.seq (.reg l35r1) .ret)) [.tmp 2])
theorem l35_eq:lowFn Tryz.prog 35=some l35:=by kernel_rfl
def l36r0:List AOper :=
  [.mk (some 1) (.box (.tmp 0)) none [],.mk (some 2) (.mv (.const (.slice none 0 0))) none []]
def l36r1:List AOper :=
  [.mk (some 5) (.load true 3 (.tmp 1)) none [],.mk (some 6) (.call 40 [.tmp 5]) none [0],.mk (some 7) (.mkslice 1 [.int .i64 0] (.tmp 6) (.tmp 6)) none [1,1],.mk (some 3) (.mv (.tmp 7)) none [2,1,0,1,2]]
def l36r2:List AOper :=
  [.mk (some 8) (.mv (.tmp 3)) none [],.mk (some 9) (.len (.tmp 8)) none [0],.mk (some 10) (.mv (.const (.int .i64 0))) none []]
def l36r3:List AOper :=
  [.mk (some 11) (.bin .lss (.tmp 10) (.tmp 9)) none []]
def l36r4:List AOper :=
  [.mk (some 12) (.mv (.tmp 10)) none [],.mk (some 4) (.mv (.tmp 12)) none [0,0]]
def l36r5a:List AOper :=
  [.mk (some 13) (.mv (.tmp 3)) none [],.mk (some 14) (.mv (.tmp 4)) none [],.mk (some 15) (.load true 3 (.tmp 1)) none [],.mk (some 16) (.fld 1 (.tmp 1)) none [],.mk (some 17) (.load false 1 (.tmp 16)) none [3],.mk (some 18) (.mv (.tmp 4)) none [],.mk (some 19) (.call 70 [.tmp 17,.tmp 18]) none [4,5],.mk (some 20) (.call 69 [.tmp 15,.tmp 19]) none [2,6,6]]
def l36r5b:List AOper :=
  [.mk (some 21) (.idxA 1 (.tmp 13) (.tmp 14)) none [0,1,0,1,2,3,4,5,6,7],.mk none (.store 1 (.tmp 21) (.tmp 20)) none [8,7,7,0,1,2,3,4,5,6,7]]
def l36r5:List AOper:=l36r5a ++ l36r5b
def l36r6:List AOper :=
  [.mk (some 22) (.bin .add (.tmp 10) (.const (.int .i64 1))) none [],.mk (some 10) (.mv (.tmp 22)) none [0]]
def l36r7:List AOper :=
  [.mk (some 23) (.mv (.tmp 3)) none [],.mk (some 2) (.mv (.tmp 23)) none [0,0]]
def l36:AFn :=
  (AFn.mk 24 1 (.seq (.reg l36r0) (.seq (.reg l36r1) (.seq (.seq (.reg l36r2) (.block 0 (.loop (.seq (.reg l36r3) (.seq (.cond (.tmp 11) .skip (.exit 0)) (.seq (.block 1 (.seq (.reg l36r4) (.draw l36r5))) (.reg l36r6))))))) (.seq (.reg l36r7) .ret)))) [.tmp 2])
theorem l36_eq:lowFn Tryz.prog 36=some l36:=by kernel_rfl
def l37r0:List AOper :=
  [.mk (some 4) (.mv (.const (.int .i64 0))) none []]
def l37r1:List AOper :=
  [.mk (some 5) (.mv (.tmp 1)) none [],.mk (some 6) (.mv (.tmp 0)) none [],.mk (some 7) (.mv (.tmp 1)) none [],.mk (some 8) (.len (.tmp 7)) none [2],.mk (some 9) (.call 44 [.tmp 6,.tmp 8]) none [1,3],.mk (some 10) (.idxA 1 (.tmp 5) (.tmp 9)) none [0,4],.mk (some 11) (.load false 1 (.tmp 10)) none [5],.mk (some 4) (.mv (.tmp 11)) none [6,4,0,1,2,3,4,5,6]]
def l37:AFn :=
  (AFn.mk 12 2 (.seq (.reg l37r0) (.seq (.reg l37r1) .ret)) [.tmp 4])
theorem l37_eq:lowFn Tryz.prog 37=some l37:=by kernel_rfl
def l38r0:List AOper :=
  [.mk (some 2) (.mv (.const (.bool false))) none []]
def l38r1:List AOper :=
  [.mk (some 5) (.mv (.tmp 0)) none [],.mk (some 6) (.len (.tmp 5)) none [0],.mk (some 7) (.mv (.const (.int .i64 0))) none []]
def l38r2:List AOper :=
  [.mk (some 8) (.bin .lss (.tmp 7) (.tmp 6)) none []]
def l38r3:List AOper :=
  [.mk (some 9) (.idxA 1 (.tmp 5) (.tmp 7)) none [],.mk (some 10) (.load false 1 (.tmp 9)) none [0],.mk (some 4) (.mv (.tmp 10)) none [1,0,1]]
def l38r4:List AOper :=
  [.mk (some 11) (.mv (.tmp 4)) none [],.mk (some 12) (.call 65 [.tmp 11,.const (.int .i64 255)]) none [0],.mk (some 13) (.un .not (.tmp 12)) none [1]]
def l38r5:List AOper :=
  [.mk (some 2) (.mv (.const (.bool false))) none []]
def l38r6:List AOper :=
  [.mk (some 14) (.bin .add (.tmp 7) (.const (.int .i64 1))) none [],.mk (some 7) (.mv (.tmp 14)) none [0]]
def l38r7:List AOper :=
  [.mk (some 2) (.mv (.const (.bool true))) none []]
def l38:AFn :=
  (AFn.mk 15 1 (.seq (.reg l38r0) (.seq (.seq (.reg l38r1) (.block 0 (.loop (.seq (.reg l38r2) (.seq (.cond (.tmp 8) .skip (.exit 0)) (.seq (.block 1 (.seq (.reg l38r3) (.seq (.reg l38r4) (.cond (.tmp 13) (.seq (.reg l38r5) .ret) .skip)))) (.reg l38r6))))))) (.seq (.reg l38r7) .ret))) [.tmp 2])
theorem l38_eq:lowFn Tryz.prog 38=some l38:=by kernel_rfl
def l40r0:List AOper :=
  [.mk (some 1) (.box (.tmp 0)) none [],.mk (some 2) (.mv (.const (.int .i64 0))) none []]
def l40r1:List AOper :=
  [.mk (some 3) (.fld 1 (.tmp 1)) none [],.mk (some 4) (.load false 1 (.tmp 3)) none [0],.mk (some 5) (.call 72 [.tmp 4]) none [1],.mk (some 2) (.mv (.tmp 5)) none [2,2,0,1,2]]
def l40:AFn :=
  (AFn.mk 6 1 (.seq (.reg l40r0) (.seq (.reg l40r1) .ret)) [.tmp 2])
theorem l40_eq:lowFn Tryz.prog 40=some l40:=by kernel_rfl
def l41r0:List AOper :=
  [.mk (some 6) (.mv (.const (.bool false))) none []]
def l41r1:List AOper :=
  [.mk (some 7) (.mv (.tmp 1)) none [],.mk (some 8) (.mv (.tmp 0)) none [],.mk (some 9) (.bin .leq (.tmp 7) (.tmp 8)) none [0,1],.mk (some 10) (.mv (.tmp 9)) none [2],.mk (some 11) (.mv (.tmp 0)) (some (10,true)) [3],.mk (some 12) (.mv (.tmp 2)) (some (10,true)) [3],.mk (some 13) (.bin .leq (.tmp 11) (.tmp 12)) (some (10,true)) [4,5,3],.mk (some 14) (.pick (.tmp 10) (.tmp 13) (.const (.bool false))) none [3,6],.mk (some 6) (.mv (.tmp 14)) none [7,3,0,1,2,3,4,5,6,7]]
def l41:AFn :=
  (AFn.mk 15 3 (.seq (.reg l41r0) (.seq (.reg l41r1) .ret)) [.tmp 6])
theorem l41_eq:lowFn Tryz.prog 41=some l41:=by kernel_rfl
def l42r0:List AOper :=
  [.mk (some 2) (.mv (.const (.slice none 0 0))) none []]
def l42r1:List AOper :=
  [.mk (some 3) (.bslice 1 [.int .i64 0] [] 0) none [],.mk (some 4) (.mv (.tmp 0)) none [],.mk (some 5) (.append 1 (.tmp 3) (.tmp 4)) none [0,1],.mk (some 2) (.mv (.tmp 5)) none [2,2,0,1,2]]
def l42:AFn :=
  (AFn.mk 6 1 (.seq (.reg l42r0) (.seq (.reg l42r1) .ret)) [.tmp 2])
theorem l42_eq:lowFn Tryz.prog 42=some l42:=by kernel_rfl
def l43r0:List AOper :=
  [.mk (some 1) (.box (.tmp 0)) none [],.mk (some 2) (.mv (.const (.slice none 0 0))) none []]
def l43r1:List AOper :=
  [.mk (some 5) (.bslice 1 [.int .i64 0] [] 0) none [],.mk (some 3) (.mv (.tmp 5)) none [0,0]]
def l43r2:List AOper :=
  [.mk (some 4) (.mv (.const (.int .i64 0))) none []]
def l43r3:List AOper :=
  [.mk (some 6) (.mv (.tmp 4)) none [],.mk (some 7) (.fld 1 (.tmp 1)) none [],.mk (some 8) (.load false 1 (.tmp 7)) none [1],.mk (some 9) (.call 27 [.tmp 8]) none [2],.mk (some 10) (.bin .lss (.tmp 6) (.tmp 9)) none [0,3]]
def l43r4a:List AOper :=
  [.mk (some 13) (.mv (.tmp 3)) none [],.mk (some 14) (.load true 3 (.tmp 1)) none [],.mk (some 15) (.fld 1 (.tmp 1)) none [],.mk (some 16) (.load false 1 (.tmp 15)) none [2],.mk (some 17) (.mv (.tmp 4)) none [],.mk (some 18) (.call 74 [.tmp 16,.tmp 17]) none [3,4],.mk (some 19) (.call 73 [.tmp 14,.tmp 18]) none [1,5,5],.mk (some 20) (.bslice 1 [.int .i64 0] [(0,.tmp 19)] 1) none [6]]
def l43r4b:List AOper :=
  [.mk (some 21) (.append 1 (.tmp 13) (.tmp 20)) none [0,7,6],.mk (some 3) (.mv (.tmp 21)) none [8,8,0,1,2,3,4,5,6,7,8]]
def l43r4:List AOper:=l43r4a ++ l43r4b
def l43r5:List AOper :=
  [.mk (some 11) (.mv (.tmp 4)) none [],.mk (some 12) (.bin .add (.tmp 11) (.const (.int .i64 1))) none [0],.mk (some 4) (.mv (.tmp 12)) none [1,0,1]]
def l43r6:List AOper :=
  [.mk (some 22) (.mv (.tmp 3)) none [],.mk (some 2) (.mv (.tmp 22)) none [0,0]]
def l43:AFn :=
  (AFn.mk 23 1 (.seq (.reg l43r0) (.seq (.reg l43r1) (.seq (.seq (.reg l43r2) (.block 0 (.loop (.seq (.seq (.reg l43r3) (.cond (.tmp 10) .skip (.exit 0))) (.seq (.block 1 (.draw l43r4)) (.reg l43r5)))))) (.seq (.reg l43r6) .ret)))) [.tmp 2])
theorem l43_eq:lowFn Tryz.prog 43=some l43:=by kernel_rfl
def l44r0:List AOper :=
  [.mk (some 4) (.mv (.const (.int .i64 0))) none []]
def l44r1:List AOper :=
  [.mk (some 7) (.mv (.tmp 0)) none [],.mk (some 8) (.mv (.tmp 0)) none [],.mk (some 9) (.nilck (.tmp 8)) none [1],.mk (some 10) (.fld 1 (.tmp 9)) none [2],.mk (some 11) (.load false 1 (.tmp 10)) none [3],.mk (some 12) (.bin .add (.tmp 11) (.const (.int .i64 1))) none [4],.mk (some 13) (.nilck (.tmp 7)) none [0,0,1,2,3,4,5],.mk (some 14) (.fld 1 (.tmp 13)) none [6,0,1,2,3,4,5],.mk none (.store 1 (.tmp 14) (.tmp 12)) none [7,5,0,1,2,3,4,5]]
def l44r2:List AOper :=
  [.mk (some 15) (.mv (.tmp 1)) none [],.mk (some 16) (.bin .lss (.tmp 15) (.const (.int .i64 1))) none [0],.mk (some 17) (.mv (.tmp 16)) none [1],.mk (some 18) (.mv (.tmp 0)) (some (17,false)) [2],.mk (some 19) (.nilck (.tmp 18)) (some (17,false)) [3,2],.mk (some 20) (.fld 0 (.tmp 19)) (some (17,false)) [4,2],.mk (some 21) (.load false 1 (.tmp 20)) (some (17,false)) [5,2],.mk (some 22) (.len (.tmp 21)) (some (17,false)) [6,2],.mk (some 23) (.bin .eql (.tmp 22) (.const (.int .i64 0))) (some (17,false)) [7,2],.mk (some 24) (.pick (.tmp 17) (.const (.bool true)) (.tmp 23)) none [2,8]]
def l44r3:List AOper :=
  [.mk (some 4) (.mv (.const (.int .i64 0))) none []]
def l44r4:List AOper :=
  [.mk (some 25) (.mv (.tmp 0)) none [],.mk (some 26) (.nilck (.tmp 25)) none [0],.mk (some 27) (.fld 1 (.tmp 26)) none [1],.mk (some 28) (.load false 1 (.tmp 27)) none [2],.mk (some 29) (.bin .sub (.tmp 28) (.const (.int .i64 1))) none [3],.mk (some 5) (.mv (.tmp 29)) none [4,0,1,2,3,4]]
def l44r5:List AOper :=
  [.mk (some 30) (.mv (.tmp 5)) none [],.mk (some 31) (.mv (.tmp 0)) none [],.mk (some 32) (.nilck (.tmp 31)) none [1],.mk (some 33) (.fld 0 (.tmp 32)) none [2],.mk (some 34) (.load false 1 (.tmp 33)) none [3],.mk (some 35) (.len (.tmp 34)) none [4],.mk (some 36) (.bin .lss (.tmp 30) (.tmp 35)) none [0,5]]
def l44r6:List AOper :=
  [.mk (some 37) (.mv (.tmp 0)) none [],.mk (some 38) (.nilck (.tmp 37)) none [0],.mk (some 39) (.fld 0 (.tmp 38)) none [1],.mk (some 40) (.load false 1 (.tmp 39)) none [2],.mk (some 41) (.mv (.tmp 5)) none [],.mk (some 42) (.idxA 1 (.tmp 40) (.tmp 41)) none [3,4],.mk (some 43) (.load false 1 (.tmp 42)) none [5],.mk (some 44) (.conv .i64 (.tmp 43)) none [6],.mk (some 45) (.mv (.tmp 1)) none [],.mk (some 46) (.bin .rem (.tmp 44) (.tmp 45)) none [7,8],.mk (some 4) (.mv (.tmp 46)) none [9,0,1,2,3,4,5,6,7,8,9]]
def l44r7a:List AOper :=
  [.mk (some 47) (.mv (.tmp 0)) none [],.mk (some 48) (.nilck (.tmp 47)) none [0],.mk (some 49) (.fld 0 (.tmp 48)) none [1],.mk (some 50) (.load false 1 (.tmp 49)) none [2],.mk (some 51) (.mv (.tmp 5)) none [],.mk (some 52) (.mv (.tmp 0)) none [],.mk (some 53) (.nilck (.tmp 52)) none [5],.mk (some 54) (.fld 0 (.tmp 53)) none [6],.mk (some 55) (.load false 1 (.tmp 54)) none [7],.mk (some 56) (.len (.tmp 55)) none [8],.mk (some 57) (.bin .rem (.tmp 51) (.tmp 56)) none [4,9],.mk (some 58) (.idxA 1 (.tmp 50) (.tmp 57)) none [3,10],.mk (some 59) (.load false 1 (.tmp 58)) none [11],.mk (some 60) (.conv .i64 (.tmp 59)) none [12],.mk (some 61) (.bin .mul (.tmp 60) (.const (.int .i64 131))) none [13],.mk (some 62) (.mv (.tmp 0)) none [],.mk (some 63) (.nilck (.tmp 62)) none [15],.mk (some 64) (.fld 0 (.tmp 63)) none [16],.mk (some 65) (.load false 1 (.tmp 64)) none [17],.mk (some 66) (.mv (.tmp 5)) none [],.mk (some 67) (.bin .mul (.tmp 66) (.const (.int .i64 7))) none [19],.mk (some 68) (.bin .add (.tmp 67) (.const (.int .i64 3))) none [20],.mk (some 69) (.mv (.tmp 0)) none [],.mk (some 70) (.nilck (.tmp 69)) none [22],.mk (some 71) (.fld 0 (.tmp 70)) none [23],.mk (some 72) (.load false 1 (.tmp 71)) none [24],.mk (some 73) (.len (.tmp 72)) none [25],.mk (some 74) (.bin .rem (.tmp 68) (.tmp 73)) none [21,26],.mk (some 75) (.idxA 1 (.tmp 65) (.tmp 74)) none [18,27],.mk (some 76) (.load false 1 (.tmp 75)) none [28],.mk (some 77) (.conv .i64 (.tmp 76)) none [29],.mk (some 78) (.bin .mul (.tmp 77) (.const (.int .i64 1117))) none [30],.mk (some 79) (.bin .add (.tmp 61) (.tmp 78)) none [14,31],.mk (some 80) (.mv (.tmp 5)) none [],.mk (some 81) (.bin .mul (.tmp 80) (.const (.int .i64 29))) none [33],.mk (some 82) (.bin .add (.tmp 79) (.tmp 81)) none [32,34],.mk (some 83) (.mv (.tmp 5)) none [],.mk (some 84) (.mv (.tmp 0)) none [],.mk (some 85) (.nilck (.tmp 84)) none [37],.mk (some 86) (.fld 0 (.tmp 85)) none [38],.mk (some 87) (.load false 1 (.tmp 86)) none [39],.mk (some 88) (.len (.tmp 87)) none [40],.mk (some 89) (.bin .quo (.tmp 83) (.tmp 88)) none [36,41],.mk (some 90) (.bin .mul (.tmp 89) (.const (.int .i64 53))) none [42]]
def l44r7b:List AOper :=
  [.mk (some 91) (.bin .add (.tmp 82) (.tmp 90)) none [35,43],.mk (some 6) (.mv (.tmp 91)) none [44,0,1,2,3,4,5,6,7,8,9,10,11,12,13,14,15,16,17,18,19,20,21,22,23,24,25,26,27,28,29,30,31,32,33,34,35,36,37,38,39,40,41,42,43,44]]
def l44r7:List AOper:=l44r7a ++ l44r7b
def l44r8:List AOper :=
  [.mk (some 92) (.mv (.tmp 6)) none [],.mk (some 93) (.mv (.tmp 6)) none [],.mk (some 94) (.bin .quo (.tmp 93) (.const (.int .i64 64))) none [1],.mk (some 95) (.bin .xor (.tmp 92) (.tmp 94)) none [0,2],.mk (some 6) (.mv (.tmp 95)) none [3,0,1,2,3]]
def l44r9:List AOper :=
  [.mk (some 96) (.mv (.tmp 6)) none [],.mk (some 97) (.mv (.tmp 1)) none [],.mk (some 98) (.bin .rem (.tmp 96) (.tmp 97)) none [0,1],.mk (some 4) (.mv (.tmp 98)) none [2,0,1,2]]
def l44:AFn :=
  (AFn.mk 99 2 (.seq (.reg l44r0) (.seq (.reg l44r1) (.seq (.seq (.reg l44r2) (.cond (.tmp 24) (.seq (.reg l44r3) .ret) .skip)) (.seq (.reg l44r4) (.seq (.seq (.reg l44r5) (.cond (.tmp 36) (.seq (.reg l44r6) .ret) .skip)) (.seq (.draw l44r7) (.seq (.reg l44r8) (.seq (.reg l44r9) .ret)))))))) [.tmp 4])
theorem l44_eq:lowFn Tryz.prog 44=some l44:=by kernel_rfl
def l45r0:List AOper :=
  [.mk (some 2) (.mv (.const (.slice none 0 0))) none []]
def l45r1:List AOper :=
  [.mk (some 5) (.bslice 1 [.int .i64 0] [] 0) none [],.mk (some 3) (.mv (.tmp 5)) none [0,0]]
def l45r2:List AOper :=
  [.mk (some 6) (.mv (.tmp 0)) none [],.mk (some 7) (.bslice 1 [.int .i64 0] [(0,.const (.int .i64 20)),(1,.const (.int .i64 30)),(2,.const (.int .i64 16)),(3,.const (.int .i64 60)),(4,.const (.int .i64 12)),(5,.const (.int .i64 5))] 6) none [],.mk (some 8) (.call 37 [.tmp 6,.tmp 7]) none [0,1],.mk (some 4) (.mv (.tmp 8)) none [2,2,0,1,2]]
def l45r3:List AOper :=
  [.mk (some 9) (.mv (.tmp 4)) none [],.mk (some 10) (.bin .gtr (.tmp 9) (.const (.int .i64 0))) none [0]]
def l45r4:List AOper :=
  [.mk (some 13) (.mv (.tmp 3)) none [],.mk (some 14) (.mv (.tmp 0)) none [],.mk (some 15) (.call 44 [.tmp 14,.const (.int .i64 256)]) none [1],.mk (some 16) (.bslice 1 [.int .i64 0] [(0,.tmp 15)] 1) none [2],.mk (some 17) (.append 1 (.tmp 13) (.tmp 16)) none [0,3,2],.mk (some 3) (.mv (.tmp 17)) none [4,4,0,1,2,3,4]]
def l45r5:List AOper :=
  [.mk (some 11) (.mv (.tmp 4)) none [],.mk (some 12) (.bin .sub (.tmp 11) (.const (.int .i64 1))) none [0],.mk (some 4) (.mv (.tmp 12)) none [1,0,1]]
def l45r6:List AOper :=
  [.mk (some 18) (.mv (.tmp 0)) none [],.mk (some 19) (.call 44 [.tmp 18,.const (.int .i64 24)]) none [0],.mk (some 20) (.bin .eql (.tmp 19) (.const (.int .i64 0))) none [1]]
def l45r7:List AOper :=
  [.mk (some 21) (.mv (.tmp 3)) none [],.mk (some 22) (.mv (.tmp 0)) none [],.mk (some 23) (.bslice 1 [.int .i64 0] [(0,.const (.int .i64 (-1))),(1,.const (.int .i64 256))] 2) none [],.mk (some 24) (.call 37 [.tmp 22,.tmp 23]) none [1,2],.mk (some 25) (.idxA 1 (.tmp 21) (.const (.int .i64 0))) none [0,0,1,2,3],.mk none (.store 1 (.tmp 25) (.tmp 24)) none [4,3,3,0,1,2,3]]
def l45r8:List AOper :=
  [.mk (some 26) (.mv (.tmp 3)) none [],.mk (some 2) (.mv (.tmp 26)) none [0,0]]
def l45:AFn :=
  (AFn.mk 27 1 (.seq (.reg l45r0) (.seq (.reg l45r1) (.seq (.seq (.reg l45r2) (.block 0 (.loop (.seq (.seq (.reg l45r3) (.cond (.tmp 10) .skip (.exit 0))) (.seq (.block 1 (.reg l45r4)) (.reg l45r5)))))) (.seq (.seq (.reg l45r6) (.cond (.tmp 20) (.reg l45r7) .skip)) (.seq (.reg l45r8) .ret))))) [.tmp 2])
theorem l45_eq:lowFn Tryz.prog 45=some l45:=by kernel_rfl
def l51r0:List AOper :=
  [.mk (some 2) (.mv (.const (.bool false))) none []]
def l51r1:List AOper :=
  [.mk (some 3) (.mv (.const (.int .i64 0))) none []]
def l51r2:List AOper :=
  [.mk (some 4) (.mv (.tmp 3)) none [],.mk (some 5) (.mv (.tmp 0)) none [],.mk (some 6) (.len (.tmp 5)) none [1],.mk (some 7) (.bin .lss (.tmp 4) (.tmp 6)) none [0,2]]
def l51r3a:List AOper :=
  [.mk (some 10) (.mv (.tmp 0)) none [],.mk (some 11) (.mv (.tmp 3)) none [],.mk (some 12) (.slice 1 (.tmp 10) none (some (.tmp 11))) none [0,1],.mk (some 13) (.mv (.tmp 0)) none [],.mk (some 14) (.mv (.tmp 3)) none [],.mk (some 15) (.idxA 1 (.tmp 13) (.tmp 14)) none [3,4],.mk (some 16) (.load false 1 (.tmp 15)) none [5]]
def l51r3b:List AOper :=
  [.mk (some 17) (.call 79 [.tmp 12,.tmp 16]) none [2,6],.mk (some 18) (.bin .geq (.tmp 17) (.const (.int .i64 0))) none [7]]
def l51r3:List AOper:=l51r3a ++ l51r3b
def l51r4:List AOper :=
  [.mk (some 2) (.mv (.const (.bool false))) none []]
def l51r5:List AOper :=
  [.mk (some 8) (.mv (.tmp 3)) none [],.mk (some 9) (.bin .add (.tmp 8) (.const (.int .i64 1))) none [0],.mk (some 3) (.mv (.tmp 9)) none [1,0,1]]
def l51r6:List AOper :=
  [.mk (some 2) (.mv (.const (.bool true))) none []]
def l51:AFn :=
  (AFn.mk 19 1 (.seq (.reg l51r0) (.seq (.seq (.reg l51r1) (.block 0 (.loop (.seq (.seq (.reg l51r2) (.cond (.tmp 7) .skip (.exit 0))) (.seq (.block 1 (.seq (.draw l51r3) (.cond (.tmp 18) (.seq (.reg l51r4) .ret) .skip))) (.reg l51r5)))))) (.seq (.reg l51r6) .ret))) [.tmp 2])
theorem l51_eq:lowFn Tryz.prog 51=some l51:=by kernel_rfl
def l53r0:List AOper :=
  [.mk (some 2) (.alloc [.int .i64 0,.slice none 0 0,.slice none 0 0]) none []]
def l53r1:List AOper :=
  [.mk (some 4) (.mv (.tmp 0)) none [],.mk (some 5) (.call 80 [.tmp 4]) none [0],.mk (some 3) (.alloc [.int .i64 0,.slice none 0 0,.slice none 0 0]) none [],.mk none (.store 3 (.tmp 3) (.tmp 5)) none [2,1,1,0,1,2]]
def l53r2:List AOper :=
  [.mk (some 6) (.mv (.tmp 0)) none [],.mk (some 7) (.call 44 [.tmp 6,.const (.int .i64 24)]) none [0]]
def l53r3:List AOper :=
  [.mk (some 9) (.bin .eql (.tmp 7) (.const (.int .i64 0))) none [],.mk (some 8) (.mv (.tmp 9)) none [0]]
def l53r4:List AOper :=
  [.mk (some 10) (.mv (.tmp 0)) none [],.mk (some 11) (.bslice 1 [.int .i64 0] [(0,.const (.int .i64 (-1))),(1,.const (.int .i64 60)),(2,.const (.int .i64 61))] 3) none [],.mk (some 12) (.call 37 [.tmp 10,.tmp 11]) none [0,1],.mk (some 13) (.fld 0 (.tmp 3)) none [0,1,2],.mk none (.store 1 (.tmp 13) (.tmp 12)) none [3,2,2,0,1,2]]
def l53r5:List AOper :=
  [.mk (some 15) (.bin .eql (.tmp 7) (.const (.int .i64 1))) none [],.mk (some 14) (.mv (.tmp 15)) none [0]]
def l53r6:List AOper :=
  [.mk (some 16) (.fld 2 (.tmp 3)) none [],.mk (some 17) (.load false 1 (.tmp 16)) none [0],.mk (some 18) (.bslice 1 [.int .i64 0] [(0,.const (.int .i64 1))] 1) none [],.mk (some 19) (.append 1 (.tmp 17) (.tmp 18)) none [1,2],.mk (some 20) (.fld 2 (.tmp 3)) none [0,1,2,3],.mk none (.store 1 (.tmp 20) (.tmp 19)) none [4,3,3,0,1,2,3]]
def l53r7:List AOper :=
  [.mk (some 22) (.bin .eql (.tmp 7) (.const (.int .i64 2))) none [],.mk (some 21) (.mv (.tmp 22)) none [0]]
def l53r8:List AOper :=
  [.mk (some 23) (.fld 2 (.tmp 3)) none [],.mk (some 24) (.load false 1 (.tmp 23)) none [0],.mk (some 25) (.len (.tmp 24)) none [1],.mk (some 26) (.bin .gtr (.tmp 25) (.const (.int .i64 0))) none [2]]
def l53r9a:List AOper :=
  [.mk (some 27) (.fld 2 (.tmp 3)) none [],.mk (some 28) (.load false 1 (.tmp 27)) none [0],.mk (some 29) (.mv (.tmp 0)) none [],.mk (some 30) (.bslice 1 [.int .i64 0] [(0,.const (.int .i64 61)),(1,.const (.int .i64 (-61))),(2,.const (.int .i64 60))] 3) none [],.mk (some 31) (.call 37 [.tmp 29,.tmp 30]) none [2,3]]
def l53r9b:List AOper :=
  [.mk (some 32) (.idxA 1 (.tmp 28) (.const (.int .i64 0))) none [1,0,1,2,3,4],.mk none (.store 1 (.tmp 32) (.tmp 31)) none [5,4,4,0,1,2,3,4]]
def l53r9:List AOper:=l53r9a ++ l53r9b
def l53r10:List AOper :=
  [.mk (some 33) (.load true 3 (.tmp 3)) none [],.mk none (.store 3 (.tmp 2) (.tmp 33)) none [0,0]]
def l53:AFn :=
  (AFn.mk 34 1 (.seq (.reg l53r0) (.seq (.reg l53r1) (.seq (.seq (.reg l53r2) (.block 0 (.seq (.reg l53r3) (.cond (.tmp 8) (.reg l53r4) (.seq (.reg l53r5) (.cond (.tmp 14) (.reg l53r6) (.seq (.reg l53r7) (.cond (.tmp 21) (.seq (.reg l53r8) (.cond (.tmp 26) (.draw l53r9) .skip)) .skip)))))))) (.seq (.reg l53r10) .ret)))) [.cell 2 true 3])
theorem l53_eq:lowFn Tryz.prog 53=some l53:=by kernel_rfl
def l54r0:List AOper :=
  [.mk (some 2) (.mv (.const (.bool false))) none []]
def l54r1:List AOper :=
  [.mk (some 3) (.mv (.tmp 0)) none [],.mk (some 4) (.len (.tmp 3)) none [0],.mk (some 5) (.bin .leq (.tmp 4) (.const (.int .i64 4))) none [1],.mk (some 6) (.mv (.tmp 5)) none [2],.mk (some 7) (.mv (.tmp 0)) (some (6,true)) [3],.mk (some 8) (.call 28 [.tmp 7,.const (.int .i64 0),.const (.int .i64 60)]) (some (6,true)) [4,3,3],.mk (some 9) (.pick (.tmp 6) (.tmp 8) (.const (.bool false))) none [3,5],.mk (some 10) (.mv (.tmp 9)) none [6,5],.mk (some 11) (.mv (.tmp 0)) (some (10,true)) [7],.mk (some 12) (.call 27 [.tmp 11]) (some (10,true)) [8,7,7],.mk (some 13) (.bin .leq (.tmp 12) (.const (.int .i64 60))) (some (10,true)) [9,7],.mk (some 14) (.pick (.tmp 10) (.tmp 13) (.const (.bool false))) none [7,10],.mk (some 2) (.mv (.tmp 14)) none [11,9,0,1,2,3,4,5,6,7,8,9,10,11]]
def l54:AFn :=
  (AFn.mk 15 1 (.seq (.reg l54r0) (.seq (.reg l54r1) .ret)) [.tmp 2])
theorem l54_eq:lowFn Tryz.prog 54=some l54:=by kernel_rfl
def l55r0:List AOper :=
  [.mk (some 2) (.mv (.const (.slice none 0 0))) none []]
def l55r1:List AOper :=
  [.mk (some 3) (.mv (.tmp 0)) none [],.mk (some 4) (.isnil false (.tmp 3)) none [0]]
def l55r2:List AOper :=
  [.mk (some 2) (.mv (.const (.slice none 0 0))) none []]
def l55r3:List AOper :=
  [.mk (some 5) (.bslice 1 [.int .i64 0] [] 0) none [],.mk (some 6) (.mv (.tmp 0)) none [],.mk (some 7) (.append 1 (.tmp 5) (.tmp 6)) none [0,1],.mk (some 2) (.mv (.tmp 7)) none [2,2,0,1,2]]
def l55:AFn :=
  (AFn.mk 8 1 (.seq (.reg l55r0) (.seq (.seq (.reg l55r1) (.cond (.tmp 4) (.seq (.reg l55r2) .ret) .skip)) (.seq (.reg l55r3) .ret))) [.tmp 2])
theorem l55_eq:lowFn Tryz.prog 55=some l55:=by kernel_rfl
def l56r0:List AOper :=
  [.mk (some 1) (.box (.tmp 0)) none [],.mk (some 2) (.mv (.const (.int .i64 0))) none []]
def l56r1:List AOper :=
  [.mk (some 4) (.fld 1 (.tmp 1)) none [],.mk (some 5) (.load false 1 (.tmp 4)) none [0],.mk (some 6) (.len (.tmp 5)) none [1],.mk (some 7) (.bin .sub (.tmp 6) (.const (.int .i64 1))) none [2],.mk (some 3) (.mv (.tmp 7)) none [3,0,1,2,3]]
def l56r2:List AOper :=
  [.mk (some 8) (.mv (.tmp 3)) none [],.mk (some 9) (.bin .lss (.tmp 8) (.const (.int .i64 0))) none [0],.mk (some 10) (.mv (.tmp 9)) none [1],.mk (some 11) (.fld 2 (.tmp 1)) (some (10,false)) [2],.mk (some 12) (.load false 1 (.tmp 11)) (some (10,false)) [3,2],.mk (some 13) (.mv (.tmp 3)) (some (10,false)) [2],.mk (some 14) (.idxA 1 (.tmp 12) (.tmp 13)) (some (10,false)) [4,5,2],.mk (some 15) (.load false 1 (.tmp 14)) (some (10,false)) [6,2],.mk (some 16) (.bin .neq (.tmp 15) (.const (.int .i64 1))) (some (10,false)) [7,2],.mk (some 17) (.pick (.tmp 10) (.const (.bool true)) (.tmp 16)) none [2,8]]
def l56r3:List AOper :=
  [.mk (some 2) (.mv (.const (.int .i64 1))) none []]
def l56r4:List AOper :=
  [.mk (some 18) (.fld 1 (.tmp 1)) none [],.mk (some 19) (.load false 1 (.tmp 18)) none [0],.mk (some 20) (.mv (.tmp 3)) none [],.mk (some 21) (.idxA 1 (.tmp 19) (.tmp 20)) none [1,2],.mk (some 22) (.load false 1 (.tmp 21)) none [3],.mk (some 2) (.mv (.tmp 22)) none [4,0,1,2,3,4]]
def l56:AFn :=
  (AFn.mk 23 1 (.seq (.reg l56r0) (.seq (.reg l56r1) (.seq (.seq (.reg l56r2) (.cond (.tmp 17) (.seq (.reg l56r3) .ret) .skip)) (.seq (.reg l56r4) .ret)))) [.tmp 2])
theorem l56_eq:lowFn Tryz.prog 56=some l56:=by kernel_rfl
def l57r0:List AOper :=
  [.mk (some 6) (.mv (.const (.slice none 0 0))) none []]
def l57r1:List AOper :=
  [.mk (some 8) (.mv (.tmp 1)) none [],.mk (some 9) (.mv (.tmp 2)) none [],.mk (some 10) (.bin .add (.tmp 8) (.tmp 9)) none [0,1],.mk (some 7) (.mv (.tmp 10)) none [2,0,1,2]]
def l57r2:List AOper :=
  [.mk (some 11) (.mv (.tmp 0)) none [],.mk (some 12) (.mv (.tmp 1)) none [],.mk (some 13) (.mv (.tmp 7)) none [],.mk (some 14) (.mv (.tmp 7)) none [],.mk (some 15) (.slice3 1 (.tmp 11) (some (.tmp 12)) (.tmp 13) (.tmp 14)) none [0,1,2,3],.mk (some 6) (.mv (.tmp 15)) none [4,0,1,2,3,4]]
def l57:AFn :=
  (AFn.mk 16 3 (.seq (.reg l57r0) (.seq (.reg l57r1) (.seq (.reg l57r2) .ret))) [.tmp 6])
theorem l57_eq:lowFn Tryz.prog 57=some l57:=by kernel_rfl
def l58r0:List AOper :=
  [.mk (some 2) (.mv (.const (.bool false))) none []]
def l58r1:List AOper :=
  [.mk (some 3) (.mv (.tmp 0)) none [],.mk (some 4) (.len (.tmp 3)) none [0],.mk (some 5) (.bin .leq (.tmp 4) (.const (.int .i64 60))) none [1],.mk (some 6) (.mv (.tmp 5)) none [2],.mk (some 7) (.mv (.tmp 0)) (some (6,true)) [3],.mk (some 8) (.call 28 [.tmp 7,.const (.int .i64 0),.const (.int .i64 255)]) (some (6,true)) [4,3,3],.mk (some 9) (.pick (.tmp 6) (.tmp 8) (.const (.bool false))) none [3,5],.mk (some 2) (.mv (.tmp 9)) none [6,5,0,1,2,3,4,5,6]]
def l58:AFn :=
  (AFn.mk 10 1 (.seq (.reg l58r0) (.seq (.reg l58r1) .ret)) [.tmp 2])
theorem l58_eq:lowFn Tryz.prog 58=some l58:=by kernel_rfl
def l59r0:List AOper :=
  [.mk (some 1) (.box (.tmp 0)) none [],.mk (some 2) (.mv (.const (.bool false))) none []]
def l59r1:List AOper :=
  [.mk (some 3) (.fld 1 (.tmp 1)) none [],.mk (some 4) (.load false 1 (.tmp 3)) none [0],.mk (some 5) (.call 54 [.tmp 4]) none [1],.mk (some 6) (.mv (.tmp 5)) none [2,2],.mk (some 7) (.fld 2 (.tmp 1)) (some (6,true)) [3],.mk (some 8) (.load false 1 (.tmp 7)) (some (6,true)) [4,3],.mk (some 9) (.len (.tmp 8)) (some (6,true)) [5,3],.mk (some 10) (.fld 1 (.tmp 1)) (some (6,true)) [3],.mk (some 11) (.load false 1 (.tmp 10)) (some (6,true)) [7,3],.mk (some 12) (.len (.tmp 11)) (some (6,true)) [8,3],.mk (some 13) (.bin .eql (.tmp 9) (.tmp 12)) (some (6,true)) [6,9,3],.mk (some 14) (.pick (.tmp 6) (.tmp 13) (.const (.bool false))) none [3,10],.mk (some 15) (.mv (.tmp 14)) none [11,3],.mk (some 16) (.fld 2 (.tmp 1)) (some (15,true)) [12],.mk (some 17) (.load false 1 (.tmp 16)) (some (15,true)) [13,12],.mk (some 18) (.call 28 [.tmp 17,.const (.int .i64 (-60)),.const (.int .i64 60)]) (some (15,true)) [14,12,12],.mk (some 19) (.pick (.tmp 15) (.tmp 18) (.const (.bool false))) none [12,15],.mk (some 20) (.mv (.tmp 19)) none [16,15],.mk (some 21) (.fld 0 (.tmp 1)) (some (20,true)) [17],.mk (some 22) (.load false 1 (.tmp 21)) (some (20,true)) [18,17],.mk (some 23) (.call 41 [.tmp 22,.const (.int .i64 0),.const (.int .i64 60)]) (some (20,true)) [19,17,17],.mk (some 24) (.pick (.tmp 20) (.tmp 23) (.const (.bool false))) none [17,20],.mk (some 25) (.mv (.tmp 24)) none [21,20],.mk (some 26) (.fld 1 (.tmp 1)) (some (25,true)) [22],.mk (some 27) (.load false 1 (.tmp 26)) (some (25,true)) [23,22],.mk (some 28) (.call 27 [.tmp 27]) (some (25,true)) [24,22,22],.mk (some 29) (.bin .eql (.tmp 28) (.const (.int .i64 0))) (some (25,true)) [25,22],.mk (some 30) (.mv (.tmp 29)) (some (25,true)) [26,25,22],.mk (some 31) (.load true 3 (.tmp 1)) (some (30,false)) [27],.mk (some 32) (.call 43 [.tmp 31]) (some (30,false)) [28,27,27],.mk (some 33) (.call 28 [.tmp 32,.const (.int .i64 0),.const (.int .i64 59)]) (some (30,false)) [29,29,27],.mk (some 34) (.pick (.tmp 30) (.const (.bool true)) (.tmp 33)) (some (25,true)) [27,30,22],.mk (some 35) (.pick (.tmp 25) (.tmp 34) (.const (.bool false))) none [22,31],.mk (some 2) (.mv (.tmp 35)) none [32,30,0,1,2,3,4,5,6,7,8,9,10,11,12,13,14,15,16,17,18,19,20,21,22,23,24,25,26,27,28,29,30,31,32]]
def l59:AFn :=
  (AFn.mk 36 1 (.seq (.reg l59r0) (.seq (.reg l59r1) .ret)) [.tmp 2])
theorem l59_eq:lowFn Tryz.prog 59=some l59:=by kernel_rfl
def l60r0:List AOper :=
  [.mk (some 2) (.box (.tmp 0)) none [],.mk (some 4) (.mv (.const (.bool false))) none []]
def l60r1:List AOper :=
  [.mk (some 5) (.load true 3 (.tmp 2)) none [],.mk (some 6) (.call 43 [.tmp 5]) none [0],.mk (some 7) (.mv (.tmp 1)) none [],.mk (some 8) (.bin .sub (.tmp 7) (.const (.int .i64 1))) none [2],.mk (some 9) (.call 28 [.tmp 6,.const (.int .i64 0),.tmp 8]) none [1,3,1],.mk (some 4) (.mv (.tmp 9)) none [4,4,0,1,2,3,4]]
def l60:AFn :=
  (AFn.mk 10 2 (.seq (.reg l60r0) (.seq (.reg l60r1) .ret)) [.tmp 4])
theorem l60_eq:lowFn Tryz.prog 60=some l60:=by kernel_rfl
def l61r0:List AOper :=
  [.mk (some 2) (.box (.tmp 0)) none [],.mk (some 4) (.mv (.const (.bool false))) none []]
def l61r1:List AOper :=
  [.mk (some 7) (.load true 3 (.tmp 2)) none [],.mk (some 8) (.call 34 [.tmp 7]) none [0],.mk (some 9) (.un .not (.tmp 8)) none [1],.mk (some 10) (.mv (.tmp 9)) none [2,1],.mk (some 11) (.mv (.tmp 1)) (some (10,false)) [3],.mk (some 12) (.call 65 [.tmp 11,.const (.int .i64 60)]) (some (10,false)) [4,3,3],.mk (some 13) (.un .not (.tmp 12)) (some (10,false)) [5,3],.mk (some 14) (.pick (.tmp 10) (.const (.bool true)) (.tmp 13)) none [3,6]]
def l61r2:List AOper :=
  [.mk (some 4) (.mv (.const (.bool false))) none []]
def l61r3:List AOper :=
  [.mk (some 16) (.load true 3 (.tmp 2)) none [],.mk (some 17) (.call 66 [.tmp 16]) none [0],.mk (some 15) (.mv (.tmp 17)) none [1],.mk (some 18) (.extract (.tmp 15) 0) none [2],.mk (some 19) (.extract (.tmp 15) 1) none [2],.mk (some 5) (.mv (.tmp 18)) none [3,1,0,1,2,3],.mk (some 6) (.mv (.tmp 19)) none [4,5,0,1,2,3,4,5]]
def l61r4:List AOper :=
  [.mk (some 20) (.mv (.tmp 6)) none [],.mk (some 21) (.mv (.tmp 1)) none [],.mk (some 22) (.bin .lss (.tmp 20) (.tmp 21)) none [0,1],.mk (some 4) (.mv (.tmp 22)) none [2,0,1,2]]
def l61:AFn :=
  (AFn.mk 23 2 (.seq (.reg l61r0) (.seq (.seq (.reg l61r1) (.cond (.tmp 14) (.seq (.reg l61r2) .ret) .skip)) (.seq (.reg l61r3) (.seq (.reg l61r4) .ret)))) [.tmp 4])
theorem l61_eq:lowFn Tryz.prog 61=some l61:=by kernel_rfl
def l62r0:List AOper :=
  [.mk (some 2) (.mv (.const (.bool false))) none []]
def l62r1:List AOper :=
  [.mk (some 3) (.mv (.tmp 0)) none [],.mk (some 4) (.bin .leq (.const (.int .i64 0)) (.tmp 3)) none [0],.mk (some 5) (.mv (.tmp 4)) none [1],.mk (some 6) (.mv (.tmp 0)) (some (5,true)) [2],.mk (some 7) (.bin .leq (.tmp 6) (.const (.int .i64 60))) (some (5,true)) [3,2],.mk (some 8) (.pick (.tmp 5) (.tmp 7) (.const (.bool false))) none [2,4],.mk (some 2) (.mv (.tmp 8)) none [5,2,0,1,2,3,4,5]]
def l62:AFn :=
  (AFn.mk 9 1 (.seq (.reg l62r0) (.seq (.reg l62r1) .ret)) [.tmp 2])
theorem l62_eq:lowFn Tryz.prog 62=some l62:=by kernel_rfl
def l63r0:List AOper :=
  [.mk (some 2) (.mv (.const (.bool false))) none []]
def l63r1:List AOper :=
  [.mk (some 5) (.mv (.tmp 0)) none [],.mk (some 6) (.len (.tmp 5)) none [0],.mk (some 7) (.bin .gtr (.tmp 6) (.const (.int .i64 4))) none [1]]
def l63r2:List AOper :=
  [.mk (some 2) (.mv (.const (.bool false))) none []]
def l63r3:List AOper :=
  [.mk (some 8) (.mv (.tmp 0)) none [],.mk (some 9) (.len (.tmp 8)) none [0],.mk (some 10) (.mv (.const (.int .i64 0))) none []]
def l63r4:List AOper :=
  [.mk (some 11) (.bin .lss (.tmp 10) (.tmp 9)) none []]
def l63r5:List AOper :=
  [.mk (some 12) (.idxA 1 (.tmp 8) (.tmp 10)) none [],.mk (some 13) (.load false 1 (.tmp 12)) none [0],.mk (some 4) (.mv (.tmp 13)) none [1,0,1]]
def l63r6:List AOper :=
  [.mk (some 14) (.mv (.tmp 4)) none [],.mk (some 15) (.call 65 [.tmp 14,.const (.int .i64 60)]) none [0],.mk (some 16) (.un .not (.tmp 15)) none [1]]
def l63r7:List AOper :=
  [.mk (some 2) (.mv (.const (.bool false))) none []]
def l63r8:List AOper :=
  [.mk (some 17) (.bin .add (.tmp 10) (.const (.int .i64 1))) none [],.mk (some 10) (.mv (.tmp 17)) none [0]]
def l63r9:List AOper :=
  [.mk (some 18) (.mv (.tmp 0)) none [],.mk (some 19) (.call 72 [.tmp 18]) none [0],.mk (some 20) (.bin .leq (.tmp 19) (.const (.int .i64 60))) none [1],.mk (some 2) (.mv (.tmp 20)) none [2,1,0,1,2]]
def l63:AFn :=
  (AFn.mk 21 1 (.seq (.reg l63r0) (.seq (.seq (.reg l63r1) (.cond (.tmp 7) (.seq (.reg l63r2) .ret) .skip)) (.seq (.seq (.reg l63r3) (.block 0 (.loop (.seq (.reg l63r4) (.seq (.cond (.tmp 11) .skip (.exit 0)) (.seq (.block 1 (.seq (.reg l63r5) (.seq (.reg l63r6) (.cond (.tmp 16) (.seq (.reg l63r7) .ret) .skip)))) (.reg l63r8))))))) (.seq (.reg l63r9) .ret)))) [.tmp 2])
theorem l63_eq:lowFn Tryz.prog 63=some l63:=by kernel_rfl
def l64r0:List AOper :=
  [.mk (some 4) (.mv (.const (.bool false))) none []]
def l64r1:List AOper :=
  [.mk (some 7) (.mv (.tmp 0)) none [],.mk (some 8) (.len (.tmp 7)) none [0],.mk (some 9) (.mv (.tmp 1)) none [],.mk (some 10) (.bin .neq (.tmp 8) (.tmp 9)) none [1,2]]
def l64r2:List AOper :=
  [.mk (some 4) (.mv (.const (.bool false))) none []]
def l64r3:List AOper :=
  [.mk (some 11) (.mv (.tmp 0)) none [],.mk (some 12) (.len (.tmp 11)) none [0],.mk (some 13) (.mv (.const (.int .i64 0))) none []]
def l64r4:List AOper :=
  [.mk (some 14) (.bin .lss (.tmp 13) (.tmp 12)) none []]
def l64r5:List AOper :=
  [.mk (some 15) (.idxA 1 (.tmp 11) (.tmp 13)) none [],.mk (some 16) (.load false 1 (.tmp 15)) none [0],.mk (some 6) (.mv (.tmp 16)) none [1,0,1]]
def l64r6:List AOper :=
  [.mk (some 17) (.mv (.tmp 6)) none [],.mk (some 18) (.call 81 [.tmp 17,.const (.int .i64 60)]) none [0],.mk (some 19) (.un .not (.tmp 18)) none [1]]
def l64r7:List AOper :=
  [.mk (some 4) (.mv (.const (.bool false))) none []]
def l64r8:List AOper :=
  [.mk (some 20) (.bin .add (.tmp 13) (.const (.int .i64 1))) none [],.mk (some 13) (.mv (.tmp 20)) none [0]]
def l64r9:List AOper :=
  [.mk (some 4) (.mv (.const (.bool true))) none []]
def l64:AFn :=
  (AFn.mk 21 2 (.seq (.reg l64r0) (.seq (.seq (.reg l64r1) (.cond (.tmp 10) (.seq (.reg l64r2) .ret) .skip)) (.seq (.seq (.reg l64r3) (.block 0 (.loop (.seq (.reg l64r4) (.seq (.cond (.tmp 14) .skip (.exit 0)) (.seq (.block 1 (.seq (.reg l64r5) (.seq (.reg l64r6) (.cond (.tmp 19) (.seq (.reg l64r7) .ret) .skip)))) (.reg l64r8))))))) (.seq (.reg l64r9) .ret)))) [.tmp 4])
theorem l64_eq:lowFn Tryz.prog 64=some l64:=by kernel_rfl
def l65r0:List AOper :=
  [.mk (some 4) (.mv (.const (.bool false))) none []]
def l65r1:List AOper :=
  [.mk (some 5) (.mv (.tmp 0)) none [],.mk (some 6) (.bin .leq (.const (.int .i64 0)) (.tmp 5)) none [0],.mk (some 7) (.mv (.tmp 6)) none [1],.mk (some 8) (.mv (.tmp 0)) (some (7,true)) [2],.mk (some 9) (.mv (.tmp 1)) (some (7,true)) [2],.mk (some 10) (.bin .leq (.tmp 8) (.tmp 9)) (some (7,true)) [3,4,2],.mk (some 11) (.pick (.tmp 7) (.tmp 10) (.const (.bool false))) none [2,5],.mk (some 4) (.mv (.tmp 11)) none [6,2,0,1,2,3,4,5,6]]
def l65:AFn :=
  (AFn.mk 12 2 (.seq (.reg l65r0) (.seq (.reg l65r1) .ret)) [.tmp 4])
theorem l65_eq:lowFn Tryz.prog 65=some l65:=by kernel_rfl
def l66r0:List AOper :=
  [.mk (some 1) (.box (.tmp 0)) none [],.mk (some 2) (.mv (.const (.int .i64 0))) none [],.mk (some 3) (.mv (.const (.int .i64 0))) none [1]]
def l66r1:List AOper :=
  [.mk (some 9) (.load true 3 (.tmp 1)) none [],.mk (some 10) (.call 40 [.tmp 9]) none [0],.mk (some 11) (.bin .eql (.tmp 10) (.const (.int .i64 0))) none [1]]
def l66r2:List AOper :=
  [.mk (some 2) (.mv (.const (.int .i64 (-1)))) none [],.mk (some 3) (.mv (.const (.int .i64 (-1)))) none [0,0]]
def l66r3a:List AOper :=
  [.mk (some 12) (.fld 0 (.tmp 1)) none [],.mk (some 13) (.load false 1 (.tmp 12)) none [0],.mk (some 14) (.fld 0 (.tmp 1)) none [],.mk (some 15) (.load false 1 (.tmp 14)) none [2],.mk (some 4) (.mv (.tmp 13)) none [1,0,1]]
def l66r3b:List AOper :=
  [.mk (some 5) (.mv (.tmp 15)) none [3,4,0,1,2,3,4]]
def l66r3:List AOper:=l66r3a ++ l66r3b
def l66r4:List AOper :=
  [.mk (some 16) (.fld 2 (.tmp 1)) none [],.mk (some 17) (.load false 1 (.tmp 16)) none [0],.mk (some 18) (.len (.tmp 17)) none [1],.mk (some 19) (.mv (.const (.int .i64 0))) none []]
def l66r5:List AOper :=
  [.mk (some 20) (.bin .lss (.tmp 19) (.tmp 18)) none []]
def l66r6:List AOper :=
  [.mk (some 21) (.mv (.tmp 19)) none [],.mk (some 22) (.idxA 1 (.tmp 17) (.tmp 19)) none [],.mk (some 23) (.load false 1 (.tmp 22)) none [1],.mk (some 6) (.mv (.tmp 21)) none [0,0,1,2],.mk (some 7) (.mv (.tmp 23)) none [2,3,0,1,2,3]]
def l66r7:List AOper :=
  [.mk (some 24) (.fld 1 (.tmp 1)) none [],.mk (some 25) (.load false 1 (.tmp 24)) none [0],.mk (some 26) (.mv (.tmp 6)) none [],.mk (some 27) (.idxA 1 (.tmp 25) (.tmp 26)) none [1,2],.mk (some 28) (.load false 1 (.tmp 27)) none [3],.mk (some 29) (.bin .sub (.tmp 28) (.const (.int .i64 1))) none [4],.mk (some 30) (.mv (.tmp 7)) none [],.mk (some 31) (.bin .mul (.tmp 29) (.tmp 30)) none [5,6],.mk (some 8) (.mv (.tmp 31)) none [7,0,1,2,3,4,5,6,7]]
def l66r8:List AOper :=
  [.mk (some 32) (.mv (.tmp 4)) none [],.mk (some 33) (.mv (.tmp 8)) none [],.mk (some 34) (.minmax false (.tmp 33) (.const (.int .i64 0))) none [1],.mk (some 35) (.bin .add (.tmp 32) (.tmp 34)) none [0,2],.mk (some 4) (.mv (.tmp 35)) none [3,0,1,2,3]]
def l66r9:List AOper :=
  [.mk (some 36) (.mv (.tmp 5)) none [],.mk (some 37) (.mv (.tmp 8)) none [],.mk (some 38) (.minmax true (.tmp 37) (.const (.int .i64 0))) none [1],.mk (some 39) (.bin .add (.tmp 36) (.tmp 38)) none [0,2],.mk (some 5) (.mv (.tmp 39)) none [3,0,1,2,3]]
def l66r10:List AOper :=
  [.mk (some 40) (.bin .add (.tmp 19) (.const (.int .i64 1))) none [],.mk (some 19) (.mv (.tmp 40)) none [0]]
def l66r11:List AOper :=
  [.mk (some 41) (.mv (.tmp 4)) none [],.mk (some 42) (.mv (.tmp 5)) none [],.mk (some 2) (.mv (.tmp 41)) none [0,0],.mk (some 3) (.mv (.tmp 42)) none [1,2,0,1,2]]
def l66:AFn :=
  (AFn.mk 43 1 (.seq (.reg l66r0) (.seq (.seq (.reg l66r1) (.cond (.tmp 11) (.seq (.reg l66r2) .ret) .skip)) (.seq (.draw l66r3) (.seq (.seq (.reg l66r4) (.block 0 (.loop (.seq (.reg l66r5) (.seq (.cond (.tmp 20) .skip (.exit 0)) (.seq (.block 1 (.seq (.reg l66r6) (.seq (.reg l66r7) (.seq (.reg l66r8) (.reg l66r9))))) (.reg l66r10))))))) (.seq (.reg l66r11) .ret))))) [.tmp 2,.tmp 3])
theorem l66_eq:lowFn Tryz.prog 66=some l66:=by kernel_rfl
def l67r0:List AOper :=
  [.mk (some 2) (.mv (.const (.map none))) none []]
def l67r1:List AOper :=
  [.mk (some 6) (.raw (Op.makeMap 76 none)) none [],.mk (some 3) (.mv (.tmp 6)) none [0,0]]
def l67r2:List AOper :=
  [.mk (some 7) (.mv (.tmp 0)) none [],.mk (some 8) (.len (.tmp 7)) none [0],.mk (some 9) (.mv (.const (.int .i64 0))) none []]
def l67r3:List AOper :=
  [.mk (some 10) (.bin .lss (.tmp 9) (.tmp 8)) none []]
def l67r4:List AOper :=
  [.mk (some 11) (.idxA 3 (.tmp 7) (.tmp 9)) none [],.mk (some 12) (.load true 3 (.tmp 11)) none [0],.mk (some 5) (.alloc [.int .i64 0,.slice none 0 0,.slice none 0 0]) none [],.mk none (.store 3 (.tmp 5) (.tmp 12)) none [2,1,0,1,2]]
def l67r5:List AOper :=
  [.mk (some 13) (.mv (.tmp 3)) none [],.mk (some 14) (.load true 3 (.tmp 5)) none [],.mk (some 15) (.call 36 [.tmp 14]) none [1],.mk (some 16) (.call 82 [.tmp 13,.tmp 15]) none [0,2,2]]
def l67r6:List AOper :=
  [.mk (some 17) (.bin .add (.tmp 9) (.const (.int .i64 1))) none [],.mk (some 9) (.mv (.tmp 17)) none [0]]
def l67r7:List AOper :=
  [.mk (some 18) (.mv (.tmp 3)) none [],.mk (some 2) (.mv (.tmp 18)) none [0,0]]
def l67:AFn :=
  (AFn.mk 19 1 (.seq (.reg l67r0) (.seq (.reg l67r1) (.seq (.seq (.reg l67r2) (.block 0 (.loop (.seq (.reg l67r3) (.seq (.cond (.tmp 10) .skip (.exit 0)) (.seq (.block 1 (.seq (.reg l67r4) (.reg l67r5))) (.reg l67r6))))))) (.seq (.reg l67r7) .ret)))) [.tmp 2])
theorem l67_eq:lowFn Tryz.prog 67=some l67:=by kernel_rfl
def l68r0:List AOper :=
  [.mk (some 4) (.mv (.const (.slice none 0 0))) none []]
def l68r1:List AOper :=
  [.mk (some 5) (.mv (.const (.slice none 0 0))) none []]
def l68r2:List AOper :=
  [.mk (some 8) (.mv (.tmp 0)) none [],.mk (some 9) (.raw (Op.range 76 (.tmp 8))) none [0]]
def l68r3:List AOper :=
  [.mk (some 10) (.raw (Op.next (.tmp 9) false)) none [],.mk (some 11) (.extract (.tmp 10) 0) none [0]]
def l68r4:List AOper :=
  [.mk (some 12) (.raw (Op.entry (.tmp 9))) none [],.mk (some 13) (.extract (.tmp 12) 0) none [0],.mk (some 14) (.extract (.tmp 12) 1) none [0],.mk (some 6) (.mv (.tmp 13)) none [1,0,1],.mk (some 7) (.mv (.tmp 14)) none [2,3,0,1,2,3]]
def l68r5:List AOper :=
  [.mk (some 15) (.mv (.tmp 7)) none [],.mk (some 16) (.mv (.tmp 1)) none [],.mk (some 17) (.bin .geq (.tmp 15) (.tmp 16)) none [0,1]]
def l68r6:List AOper :=
  [.mk (some 18) (.mv (.tmp 5)) none [],.mk (some 19) (.mv (.tmp 6)) none [],.mk (some 20) (.bslice 1 [.int .i64 0] [(0,.tmp 19)] 1) none [1],.mk (some 21) (.append 1 (.tmp 18) (.tmp 20)) none [0,2],.mk (some 5) (.mv (.tmp 21)) none [3,3,0,1,2,3]]
def l68r7:List AOper :=
  [.mk (some 22) (.mv (.tmp 5)) none [],.mk (some 23) (.call 83 [.tmp 22]) none [0]]
def l68r8:List AOper :=
  [.mk (some 24) (.mv (.tmp 5)) none [],.mk (some 4) (.mv (.tmp 24)) none [0,0]]
def l68:AFn :=
  (AFn.mk 25 2 (.seq (.reg l68r0) (.seq (.reg l68r1) (.seq (.seq (.reg l68r2) (.block 0 (.loop (.seq (.reg l68r3) (.seq (.cond (.tmp 11) .skip (.exit 0)) (.block 1 (.seq (.reg l68r4) (.seq (.reg l68r5) (.cond (.tmp 17) (.reg l68r6) .skip))))))))) (.seq (.reg l68r7) (.seq (.reg l68r8) .ret))))) [.tmp 4])
theorem l68_eq:lowFn Tryz.prog 68=some l68:=by kernel_rfl
def l69r0:List AOper :=
  [.mk (some 2) (.box (.tmp 0)) none [],.mk (some 3) (.box (.tmp 1)) none [],.mk (some 4) (.mv (.const (.int .i64 0))) none []]
def l69r1a:List AOper :=
  [.mk (some 5) (.fld 0 (.tmp 2)) none [],.mk (some 6) (.load false 1 (.tmp 5)) none [0],.mk (some 7) (.load true 4 (.tmp 3)) none [],.mk (some 8) (.fld 2 (.tmp 2)) none [],.mk (some 9) (.load false 1 (.tmp 8)) none [3],.mk (some 10) (.call 84 [.tmp 7,.tmp 9]) none [2,4]]
def l69r1b:List AOper :=
  [.mk (some 11) (.bin .add (.tmp 6) (.tmp 10)) none [1,5],.mk (some 4) (.mv (.tmp 11)) none [6,5,0,1,2,3,4,5,6]]
def l69r1:List AOper:=l69r1a ++ l69r1b
def l69:AFn :=
  (AFn.mk 12 2 (.seq (.reg l69r0) (.seq (.draw l69r1) .ret)) [.tmp 4])
theorem l69_eq:lowFn Tryz.prog 69=some l69:=by kernel_rfl
def l70r0:List AOper :=
  [.mk (some 4) (.alloc [.int .i64 0,.int .i64 0,.int .i64 0,.int .i64 0]) none []]
def l70r1:List AOper :=
  [.mk (some 5) (.alloc [.int .i64 0,.int .i64 0,.int .i64 0,.int .i64 0]) none []]
def l70r2:List AOper :=
  [.mk (some 7) (.mv (.tmp 0)) none [],.mk (some 8) (.len (.tmp 7)) none [0],.mk (some 9) (.bin .sub (.tmp 8) (.const (.int .i64 1))) none [1],.mk (some 6) (.mv (.tmp 9)) none [2,0,1,2]]
def l70r3:List AOper :=
  [.mk (some 10) (.mv (.tmp 6)) none [],.mk (some 11) (.bin .geq (.tmp 10) (.const (.int .i64 0))) none [0]]
def l70r4:List AOper :=
  [.mk (some 14) (.mv (.tmp 6)) none [],.mk (some 15) (.mv (.tmp 1)) none [],.mk (some 16) (.mv (.tmp 0)) none [],.mk (some 17) (.mv (.tmp 6)) none [],.mk (some 18) (.idxA 1 (.tmp 16) (.tmp 17)) none [2,3],.mk (some 19) (.load false 1 (.tmp 18)) none [4],.mk (some 20) (.bin .rem (.tmp 15) (.tmp 19)) none [1,5],.mk (some 21) (.idxP 1 4 (.tmp 5) (.tmp 14)) none [0,0,1,2,3,4,5,6],.mk none (.store 1 (.tmp 21) (.tmp 20)) none [7,6,0,1,2,3,4,5,6]]
def l70r5:List AOper :=
  [.mk (some 22) (.mv (.tmp 1)) none [],.mk (some 23) (.mv (.tmp 0)) none [],.mk (some 24) (.mv (.tmp 6)) none [],.mk (some 25) (.idxA 1 (.tmp 23) (.tmp 24)) none [1,2],.mk (some 26) (.load false 1 (.tmp 25)) none [3],.mk (some 27) (.bin .quo (.tmp 22) (.tmp 26)) none [0,4],.mk (some 1) (.mv (.tmp 27)) none [5,0,1,2,3,4,5]]
def l70r6:List AOper :=
  [.mk (some 12) (.mv (.tmp 6)) none [],.mk (some 13) (.bin .sub (.tmp 12) (.const (.int .i64 1))) none [0],.mk (some 6) (.mv (.tmp 13)) none [1,0,1]]
def l70r7:List AOper :=
  [.mk (some 28) (.load true 4 (.tmp 5)) none [],.mk none (.store 4 (.tmp 4) (.tmp 28)) none [0,0]]
def l70:AFn :=
  (AFn.mk 29 2 (.seq (.reg l70r0) (.seq (.reg l70r1) (.seq (.seq (.reg l70r2) (.block 0 (.loop (.seq (.seq (.reg l70r3) (.cond (.tmp 11) .skip (.exit 0))) (.seq (.block 1 (.seq (.reg l70r4) (.reg l70r5))) (.reg l70r6)))))) (.seq (.reg l70r7) .ret)))) [.cell 4 true 4])
theorem l70_eq:lowFn Tryz.prog 70=some l70:=by kernel_rfl
def l72r0:List AOper :=
  [.mk (some 2) (.mv (.const (.int .i64 0))) none []]
def l72r1:List AOper :=
  [.mk (some 3) (.mv (.const (.int .i64 1))) none []]
def l72r2:List AOper :=
  [.mk (some 6) (.mv (.tmp 0)) none [],.mk (some 7) (.len (.tmp 6)) none [0],.mk (some 8) (.mv (.const (.int .i64 0))) none []]
def l72r3:List AOper :=
  [.mk (some 9) (.bin .lss (.tmp 8) (.tmp 7)) none []]
def l72r4:List AOper :=
  [.mk (some 10) (.idxA 1 (.tmp 6) (.tmp 8)) none [],.mk (some 11) (.load false 1 (.tmp 10)) none [0],.mk (some 5) (.mv (.tmp 11)) none [1,0,1]]
def l72r5:List AOper :=
  [.mk (some 12) (.mv (.tmp 3)) none [],.mk (some 13) (.mv (.tmp 5)) none [],.mk (some 14) (.bin .mul (.tmp 12) (.tmp 13)) none [0,1],.mk (some 3) (.mv (.tmp 14)) none [2,0,1,2]]
def l72r6:List AOper :=
  [.mk (some 15) (.bin .add (.tmp 8) (.const (.int .i64 1))) none [],.mk (some 8) (.mv (.tmp 15)) none [0]]
def l72r7:List AOper :=
  [.mk (some 16) (.mv (.tmp 3)) none [],.mk (some 2) (.mv (.tmp 16)) none [0,0]]
def l72:AFn :=
  (AFn.mk 17 1 (.seq (.reg l72r0) (.seq (.reg l72r1) (.seq (.seq (.reg l72r2) (.block 0 (.loop (.seq (.reg l72r3) (.seq (.cond (.tmp 9) .skip (.exit 0)) (.seq (.block 1 (.seq (.reg l72r4) (.reg l72r5))) (.reg l72r6))))))) (.seq (.reg l72r7) .ret)))) [.tmp 2])
theorem l72_eq:lowFn Tryz.prog 72=some l72:=by kernel_rfl
def l73r0:List AOper :=
  [.mk (some 2) (.box (.tmp 0)) none [],.mk (some 4) (.mv (.const (.int .i64 0))) none []]
def l73r1:List AOper :=
  [.mk (some 7) (.fld 0 (.tmp 2)) none [],.mk (some 8) (.load false 1 (.tmp 7)) none [0],.mk (some 5) (.mv (.tmp 8)) none [1,0,1]]
def l73r2:List AOper :=
  [.mk (some 6) (.mv (.const (.int .i64 0))) none []]
def l73r3:List AOper :=
  [.mk (some 9) (.mv (.tmp 6)) none [],.mk (some 10) (.mv (.tmp 1)) none [],.mk (some 11) (.len (.tmp 10)) none [1],.mk (some 12) (.bin .lss (.tmp 9) (.tmp 11)) none [0,2]]
def l73r4a:List AOper :=
  [.mk (some 15) (.mv (.tmp 5)) none [],.mk (some 16) (.mv (.tmp 1)) none [],.mk (some 17) (.mv (.tmp 6)) none [],.mk (some 18) (.idxA 1 (.tmp 16) (.tmp 17)) none [1,2],.mk (some 19) (.load false 1 (.tmp 18)) none [3],.mk (some 20) (.fld 2 (.tmp 2)) none [],.mk (some 21) (.load false 1 (.tmp 20)) none [5],.mk (some 22) (.mv (.tmp 6)) none [],.mk (some 23) (.idxA 1 (.tmp 21) (.tmp 22)) none [6,7],.mk (some 24) (.load false 1 (.tmp 23)) none [8],.mk (some 25) (.bin .mul (.tmp 19) (.tmp 24)) none [4,9]]
def l73r4b:List AOper :=
  [.mk (some 26) (.bin .add (.tmp 15) (.tmp 25)) none [0,10],.mk (some 5) (.mv (.tmp 26)) none [11,0,1,2,3,4,5,6,7,8,9,10,11]]
def l73r4:List AOper:=l73r4a ++ l73r4b
def l73r5:List AOper :=
  [.mk (some 13) (.mv (.tmp 6)) none [],.mk (some 14) (.bin .add (.tmp 13) (.const (.int .i64 1))) none [0],.mk (some 6) (.mv (.tmp 14)) none [1,0,1]]
def l73r6:List AOper :=
  [.mk (some 27) (.mv (.tmp 5)) none [],.mk (some 4) (.mv (.tmp 27)) none [0,0]]
def l73:AFn :=
  (AFn.mk 28 2 (.seq (.reg l73r0) (.seq (.reg l73r1) (.seq (.seq (.reg l73r2) (.block 0 (.loop (.seq (.seq (.reg l73r3) (.cond (.tmp 12) .skip (.exit 0))) (.seq (.block 1 (.draw l73r4)) (.reg l73r5)))))) (.seq (.reg l73r6) .ret)))) [.tmp 4])
theorem l73_eq:lowFn Tryz.prog 73=some l73:=by kernel_rfl
def l74r0:List AOper :=
  [.mk (some 4) (.mv (.const (.slice none 0 0))) none []]
def l74r1:List AOper :=
  [.mk (some 7) (.mv (.tmp 0)) none [],.mk (some 8) (.len (.tmp 7)) none [0],.mk (some 9) (.mkslice 1 [.int .i64 0] (.tmp 8) (.tmp 8)) none [1,1],.mk (some 5) (.mv (.tmp 9)) none [2,0,1,2]]
def l74r2:List AOper :=
  [.mk (some 10) (.mv (.tmp 0)) none [],.mk (some 11) (.len (.tmp 10)) none [0],.mk (some 12) (.bin .sub (.tmp 11) (.const (.int .i64 1))) none [1],.mk (some 6) (.mv (.tmp 12)) none [2,0,1,2]]
def l74r3:List AOper :=
  [.mk (some 13) (.mv (.tmp 6)) none [],.mk (some 14) (.bin .geq (.tmp 13) (.const (.int .i64 0))) none [0]]
def l74r4:List AOper :=
  [.mk (some 17) (.mv (.tmp 5)) none [],.mk (some 18) (.mv (.tmp 6)) none [],.mk (some 19) (.mv (.tmp 1)) none [],.mk (some 20) (.mv (.tmp 0)) none [],.mk (some 21) (.mv (.tmp 6)) none [],.mk (some 22) (.idxA 1 (.tmp 20) (.tmp 21)) none [3,4],.mk (some 23) (.load false 1 (.tmp 22)) none [5],.mk (some 24) (.bin .rem (.tmp 19) (.tmp 23)) none [2,6],.mk (some 25) (.idxA 1 (.tmp 17) (.tmp 18)) none [0,1,0,1,2,3,4,5,6,7],.mk none (.store 1 (.tmp 25) (.tmp 24)) none [8,7,0,1,2,3,4,5,6,7]]
def l74r5:List AOper :=
  [.mk (some 26) (.mv (.tmp 1)) none [],.mk (some 27) (.mv (.tmp 0)) none [],.mk (some 28) (.mv (.tmp 6)) none [],.mk (some 29) (.idxA 1 (.tmp 27) (.tmp 28)) none [1,2],.mk (some 30) (.load false 1 (.tmp 29)) none [3],.mk (some 31) (.bin .quo (.tmp 26) (.tmp 30)) none [0,4],.mk (some 1) (.mv (.tmp 31)) none [5,0,1,2,3,4,5]]
def l74r6:List AOper :=
  [.mk (some 15) (.mv (.tmp 6)) none [],.mk (some 16) (.bin .sub (.tmp 15) (.const (.int .i64 1))) none [0],.mk (some 6) (.mv (.tmp 16)) none [1,0,1]]
def l74r7:List AOper :=
  [.mk (some 32) (.mv (.tmp 5)) none [],.mk (some 4) (.mv (.tmp 32)) none [0,0]]
def l74:AFn :=
  (AFn.mk 33 2 (.seq (.reg l74r0) (.seq (.reg l74r1) (.seq (.seq (.reg l74r2) (.block 0 (.loop (.seq (.seq (.reg l74r3) (.cond (.tmp 14) .skip (.exit 0))) (.seq (.block 1 (.seq (.reg l74r4) (.reg l74r5))) (.reg l74r6)))))) (.seq (.reg l74r7) .ret)))) [.tmp 4])
theorem l74_eq:lowFn Tryz.prog 74=some l74:=by kernel_rfl
def l79r0:List AOper :=
  [.mk (some 4) (.mv (.const (.int .i64 0))) none []]
def l79r1:List AOper :=
  [.mk (some 5) (.mv (.const (.int .i64 0))) none []]
def l79r2:List AOper :=
  [.mk (some 6) (.mv (.tmp 5)) none [],.mk (some 7) (.mv (.tmp 0)) none [],.mk (some 8) (.len (.tmp 7)) none [1],.mk (some 9) (.bin .lss (.tmp 6) (.tmp 8)) none [0,2]]
def l79r3:List AOper :=
  [.mk (some 12) (.mv (.tmp 0)) none [],.mk (some 13) (.mv (.tmp 5)) none [],.mk (some 14) (.idxA 1 (.tmp 12) (.tmp 13)) none [0,1],.mk (some 15) (.load false 1 (.tmp 14)) none [2],.mk (some 16) (.mv (.tmp 1)) none [],.mk (some 17) (.bin .eql (.tmp 15) (.tmp 16)) none [3,4]]
def l79r4:List AOper :=
  [.mk (some 18) (.mv (.tmp 5)) none [],.mk (some 4) (.mv (.tmp 18)) none [0,0]]
def l79r5:List AOper :=
  [.mk (some 10) (.mv (.tmp 5)) none [],.mk (some 11) (.bin .add (.tmp 10) (.const (.int .i64 1))) none [0],.mk (some 5) (.mv (.tmp 11)) none [1,0,1]]
def l79r6:List AOper :=
  [.mk (some 4) (.mv (.const (.int .i64 (-1)))) none []]
def l79:AFn :=
  (AFn.mk 19 2 (.seq (.reg l79r0) (.seq (.seq (.reg l79r1) (.block 0 (.loop (.seq (.seq (.reg l79r2) (.cond (.tmp 9) .skip (.exit 0))) (.seq (.block 1 (.seq (.reg l79r3) (.cond (.tmp 17) (.seq (.reg l79r4) .ret) .skip))) (.reg l79r5)))))) (.seq (.reg l79r6) .ret))) [.tmp 4])
theorem l79_eq:lowFn Tryz.prog 79=some l79:=by kernel_rfl
def l80r0:List AOper :=
  [.mk (some 2) (.alloc [.int .i64 0,.slice none 0 0,.slice none 0 0]) none []]
def l80r1:List AOper :=
  [.mk (some 8) (.mv (.tmp 0)) none [],.mk (some 9) (.call 91 [.tmp 8]) none [0],.mk (some 10) (.call 90 [.tmp 9]) none [1,1],.mk (some 3) (.alloc [.int .i64 0,.slice none 0 0,.slice none 0 0]) none [],.mk none (.store 3 (.tmp 3) (.tmp 10)) none [3,2,2,0,1,2,3]]
def l80r2:List AOper :=
  [.mk (some 11) (.mv (.tmp 0)) none [],.mk (some 12) (.mv (.tmp 0)) none [],.mk (some 13) (.call 44 [.tmp 12,.const (.int .i64 10)]) none [1],.mk (some 14) (.bslice 1 [.int .i64 0] [(0,.const (.int .i64 0)),(1,.const (.int .i64 0)),(2,.const (.int .i64 1)),(3,.const (.int .i64 3)),(4,.tmp 13)] 5) none [2],.mk (some 15) (.call 37 [.tmp 11,.tmp 14]) none [0,3,2],.mk (some 16) (.fld 0 (.tmp 3)) none [0,1,2,3,4],.mk none (.store 1 (.tmp 16) (.tmp 15)) none [5,4,4,0,1,2,3,4]]
def l80r3:List AOper :=
  [.mk (some 17) (.mv (.tmp 0)) none [],.mk (some 18) (.call 44 [.tmp 17,.const (.int .i64 4)]) none [0],.mk (some 4) (.mv (.tmp 18)) none [1,1,0,1]]
def l80r4:List AOper :=
  [.mk (some 19) (.mv (.tmp 4)) none [],.mk (some 20) (.bin .gtr (.tmp 19) (.const (.int .i64 0))) none [0],.mk (some 21) (.mv (.tmp 20)) none [1],.mk (some 22) (.fld 1 (.tmp 3)) (some (21,true)) [2],.mk (some 23) (.load false 1 (.tmp 22)) (some (21,true)) [3,2],.mk (some 24) (.len (.tmp 23)) (some (21,true)) [4,2],.mk (some 25) (.bin .gtr (.tmp 24) (.const (.int .i64 0))) (some (21,true)) [5,2],.mk (some 26) (.pick (.tmp 21) (.tmp 25) (.const (.bool false))) none [2,6]]
def l80r5:List AOper :=
  [.mk (some 29) (.mv (.tmp 0)) none [],.mk (some 30) (.fld 1 (.tmp 3)) none [],.mk (some 31) (.load false 1 (.tmp 30)) none [1],.mk (some 32) (.len (.tmp 31)) none [2],.mk (some 33) (.call 44 [.tmp 29,.tmp 32]) none [0,3],.mk (some 5) (.mv (.tmp 33)) none [4,4,0,1,2,3,4]]
def l80r6:List AOper :=
  [.mk (some 34) (.load true 3 (.tmp 3)) none [],.mk (some 6) (.alloc [.int .i64 0,.slice none 0 0,.slice none 0 0]) none [],.mk none (.store 3 (.tmp 6) (.tmp 34)) none [1,0,0,1]]
def l80r7:List AOper :=
  [.mk (some 7) (.mv (.const (.bool false))) none []]
def l80r8:List AOper :=
  [.mk (some 35) (.mv (.tmp 0)) none [],.mk (some 36) (.call 44 [.tmp 35,.const (.int .i64 6)]) none [0]]
def l80r9:List AOper :=
  [.mk (some 47) (.bin .eql (.tmp 36) (.const (.int .i64 0))) none [],.mk (some 46) (.mv (.tmp 47)) none [0]]
def l80r10a:List AOper :=
  [.mk (some 49) (.load true 3 (.tmp 3)) none [],.mk (some 50) (.mv (.tmp 5)) none [],.mk (some 51) (.mv (.tmp 0)) none [],.mk (some 52) (.call 93 [.tmp 51]) none [2],.mk (some 53) (.call 92 [.tmp 49,.tmp 50,.tmp 52]) none [0,1,3,3],.mk (some 48) (.mv (.tmp 53)) none [4],.mk (some 54) (.extract (.tmp 48) 0) none [5],.mk (some 55) (.extract (.tmp 48) 1) none [5],.mk none (.store 3 (.tmp 6) (.tmp 54)) none [6,4,0,1,2,3,4,5,6]]
def l80r10b:List AOper :=
  [.mk (some 7) (.mv (.tmp 55)) none [7,8,0,1,2,3,4,5,6,7,8]]
def l80r10:List AOper:=l80r10a ++ l80r10b
def l80r11:List AOper :=
  [.mk (some 57) (.bin .eql (.tmp 36) (.const (.int .i64 1))) none [],.mk (some 56) (.mv (.tmp 57)) none [0]]
def l80r12:List AOper :=
  [.mk (some 59) (.load true 3 (.tmp 3)) none [],.mk (some 60) (.mv (.tmp 5)) none [],.mk (some 61) (.call 88 [.tmp 59,.tmp 60]) none [0,1],.mk (some 58) (.mv (.tmp 61)) none [2],.mk (some 62) (.extract (.tmp 58) 0) none [3],.mk (some 63) (.extract (.tmp 58) 1) none [3],.mk none (.store 3 (.tmp 6) (.tmp 62)) none [4,2,0,1,2,3,4],.mk (some 7) (.mv (.tmp 63)) none [5,6,0,1,2,3,4,5,6]]
def l80r13:List AOper :=
  [.mk (some 65) (.bin .eql (.tmp 36) (.const (.int .i64 2))) none [],.mk (some 64) (.mv (.tmp 65)) none [0]]
def l80r14a:List AOper :=
  [.mk (some 67) (.load true 3 (.tmp 3)) none [],.mk (some 68) (.fld 1 (.tmp 3)) none [],.mk (some 69) (.load false 1 (.tmp 68)) none [1],.mk (some 70) (.len (.tmp 69)) none [2],.mk (some 71) (.call 96 [.tmp 70]) none [3],.mk (some 72) (.call 95 [.tmp 71]) none [4,4],.mk (some 73) (.call 94 [.tmp 67,.tmp 72]) none [0,5,5],.mk (some 66) (.mv (.tmp 73)) none [6],.mk (some 74) (.extract (.tmp 66) 0) none [7],.mk (some 75) (.extract (.tmp 66) 1) none [7],.mk none (.store 3 (.tmp 6) (.tmp 74)) none [8,6,0,1,2,3,4,5,6,7,8]]
def l80r14b:List AOper :=
  [.mk (some 7) (.mv (.tmp 75)) none [9,10,0,1,2,3,4,5,6,7,8,9,10]]
def l80r14:List AOper:=l80r14a ++ l80r14b
def l80r15:List AOper :=
  [.mk (some 77) (.bin .eql (.tmp 36) (.const (.int .i64 3))) none [],.mk (some 76) (.mv (.tmp 77)) none [0]]
def l80r16a:List AOper :=
  [.mk (some 79) (.load true 3 (.tmp 3)) none [],.mk (some 80) (.mv (.tmp 5)) none [],.mk (some 81) (.mv (.tmp 0)) none [],.mk (some 82) (.call 44 [.tmp 81,.const (.int .i64 3)]) none [2],.mk (some 83) (.bin .add (.const (.int .i64 1)) (.tmp 82)) none [3],.mk (some 84) (.call 97 [.tmp 79,.tmp 80,.tmp 83]) none [0,1,4,3],.mk (some 78) (.mv (.tmp 84)) none [5],.mk (some 85) (.extract (.tmp 78) 0) none [6],.mk (some 86) (.extract (.tmp 78) 1) none [6],.mk none (.store 3 (.tmp 6) (.tmp 85)) none [7,5,0,1,2,3,4,5,6,7]]
def l80r16b:List AOper :=
  [.mk (some 7) (.mv (.tmp 86)) none [8,9,0,1,2,3,4,5,6,7,8,9]]
def l80r16:List AOper:=l80r16a ++ l80r16b
def l80r17:List AOper :=
  [.mk (some 88) (.bin .eql (.tmp 36) (.const (.int .i64 4))) none [],.mk (some 87) (.mv (.tmp 88)) none [0]]
def l80r18:List AOper :=
  [.mk (some 90) (.load true 3 (.tmp 3)) none [],.mk (some 91) (.mv (.tmp 5)) none [],.mk (some 92) (.call 98 [.tmp 90,.tmp 91]) none [0,1],.mk (some 89) (.mv (.tmp 92)) none [2],.mk (some 93) (.extract (.tmp 89) 0) none [3],.mk (some 94) (.extract (.tmp 89) 1) none [3],.mk none (.store 3 (.tmp 6) (.tmp 93)) none [4,2,0,1,2,3,4],.mk (some 7) (.mv (.tmp 94)) none [5,6,0,1,2,3,4,5,6]]
def l80r19:List AOper :=
  [.mk (some 37) (.load true 3 (.tmp 3)) none [],.mk (some 38) (.call 87 [.tmp 37]) none [0],.mk none (.store 3 (.tmp 6) (.tmp 38)) none [1,1,0,1]]
def l80r20a:List AOper :=
  [.mk (some 39) (.fld 2 (.tmp 6)) none [],.mk (some 40) (.load false 1 (.tmp 39)) none [0],.mk (some 41) (.mv (.tmp 5)) none [],.mk (some 42) (.mv (.tmp 0)) none [],.mk (some 43) (.bslice 1 [.int .i64 0] [(0,.const (.int .i64 0)),(1,.const (.int .i64 2)),(2,.const (.int .i64 3)),(3,.const (.int .i64 1)),(4,.const (.int .i64 (-1))),(5,.const (.int .i64 5))] 6) none [],.mk (some 44) (.call 37 [.tmp 42,.tmp 43]) none [3,4]]
def l80r20b:List AOper :=
  [.mk (some 45) (.idxA 1 (.tmp 40) (.tmp 41)) none [1,2,0,1,2,3,4,5],.mk none (.store 1 (.tmp 45) (.tmp 44)) none [6,5,5,0,1,2,3,4,5]]
def l80r20:List AOper:=l80r20a ++ l80r20b
def l80r21:List AOper :=
  [.mk (some 7) (.mv (.const (.bool true))) none []]
def l80r22:List AOper :=
  [.mk (some 95) (.mv (.tmp 7)) none [],.mk (some 96) (.mv (.tmp 95)) none [0],.mk (some 97) (.load true 3 (.tmp 6)) (some (96,true)) [1],.mk (some 98) (.call 59 [.tmp 97]) (some (96,true)) [2,1,1],.mk (some 99) (.pick (.tmp 96) (.tmp 98) (.const (.bool false))) none [1,3]]
def l80r23:List AOper :=
  [.mk (some 100) (.load true 3 (.tmp 6)) none [],.mk none (.store 3 (.tmp 3) (.tmp 100)) none [0,0]]
def l80r24:List AOper :=
  [.mk (some 27) (.mv (.tmp 4)) none [],.mk (some 28) (.bin .sub (.tmp 27) (.const (.int .i64 1))) none [0],.mk (some 4) (.mv (.tmp 28)) none [1,0,1]]
def l80r25:List AOper :=
  [.mk (some 101) (.load true 3 (.tmp 3)) none [],.mk (some 102) (.call 59 [.tmp 101]) none [0],.mk (some 103) (.un .not (.tmp 102)) none [1]]
def l80r26:List AOper :=
  [.mk (some 104) (.fld 0 (.tmp 3)) none [],.mk none (.store 1 (.tmp 104) (.const (.int .i64 0))) none [0]]
def l80r27:List AOper :=
  [.mk (some 105) (.load true 3 (.tmp 3)) none [],.mk none (.store 3 (.tmp 2) (.tmp 105)) none [0,0]]
def l80:AFn :=
  (AFn.mk 106 1 (.seq (.reg l80r0) (.seq (.reg l80r1) (.seq (.reg l80r2) (.seq (.seq (.reg l80r3) (.block 0 (.loop (.seq (.seq (.reg l80r4) (.cond (.tmp 26) .skip (.exit 0))) (.seq (.block 1 (.seq (.reg l80r5) (.seq (.reg l80r6) (.seq (.reg l80r7) (.seq (.seq (.reg l80r8) (.block 2 (.seq (.reg l80r9) (.cond (.tmp 46) (.draw l80r10) (.seq (.reg l80r11) (.cond (.tmp 56) (.reg l80r12) (.seq (.reg l80r13) (.cond (.tmp 64) (.draw l80r14) (.seq (.reg l80r15) (.cond (.tmp 76) (.draw l80r16) (.seq (.reg l80r17) (.cond (.tmp 87) (.reg l80r18) (.seq (.reg l80r19) (.seq (.draw l80r20) (.reg l80r21))))))))))))))) (.seq (.reg l80r22) (.cond (.tmp 99) (.reg l80r23) .skip))))))) (.reg l80r24)))))) (.seq (.seq (.reg l80r25) (.cond (.tmp 103) (.reg l80r26) .skip)) (.seq (.reg l80r27) .ret)))))) [.cell 2 true 3])
theorem l80_eq:lowFn Tryz.prog 80=some l80:=by kernel_rfl
def l81r0:List AOper :=
  [.mk (some 4) (.mv (.const (.bool false))) none []]
def l81r1:List AOper :=
  [.mk (some 5) (.mv (.tmp 1)) none [],.mk (some 6) (.un .neg (.tmp 5)) none [0],.mk (some 7) (.mv (.tmp 0)) none [],.mk (some 8) (.bin .leq (.tmp 6) (.tmp 7)) none [1,2],.mk (some 9) (.mv (.tmp 8)) none [3],.mk (some 10) (.mv (.tmp 0)) (some (9,true)) [4],.mk (some 11) (.mv (.tmp 1)) (some (9,true)) [4],.mk (some 12) (.bin .leq (.tmp 10) (.tmp 11)) (some (9,true)) [5,6,4],.mk (some 13) (.pick (.tmp 9) (.tmp 12) (.const (.bool false))) none [4,7],.mk (some 4) (.mv (.tmp 13)) none [8,4,0,1,2,3,4,5,6,7,8]]
def l81:AFn :=
  (AFn.mk 14 2 (.seq (.reg l81r0) (.seq (.reg l81r1) .ret)) [.tmp 4])
theorem l81_eq:lowFn Tryz.prog 81=some l81:=by kernel_rfl
def l82r0:List AOper :=
  [.mk (some 6) (.mv (.tmp 1)) none [],.mk (some 7) (.len (.tmp 6)) none [0],.mk (some 8) (.mv (.const (.int .i64 0))) none []]
def l82r1:List AOper :=
  [.mk (some 9) (.bin .lss (.tmp 8) (.tmp 7)) none []]
def l82r2:List AOper :=
  [.mk (some 10) (.idxA 1 (.tmp 6) (.tmp 8)) none [],.mk (some 11) (.load false 1 (.tmp 10)) none [0],.mk (some 5) (.mv (.tmp 11)) none [1,0,1]]
def l82r3:List AOper :=
  [.mk (some 12) (.mv (.tmp 0)) none [],.mk (some 13) (.mv (.tmp 5)) none [],.mk (some 14) (.raw (Op.lookup 76 (.tmp 12) (.tmp 13) false)) none [0,1],.mk (some 15) (.bin .add (.tmp 14) (.const (.int .i64 1))) none [2],.mk none (.raw (Op.mapUpdate 76 (.tmp 12) (.tmp 13) (.tmp 15))) none [0,1,3,0,1,2,3]]
def l82r4:List AOper :=
  [.mk (some 16) (.bin .add (.tmp 8) (.const (.int .i64 1))) none [],.mk (some 8) (.mv (.tmp 16)) none [0]]
def l82:AFn :=
  (AFn.mk 17 2 (.seq (.reg l82r0) (.block 0 (.loop (.seq (.reg l82r1) (.seq (.cond (.tmp 9) .skip (.exit 0)) (.seq (.block 1 (.seq (.reg l82r2) (.reg l82r3))) (.reg l82r4))))))) [])
theorem l82_eq:lowFn Tryz.prog 82=some l82:=by kernel_rfl
def l84r0:List AOper :=
  [.mk (some 2) (.box (.tmp 0)) none [],.mk (some 4) (.mv (.const (.int .i64 0))) none []]
def l84r1:List AOper :=
  [.mk (some 5) (.mv (.const (.int .i64 0))) none []]
def l84r2:List AOper :=
  [.mk (some 8) (.mv (.tmp 1)) none [],.mk (some 9) (.len (.tmp 8)) none [0],.mk (some 10) (.mv (.const (.int .i64 0))) none []]
def l84r3:List AOper :=
  [.mk (some 11) (.bin .lss (.tmp 10) (.tmp 9)) none []]
def l84r4:List AOper :=
  [.mk (some 12) (.mv (.tmp 10)) none [],.mk (some 13) (.idxA 1 (.tmp 8) (.tmp 10)) none [],.mk (some 14) (.load false 1 (.tmp 13)) none [1],.mk (some 6) (.mv (.tmp 12)) none [0,0,1,2],.mk (some 7) (.mv (.tmp 14)) none [2,3,0,1,2,3]]
def l84r5:List AOper :=
  [.mk (some 15) (.mv (.tmp 5)) none [],.mk (some 16) (.mv (.tmp 6)) none [],.mk (some 17) (.idxP 1 4 (.tmp 2) (.tmp 16)) none [1],.mk (some 18) (.load false 1 (.tmp 17)) none [2],.mk (some 19) (.mv (.tmp 7)) none [],.mk (some 20) (.bin .mul (.tmp 18) (.tmp 19)) none [3,4],.mk (some 21) (.bin .add (.tmp 15) (.tmp 20)) none [0,5],.mk (some 5) (.mv (.tmp 21)) none [6,0,1,2,3,4,5,6]]
def l84r6:List AOper :=
  [.mk (some 22) (.bin .add (.tmp 10) (.const (.int .i64 1))) none [],.mk (some 10) (.mv (.tmp 22)) none [0]]
def l84r7:List AOper :=
  [.mk (some 23) (.mv (.tmp 5)) none [],.mk (some 4) (.mv (.tmp 23)) none [0,0]]
def l84:AFn :=
  (AFn.mk 24 2 (.seq (.reg l84r0) (.seq (.reg l84r1) (.seq (.seq (.reg l84r2) (.block 0 (.loop (.seq (.reg l84r3) (.seq (.cond (.tmp 11) .skip (.exit 0)) (.seq (.block 1 (.seq (.reg l84r4) (.reg l84r5))) (.reg l84r6))))))) (.seq (.reg l84r7) .ret)))) [.tmp 4])
theorem l84_eq:lowFn Tryz.prog 84=some l84:=by kernel_rfl
def l87r0:List AOper :=
  [.mk (some 1) (.box (.tmp 0)) none [],.mk (some 2) (.alloc [.int .i64 0,.slice none 0 0,.slice none 0 0]) none []]
def l87r1a:List AOper :=
  [.mk (some 3) (.fld 0 (.tmp 1)) none [],.mk (some 4) (.load false 1 (.tmp 3)) none [0],.mk (some 5) (.fld 1 (.tmp 1)) none [],.mk (some 6) (.load false 1 (.tmp 5)) none [2],.mk (some 7) (.call 42 [.tmp 6]) none [3],.mk (some 8) (.fld 2 (.tmp 1)) none [],.mk (some 9) (.load false 1 (.tmp 8)) none [5],.mk (some 10) (.call 42 [.tmp 9]) none [6,4]]
def l87r1b:List AOper :=
  [.mk (some 11) (.build [.int .i64 0,.slice none 0 0,.slice none 0 0] [(0,1,.tmp 4),(1,1,.tmp 7),(2,1,.tmp 10)]) none [1,4,7],.mk none (.store 3 (.tmp 2) (.tmp 11)) none [8,7,0,1,2,3,4,5,6,7,8]]
def l87r1:List AOper:=l87r1a ++ l87r1b
def l87:AFn :=
  (AFn.mk 12 1 (.seq (.reg l87r0) (.seq (.draw l87r1) .ret)) [.cell 2 true 3])
theorem l87_eq:lowFn Tryz.prog 87=some l87:=by kernel_rfl
def l88r0:List AOper :=
  [.mk (some 2) (.box (.tmp 0)) none [],.mk (some 4) (.alloc [.int .i64 0,.slice none 0 0,.slice none 0 0]) none [],.mk (some 5) (.mv (.const (.bool false))) none []]
def l88r1:List AOper :=
  [.mk (some 6) (.load true 3 (.tmp 2)) none [],.mk (some 7) (.mv (.tmp 1)) none [],.mk (some 8) (.build [.int .i64 0,.int .i64 0,.int .i64 0,.bool false,.bool false] [(2,1,.const (.int .i64 (-1)))]) none [],.mk (some 9) (.call 92 [.tmp 6,.tmp 7,.tmp 8]) none [0,1,2],.mk (some 10) (.extract (.tmp 9) 0) none [3],.mk (some 11) (.extract (.tmp 9) 1) none [3],.mk none (.store 3 (.tmp 4) (.tmp 10)) none [4,3,0,1,2,3,4,5],.mk (some 5) (.mv (.tmp 11)) none [5,6,0,1,2,3,4,5,6]]
def l88:AFn :=
  (AFn.mk 12 2 (.seq (.reg l88r0) (.seq (.reg l88r1) .ret)) [.cell 4 true 3,.tmp 5])
theorem l88_eq:lowFn Tryz.prog 88=some l88:=by kernel_rfl
def l90r0:List AOper :=
  [.mk (some 2) (.alloc [.int .i64 0,.slice none 0 0,.slice none 0 0]) none []]
def l90r1:List AOper :=
  [.mk (some 3) (.mv (.tmp 0)) none [],.mk (some 4) (.call 54 [.tmp 3]) none [0],.mk (some 5) (.un .not (.tmp 4)) none [1]]
def l90r2:List AOper :=
  [.mk (some 6) (.build [.int .i64 0,.slice none 0 0,.slice none 0 0] []) none [],.mk none (.store 3 (.tmp 2) (.tmp 6)) none [0,0]]
def l90r3:List AOper :=
  [.mk (some 7) (.mv (.tmp 0)) none [],.mk (some 8) (.call 27 [.tmp 7]) none [0],.mk (some 9) (.bin .eql (.tmp 8) (.const (.int .i64 0))) none [1]]
def l90r4a:List AOper :=
  [.mk (some 10) (.mv (.tmp 0)) none [],.mk (some 11) (.call 42 [.tmp 10]) none [0],.mk (some 12) (.mv (.tmp 0)) none [],.mk (some 13) (.len (.tmp 12)) none [2],.mk (some 14) (.mkslice 1 [.int .i64 0] (.tmp 13) (.tmp 13)) none [3,3]]
def l90r4b:List AOper :=
  [.mk (some 15) (.build [.int .i64 0,.slice none 0 0,.slice none 0 0] [(1,1,.tmp 11),(2,1,.tmp 14)]) none [1,4],.mk none (.store 3 (.tmp 2) (.tmp 15)) none [5,1,0,1,2,3,4,5]]
def l90r4:List AOper:=l90r4a ++ l90r4b
def l90r5:List AOper :=
  [.mk (some 16) (.mv (.tmp 0)) none [],.mk (some 17) (.call 42 [.tmp 16]) none [0],.mk (some 18) (.mv (.tmp 0)) none [],.mk (some 19) (.call 101 [.tmp 18]) none [2,1],.mk (some 20) (.build [.int .i64 0,.slice none 0 0,.slice none 0 0] [(1,1,.tmp 17),(2,1,.tmp 19)]) none [1,3],.mk none (.store 3 (.tmp 2) (.tmp 20)) none [4,3,0,1,2,3,4]]
def l90:AFn :=
  (AFn.mk 21 1 (.seq (.reg l90r0) (.seq (.seq (.reg l90r1) (.cond (.tmp 5) (.seq (.reg l90r2) .ret) .skip)) (.seq (.seq (.reg l90r3) (.cond (.tmp 9) (.seq (.draw l90r4) .ret) .skip)) (.seq (.reg l90r5) .ret)))) [.cell 2 true 3])
theorem l90_eq:lowFn Tryz.prog 90=some l90:=by kernel_rfl
def l91r0:List AOper :=
  [.mk (some 2) (.mv (.const (.slice none 0 0))) none []]
def l91r1:List AOper :=
  [.mk (some 6) (.bslice 1 [.int .i64 0] [] 0) none [],.mk (some 3) (.mv (.tmp 6)) none [0,0]]
def l91r2:List AOper :=
  [.mk (some 7) (.mv (.tmp 0)) none [],.mk (some 8) (.bslice 1 [.int .i64 0] [(0,.const (.int .i64 2)),(1,.const (.int .i64 1)),(2,.const (.int .i64 3)),(3,.const (.int .i64 2)),(4,.const (.int .i64 0)),(5,.const (.int .i64 4))] 6) none [],.mk (some 9) (.call 37 [.tmp 7,.tmp 8]) none [0,1],.mk (some 4) (.mv (.tmp 9)) none [2,2,0,1,2]]
def l91r3:List AOper :=
  [.mk (some 10) (.mv (.tmp 4)) none [],.mk (some 11) (.bin .gtr (.tmp 10) (.const (.int .i64 0))) none [0]]
def l91r4:List AOper :=
  [.mk (some 14) (.mv (.tmp 0)) none [],.mk (some 15) (.bslice 1 [.int .i64 0] [(0,.const (.int .i64 2)),(1,.const (.int .i64 3)),(2,.const (.int .i64 1)),(3,.const (.int .i64 4)),(4,.const (.int .i64 2)),(5,.const (.int .i64 3)),(6,.const (.int .i64 5)),(7,.const (.int .i64 0))] 8) none [],.mk (some 16) (.call 37 [.tmp 14,.tmp 15]) none [0,1],.mk (some 5) (.mv (.tmp 16)) none [2,2,0,1,2]]
def l91r5:List AOper :=
  [.mk (some 17) (.mv (.tmp 3)) none [],.mk (some 18) (.call 27 [.tmp 17]) none [0],.mk (some 19) (.mv (.tmp 5)) none [],.mk (some 20) (.bin .mul (.tmp 18) (.tmp 19)) none [1,2],.mk (some 21) (.bin .leq (.tmp 20) (.const (.int .i64 60))) none [3]]
def l91r6:List AOper :=
  [.mk (some 22) (.mv (.tmp 3)) none [],.mk (some 23) (.mv (.tmp 5)) none [],.mk (some 24) (.bslice 1 [.int .i64 0] [(0,.tmp 23)] 1) none [1],.mk (some 25) (.append 1 (.tmp 22) (.tmp 24)) none [0,2],.mk (some 3) (.mv (.tmp 25)) none [3,3,0,1,2,3]]
def l91r7:List AOper :=
  [.mk (some 12) (.mv (.tmp 4)) none [],.mk (some 13) (.bin .sub (.tmp 12) (.const (.int .i64 1))) none [0],.mk (some 4) (.mv (.tmp 13)) none [1,0,1]]
def l91r8:List AOper :=
  [.mk (some 26) (.mv (.tmp 3)) none [],.mk (some 2) (.mv (.tmp 26)) none [0,0]]
def l91:AFn :=
  (AFn.mk 27 1 (.seq (.reg l91r0) (.seq (.reg l91r1) (.seq (.seq (.reg l91r2) (.block 0 (.loop (.seq (.seq (.reg l91r3) (.cond (.tmp 11) .skip (.exit 0))) (.seq (.block 1 (.seq (.reg l91r4) (.seq (.reg l91r5) (.cond (.tmp 21) (.reg l91r6) .skip)))) (.reg l91r7)))))) (.seq (.reg l91r8) .ret)))) [.tmp 2])
theorem l91_eq:lowFn Tryz.prog 91=some l91:=by kernel_rfl
def l92r0:List AOper :=
  [.mk (some 3) (.box (.tmp 0)) none [],.mk (some 5) (.box (.tmp 2)) none [],.mk (some 6) (.alloc [.int .i64 0,.slice none 0 0,.slice none 0 0]) none [],.mk (some 7) (.mv (.const (.bool false))) none []]
def l92r1:List AOper :=
  [.mk (some 8) (.load true 3 (.tmp 3)) none [],.mk (some 9) (.call 59 [.tmp 8]) none [0],.mk (some 10) (.un .not (.tmp 9)) none [1],.mk (some 11) (.mv (.tmp 10)) none [2,1],.mk (some 12) (.load true 3 (.tmp 3)) (some (11,false)) [3],.mk (some 13) (.mv (.tmp 1)) (some (11,false)) [3],.mk (some 14) (.call 102 [.tmp 12,.tmp 13]) (some (11,false)) [4,5,3,3],.mk (some 15) (.un .not (.tmp 14)) (some (11,false)) [6,3],.mk (some 16) (.pick (.tmp 11) (.const (.bool true)) (.tmp 15)) none [3,7],.mk (some 17) (.mv (.tmp 16)) none [8,6],.mk (some 18) (.load true 5 (.tmp 5)) (some (17,false)) [9],.mk (some 19) (.call 103 [.tmp 18]) (some (17,false)) [10,9,9],.mk (some 20) (.un .not (.tmp 19)) (some (17,false)) [11,9],.mk (some 21) (.pick (.tmp 17) (.const (.bool true)) (.tmp 20)) none [9,12]]
def l92r2:List AOper :=
  [.mk (some 22) (.build [.int .i64 0,.slice none 0 0,.slice none 0 0] []) none [],.mk none (.store 3 (.tmp 6) (.tmp 22)) none [0,0],.mk (some 7) (.mv (.const (.bool false))) none [1,0,1]]
def l92r3:List AOper :=
  [.mk (some 23) (.load true 3 (.tmp 3)) none [],.mk (some 24) (.mv (.tmp 1)) none [],.mk (some 25) (.load true 5 (.tmp 5)) none [],.mk (some 26) (.call 105 [.tmp 23,.tmp 24,.tmp 25]) none [0,1,2],.mk (some 27) (.call 104 [.tmp 26]) none [3,3],.mk (some 28) (.extract (.tmp 27) 0) none [4],.mk (some 29) (.extract (.tmp 27) 1) none [4],.mk none (.store 3 (.tmp 6) (.tmp 28)) none [5,4,0,1,2,3,4,5,6],.mk (some 7) (.mv (.tmp 29)) none [6,7,0,1,2,3,4,5,6,7]]
def l92:AFn :=
  (AFn.mk 30 3 (.seq (.reg l92r0) (.seq (.seq (.reg l92r1) (.cond (.tmp 21) (.seq (.reg l92r2) .ret) .skip)) (.seq (.reg l92r3) .ret))) [.cell 6 true 3,.tmp 7])
theorem l92_eq:lowFn Tryz.prog 92=some l92:=by kernel_rfl
def l93r0:List AOper :=
  [.mk (some 2) (.alloc [.int .i64 0,.int .i64 0,.int .i64 0,.bool false,.bool false]) none []]
def l93r1:List AOper :=
  [.mk (some 4) (.mv (.tmp 0)) none [],.mk (some 5) (.bslice 1 [.int .i64 0] [(0,.const (.int .i64 1)),(1,.const (.int .i64 2)),(2,.const (.int .i64 (-1))),(3,.const (.int .i64 3)),(4,.const (.int .i64 (-2))),(5,.const (.int .i64 1)),(6,.const (.int .i64 5))] 7) none [],.mk (some 6) (.call 37 [.tmp 4,.tmp 5]) none [0,1],.mk (some 7) (.build [.int .i64 0,.int .i64 0,.int .i64 0,.bool false,.bool false] [(2,1,.tmp 6)]) none [2],.mk (some 3) (.alloc [.int .i64 0,.int .i64 0,.int .i64 0,.bool false,.bool false]) none [],.mk none (.store 5 (.tmp 3) (.tmp 7)) none [4,3,2,0,1,2,3,4]]
def l93r2:List AOper :=
  [.mk (some 8) (.mv (.tmp 0)) none [],.mk (some 9) (.call 44 [.tmp 8,.const (.int .i64 2)]) none [0],.mk (some 10) (.bin .eql (.tmp 9) (.const (.int .i64 0))) none [1]]
def l93r3:List AOper :=
  [.mk (some 11) (.fld 3 (.tmp 3)) none [],.mk none (.store 1 (.tmp 11) (.const (.bool true))) none [0]]
def l93r4:List AOper :=
  [.mk (some 12) (.mv (.tmp 0)) none [],.mk (some 13) (.mv (.tmp 0)) none [],.mk (some 14) (.call 44 [.tmp 13,.const (.int .i64 12)]) none [1],.mk (some 15) (.bslice 1 [.int .i64 0] [(0,.const (.int .i64 1)),(1,.const (.int .i64 2)),(2,.const (.int .i64 0)),(3,.const (.int .i64 (-1))),(4,.const (.int .i64 (-3))),(5,.tmp 14),(6,.const (.int .i64 30)),(7,.const (.int .i64 (-30)))] 8) none [2],.mk (some 16) (.call 37 [.tmp 12,.tmp 15]) none [0,3,2],.mk (some 17) (.fld 0 (.tmp 3)) none [0,1,2,3,4],.mk none (.store 1 (.tmp 17) (.tmp 16)) none [5,4,4,0,1,2,3,4]]
def l93r5:List AOper :=
  [.mk (some 18) (.mv (.tmp 0)) none [],.mk (some 19) (.call 44 [.tmp 18,.const (.int .i64 2)]) none [0],.mk (some 20) (.bin .eql (.tmp 19) (.const (.int .i64 0))) none [1]]
def l93r6:List AOper :=
  [.mk (some 21) (.fld 4 (.tmp 3)) none [],.mk none (.store 1 (.tmp 21) (.const (.bool true))) none [0]]
def l93r7:List AOper :=
  [.mk (some 22) (.mv (.tmp 0)) none [],.mk (some 23) (.mv (.tmp 0)) none [],.mk (some 24) (.call 44 [.tmp 23,.const (.int .i64 12)]) none [1],.mk (some 25) (.bslice 1 [.int .i64 0] [(0,.const (.int .i64 4)),(1,.const (.int .i64 3)),(2,.const (.int .i64 (-1))),(3,.const (.int .i64 (-2))),(4,.const (.int .i64 0)),(5,.tmp 24),(6,.const (.int .i64 30)),(7,.const (.int .i64 (-30)))] 8) none [2],.mk (some 26) (.call 37 [.tmp 22,.tmp 25]) none [0,3,2],.mk (some 27) (.fld 1 (.tmp 3)) none [0,1,2,3,4],.mk none (.store 1 (.tmp 27) (.tmp 26)) none [5,4,4,0,1,2,3,4]]
def l93r8:List AOper :=
  [.mk (some 28) (.mv (.tmp 0)) none [],.mk (some 29) (.call 44 [.tmp 28,.const (.int .i64 24)]) none [0]]
def l93r9:List AOper :=
  [.mk (some 31) (.bin .eql (.tmp 29) (.const (.int .i64 0))) none [],.mk (some 30) (.mv (.tmp 31)) none [0]]
def l93r10:List AOper :=
  [.mk (some 32) (.mv (.tmp 0)) none [],.mk (some 33) (.bslice 1 [.int .i64 0] [(0,.const (.int .i64 0)),(1,.const (.int .i64 201))] 2) none [],.mk (some 34) (.call 37 [.tmp 32,.tmp 33]) none [0,1],.mk (some 35) (.fld 2 (.tmp 3)) none [0,1,2],.mk none (.store 1 (.tmp 35) (.tmp 34)) none [3,2,2,0,1,2]]
def l93r11:List AOper :=
  [.mk (some 37) (.bin .eql (.tmp 29) (.const (.int .i64 1))) none [],.mk (some 36) (.mv (.tmp 37)) none [0]]
def l93r12:List AOper :=
  [.mk (some 38) (.fld 0 (.tmp 3)) none [],.mk none (.store 1 (.tmp 38) (.const (.int .i64 101))) none [0]]
def l93r13:List AOper :=
  [.mk (some 40) (.bin .eql (.tmp 29) (.const (.int .i64 2))) none [],.mk (some 39) (.mv (.tmp 40)) none [0]]
def l93r14:List AOper :=
  [.mk (some 41) (.mv (.tmp 0)) none [],.mk (some 42) (.bslice 1 [.int .i64 0] [(0,.const (.int .i64 1)),(1,.const (.int .i64 (-101)))] 2) none [],.mk (some 43) (.call 37 [.tmp 41,.tmp 42]) none [0,1],.mk (some 44) (.fld 1 (.tmp 3)) none [0,1,2],.mk none (.store 1 (.tmp 44) (.tmp 43)) none [3,2,2,0,1,2]]
def l93r15:List AOper :=
  [.mk (some 45) (.load true 5 (.tmp 3)) none [],.mk none (.store 5 (.tmp 2) (.tmp 45)) none [0,0]]
def l93:AFn :=
  (AFn.mk 46 1 (.seq (.reg l93r0) (.seq (.reg l93r1) (.seq (.seq (.reg l93r2) (.cond (.tmp 10) (.seq (.reg l93r3) (.reg l93r4)) .skip)) (.seq (.seq (.reg l93r5) (.cond (.tmp 20) (.seq (.reg l93r6) (.reg l93r7)) .skip)) (.seq (.seq (.reg l93r8) (.block 0 (.seq (.reg l93r9) (.cond (.tmp 30) (.reg l93r10) (.seq (.reg l93r11) (.cond (.tmp 36) (.reg l93r12) (.seq (.reg l93r13) (.cond (.tmp 39) (.reg l93r14) .skip)))))))) (.seq (.reg l93r15) .ret)))))) [.cell 2 true 5])
theorem l93_eq:lowFn Tryz.prog 93=some l93:=by kernel_rfl
def l94r0:List AOper :=
  [.mk (some 2) (.box (.tmp 0)) none [],.mk (some 4) (.alloc [.int .i64 0,.slice none 0 0,.slice none 0 0]) none [],.mk (some 5) (.mv (.const (.bool false))) none []]
def l94r1:List AOper :=
  [.mk (some 6) (.load true 3 (.tmp 2)) none [],.mk (some 7) (.call 59 [.tmp 6]) none [0],.mk (some 8) (.un .not (.tmp 7)) none [1],.mk (some 9) (.mv (.tmp 8)) none [2,1],.mk (some 10) (.mv (.tmp 1)) (some (9,false)) [3],.mk (some 11) (.fld 1 (.tmp 2)) (some (9,false)) [3],.mk (some 12) (.load false 1 (.tmp 11)) (some (9,false)) [5,3],.mk (some 13) (.len (.tmp 12)) (some (9,false)) [6,3],.mk (some 14) (.call 106 [.tmp 10,.tmp 13]) (some (9,false)) [4,7,3,3],.mk (some 15) (.un .not (.tmp 14)) (some (9,false)) [8,3],.mk (some 16) (.pick (.tmp 9) (.const (.bool true)) (.tmp 15)) none [3,9]]
def l94r2:List AOper :=
  [.mk (some 17) (.build [.int .i64 0,.slice none 0 0,.slice none 0 0] []) none [],.mk none (.store 3 (.tmp 4) (.tmp 17)) none [0,0],.mk (some 5) (.mv (.const (.bool false))) none [1,0,1]]
def l94r3:List AOper :=
  [.mk (some 18) (.load true 3 (.tmp 2)) none [],.mk (some 19) (.mv (.tmp 1)) none [],.mk (some 20) (.call 107 [.tmp 18,.tmp 19]) none [0,1],.mk (some 21) (.call 104 [.tmp 20]) none [2,2],.mk (some 22) (.extract (.tmp 21) 0) none [3],.mk (some 23) (.extract (.tmp 21) 1) none [3],.mk none (.store 3 (.tmp 4) (.tmp 22)) none [4,3,0,1,2,3,4,5],.mk (some 5) (.mv (.tmp 23)) none [5,6,0,1,2,3,4,5,6]]
def l94:AFn :=
  (AFn.mk 24 2 (.seq (.reg l94r0) (.seq (.seq (.reg l94r1) (.cond (.tmp 16) (.seq (.reg l94r2) .ret) .skip)) (.seq (.reg l94r3) .ret))) [.cell 4 true 3,.tmp 5])
theorem l94_eq:lowFn Tryz.prog 94=some l94:=by kernel_rfl
def l95r0:List AOper :=
  [.mk (some 2) (.mv (.const (.slice none 0 0))) none []]
def l95r1:List AOper :=
  [.mk (some 5) (.bslice 1 [.int .i64 0] [] 0) none [],.mk (some 3) (.mv (.tmp 5)) none [0,0]]
def l95r2:List AOper :=
  [.mk (some 6) (.mv (.tmp 0)) none [],.mk (some 7) (.len (.tmp 6)) none [0],.mk (some 8) (.bin .sub (.tmp 7) (.const (.int .i64 1))) none [1],.mk (some 4) (.mv (.tmp 8)) none [2,0,1,2]]
def l95r3:List AOper :=
  [.mk (some 9) (.mv (.tmp 4)) none [],.mk (some 10) (.bin .geq (.tmp 9) (.const (.int .i64 0))) none [0]]
def l95r4:List AOper :=
  [.mk (some 13) (.mv (.tmp 3)) none [],.mk (some 14) (.mv (.tmp 0)) none [],.mk (some 15) (.mv (.tmp 4)) none [],.mk (some 16) (.idxA 1 (.tmp 14) (.tmp 15)) none [1,2],.mk (some 17) (.load false 1 (.tmp 16)) none [3],.mk (some 18) (.bslice 1 [.int .i64 0] [(0,.tmp 17)] 1) none [4],.mk (some 19) (.append 1 (.tmp 13) (.tmp 18)) none [0,5],.mk (some 3) (.mv (.tmp 19)) none [6,6,0,1,2,3,4,5,6]]
def l95r5:List AOper :=
  [.mk (some 11) (.mv (.tmp 4)) none [],.mk (some 12) (.bin .sub (.tmp 11) (.const (.int .i64 1))) none [0],.mk (some 4) (.mv (.tmp 12)) none [1,0,1]]
def l95r6:List AOper :=
  [.mk (some 20) (.mv (.tmp 3)) none [],.mk (some 2) (.mv (.tmp 20)) none [0,0]]
def l95:AFn :=
  (AFn.mk 21 1 (.seq (.reg l95r0) (.seq (.reg l95r1) (.seq (.seq (.reg l95r2) (.block 0 (.loop (.seq (.seq (.reg l95r3) (.cond (.tmp 10) .skip (.exit 0))) (.seq (.block 1 (.reg l95r4)) (.reg l95r5)))))) (.seq (.reg l95r6) .ret)))) [.tmp 2])
theorem l95_eq:lowFn Tryz.prog 95=some l95:=by kernel_rfl
def l96r0:List AOper :=
  [.mk (some 2) (.mv (.const (.slice none 0 0))) none []]
def l96r1:List AOper :=
  [.mk (some 5) (.bslice 1 [.int .i64 0] [] 0) none [],.mk (some 3) (.mv (.tmp 5)) none [0,0]]
def l96r2:List AOper :=
  [.mk (some 4) (.mv (.const (.int .i64 0))) none []]
def l96r3:List AOper :=
  [.mk (some 6) (.mv (.tmp 4)) none [],.mk (some 7) (.mv (.tmp 0)) none [],.mk (some 8) (.bin .lss (.tmp 6) (.tmp 7)) none [0,1]]
def l96r4:List AOper :=
  [.mk (some 11) (.mv (.tmp 3)) none [],.mk (some 12) (.mv (.tmp 4)) none [],.mk (some 13) (.bslice 1 [.int .i64 0] [(0,.tmp 12)] 1) none [1],.mk (some 14) (.append 1 (.tmp 11) (.tmp 13)) none [0,2],.mk (some 3) (.mv (.tmp 14)) none [3,3,0,1,2,3]]
def l96r5:List AOper :=
  [.mk (some 9) (.mv (.tmp 4)) none [],.mk (some 10) (.bin .add (.tmp 9) (.const (.int .i64 1))) none [0],.mk (some 4) (.mv (.tmp 10)) none [1,0,1]]
def l96r6:List AOper :=
  [.mk (some 15) (.mv (.tmp 3)) none [],.mk (some 2) (.mv (.tmp 15)) none [0,0]]
def l96:AFn :=
  (AFn.mk 16 1 (.seq (.reg l96r0) (.seq (.reg l96r1) (.seq (.seq (.reg l96r2) (.block 0 (.loop (.seq (.seq (.reg l96r3) (.cond (.tmp 8) .skip (.exit 0))) (.seq (.block 1 (.reg l96r4)) (.reg l96r5)))))) (.seq (.reg l96r6) .ret)))) [.tmp 2])
theorem l96_eq:lowFn Tryz.prog 96=some l96:=by kernel_rfl
def l97r0:List AOper :=
  [.mk (some 3) (.box (.tmp 0)) none [],.mk (some 6) (.alloc [.int .i64 0,.slice none 0 0,.slice none 0 0]) none [],.mk (some 7) (.mv (.const (.bool false))) none []]
def l97r1:List AOper :=
  [.mk (some 9) (.load true 3 (.tmp 3)) none [],.mk (some 10) (.call 59 [.tmp 9]) none [0],.mk (some 11) (.un .not (.tmp 10)) none [1],.mk (some 12) (.mv (.tmp 11)) none [2,1],.mk (some 13) (.load true 3 (.tmp 3)) (some (12,false)) [3],.mk (some 14) (.mv (.tmp 1)) (some (12,false)) [3],.mk (some 15) (.call 102 [.tmp 13,.tmp 14]) (some (12,false)) [4,5,3,3],.mk (some 16) (.un .not (.tmp 15)) (some (12,false)) [6,3],.mk (some 17) (.pick (.tmp 12) (.const (.bool true)) (.tmp 16)) none [3,7],.mk (some 18) (.mv (.tmp 17)) none [8,6],.mk (some 19) (.mv (.tmp 2)) (some (18,false)) [9],.mk (some 20) (.fld 1 (.tmp 3)) (some (18,false)) [9],.mk (some 21) (.load false 1 (.tmp 20)) (some (18,false)) [11,9],.mk (some 22) (.mv (.tmp 1)) (some (18,false)) [9],.mk (some 23) (.idxA 1 (.tmp 21) (.tmp 22)) (some (18,false)) [12,13,9],.mk (some 24) (.load false 1 (.tmp 23)) (some (18,false)) [14,9],.mk (some 25) (.call 41 [.tmp 19,.const (.int .i64 1),.tmp 24]) (some (18,false)) [10,15,9,9],.mk (some 26) (.un .not (.tmp 25)) (some (18,false)) [16,9],.mk (some 27) (.pick (.tmp 18) (.const (.bool true)) (.tmp 26)) none [9,17]]
def l97r2:List AOper :=
  [.mk (some 28) (.build [.int .i64 0,.slice none 0 0,.slice none 0 0] []) none [],.mk none (.store 3 (.tmp 6) (.tmp 28)) none [0,0],.mk (some 7) (.mv (.const (.bool false))) none [1,0,1]]
def l97r3:List AOper :=
  [.mk (some 29) (.load true 3 (.tmp 3)) none [],.mk (some 30) (.call 87 [.tmp 29]) none [0],.mk (some 8) (.alloc [.int .i64 0,.slice none 0 0,.slice none 0 0]) none [],.mk none (.store 3 (.tmp 8) (.tmp 30)) none [2,1,1,0,1,2]]
def l97r4a:List AOper :=
  [.mk (some 31) (.fld 1 (.tmp 8)) none [],.mk (some 32) (.load false 1 (.tmp 31)) none [0],.mk (some 33) (.mv (.tmp 1)) none [],.mk (some 34) (.fld 1 (.tmp 3)) none [],.mk (some 35) (.load false 1 (.tmp 34)) none [3],.mk (some 36) (.mv (.tmp 1)) none [],.mk (some 37) (.idxA 1 (.tmp 35) (.tmp 36)) none [4,5],.mk (some 38) (.load false 1 (.tmp 37)) none [6],.mk (some 39) (.mv (.tmp 2)) none [],.mk (some 40) (.bin .sub (.tmp 38) (.tmp 39)) none [7,8],.mk (some 41) (.bin .add (.tmp 40) (.const (.int .i64 1))) none [9]]
def l97r4b:List AOper :=
  [.mk (some 42) (.idxA 1 (.tmp 32) (.tmp 33)) none [1,2,0,1,2,3,4,5,6,7,8,9,10],.mk none (.store 1 (.tmp 42) (.tmp 41)) none [11,10,0,1,2,3,4,5,6,7,8,9,10]]
def l97r4:List AOper:=l97r4a ++ l97r4b
def l97r5:List AOper :=
  [.mk (some 43) (.fld 1 (.tmp 8)) none [],.mk (some 44) (.load false 1 (.tmp 43)) none [0],.mk (some 45) (.mv (.tmp 2)) none [],.mk (some 46) (.bslice 1 [.int .i64 0] [(0,.tmp 45)] 1) none [2],.mk (some 47) (.append 1 (.tmp 44) (.tmp 46)) none [1,3],.mk (some 48) (.fld 1 (.tmp 8)) none [0,1,2,3,4],.mk none (.store 1 (.tmp 48) (.tmp 47)) none [5,4,4,0,1,2,3,4]]
def l97r6a:List AOper :=
  [.mk (some 49) (.fld 2 (.tmp 8)) none [],.mk (some 50) (.load false 1 (.tmp 49)) none [0],.mk (some 51) (.fld 2 (.tmp 3)) none [],.mk (some 52) (.load false 1 (.tmp 51)) none [2],.mk (some 53) (.mv (.tmp 1)) none [],.mk (some 54) (.idxA 1 (.tmp 52) (.tmp 53)) none [3,4],.mk (some 55) (.load false 1 (.tmp 54)) none [5],.mk (some 56) (.bslice 1 [.int .i64 0] [(0,.tmp 55)] 1) none [6]]
def l97r6b:List AOper :=
  [.mk (some 57) (.append 1 (.tmp 50) (.tmp 56)) none [1,7],.mk (some 58) (.fld 2 (.tmp 8)) none [0,1,2,3,4,5,6,7,8],.mk none (.store 1 (.tmp 58) (.tmp 57)) none [9,8,8,0,1,2,3,4,5,6,7,8]]
def l97r6:List AOper:=l97r6a ++ l97r6b
def l97r7:List AOper :=
  [.mk (some 59) (.load true 3 (.tmp 8)) none [],.mk (some 60) (.call 104 [.tmp 59]) none [0],.mk (some 61) (.extract (.tmp 60) 0) none [1],.mk (some 62) (.extract (.tmp 60) 1) none [1],.mk none (.store 3 (.tmp 6) (.tmp 61)) none [2,1,0,1,2,3],.mk (some 7) (.mv (.tmp 62)) none [3,4,0,1,2,3,4]]
def l97:AFn :=
  (AFn.mk 63 3 (.seq (.reg l97r0) (.seq (.seq (.reg l97r1) (.cond (.tmp 27) (.seq (.reg l97r2) .ret) .skip)) (.seq (.reg l97r3) (.seq (.draw l97r4) (.seq (.reg l97r5) (.seq (.draw l97r6) (.seq (.reg l97r7) .ret))))))) [.cell 6 true 3,.tmp 7])
theorem l97_eq:lowFn Tryz.prog 97=some l97:=by kernel_rfl
def l98r0:List AOper :=
  [.mk (some 2) (.box (.tmp 0)) none [],.mk (some 4) (.alloc [.int .i64 0,.slice none 0 0,.slice none 0 0]) none [],.mk (some 5) (.mv (.const (.bool false))) none []]
def l98r1:List AOper :=
  [.mk (some 6) (.load true 3 (.tmp 2)) none [],.mk (some 7) (.call 59 [.tmp 6]) none [0],.mk (some 8) (.un .not (.tmp 7)) none [1],.mk (some 9) (.mv (.tmp 8)) none [2,1],.mk (some 10) (.mv (.tmp 1)) (some (9,false)) [3],.mk (some 11) (.fld 1 (.tmp 2)) (some (9,false)) [3],.mk (some 12) (.load false 1 (.tmp 11)) (some (9,false)) [5,3],.mk (some 13) (.len (.tmp 12)) (some (9,false)) [6,3],.mk (some 14) (.call 41 [.tmp 10,.const (.int .i64 0),.tmp 13]) (some (9,false)) [4,7,3,3],.mk (some 15) (.un .not (.tmp 14)) (some (9,false)) [8,3],.mk (some 16) (.pick (.tmp 9) (.const (.bool true)) (.tmp 15)) none [3,9],.mk (some 17) (.mv (.tmp 16)) none [10,8],.mk (some 18) (.fld 1 (.tmp 2)) (some (17,false)) [11],.mk (some 19) (.load false 1 (.tmp 18)) (some (17,false)) [12,11],.mk (some 20) (.len (.tmp 19)) (some (17,false)) [13,11],.mk (some 21) (.bin .eql (.tmp 20) (.const (.int .i64 4))) (some (17,false)) [14,11],.mk (some 22) (.pick (.tmp 17) (.const (.bool true)) (.tmp 21)) none [11,15]]
def l98r2:List AOper :=
  [.mk (some 23) (.build [.int .i64 0,.slice none 0 0,.slice none 0 0] []) none [],.mk none (.store 3 (.tmp 4) (.tmp 23)) none [0,0],.mk (some 5) (.mv (.const (.bool false))) none [1,0,1]]
def l98r3a:List AOper :=
  [.mk (some 24) (.fld 0 (.tmp 2)) none [],.mk (some 25) (.load false 1 (.tmp 24)) none [0],.mk (some 26) (.fld 1 (.tmp 2)) none [],.mk (some 27) (.load false 1 (.tmp 26)) none [2],.mk (some 28) (.mv (.tmp 1)) none [],.mk (some 29) (.call 108 [.tmp 27,.tmp 28,.const (.int .i64 1)]) none [3,4],.mk (some 30) (.fld 2 (.tmp 2)) none [],.mk (some 31) (.load false 1 (.tmp 30)) none [6],.mk (some 32) (.mv (.tmp 1)) none [],.mk (some 33) (.call 108 [.tmp 31,.tmp 32,.const (.int .i64 0)]) none [7,8,5],.mk (some 34) (.build [.int .i64 0,.slice none 0 0,.slice none 0 0] [(0,1,.tmp 25),(1,1,.tmp 29),(2,1,.tmp 33)]) none [1,5,9],.mk (some 35) (.call 104 [.tmp 34]) none [10,9],.mk (some 36) (.extract (.tmp 35) 0) none [11],.mk (some 37) (.extract (.tmp 35) 1) none [11]]
def l98r3b:List AOper :=
  [.mk none (.store 3 (.tmp 4) (.tmp 36)) none [12,11,0,1,2,3,4,5,6,7,8,9,10,11,12,13],.mk (some 5) (.mv (.tmp 37)) none [13,14,0,1,2,3,4,5,6,7,8,9,10,11,12,13,14]]
def l98r3:List AOper:=l98r3a ++ l98r3b
def l98:AFn :=
  (AFn.mk 38 2 (.seq (.reg l98r0) (.seq (.seq (.reg l98r1) (.cond (.tmp 22) (.seq (.reg l98r2) .ret) .skip)) (.seq (.draw l98r3) .ret))) [.cell 4 true 3,.tmp 5])
theorem l98_eq:lowFn Tryz.prog 98=some l98:=by kernel_rfl
def l101r0:List AOper :=
  [.mk (some 2) (.mv (.const (.slice none 0 0))) none []]
def l101r1:List AOper :=
  [.mk (some 6) (.mv (.tmp 0)) none [],.mk (some 7) (.len (.tmp 6)) none [0],.mk (some 8) (.mkslice 1 [.int .i64 0] (.tmp 7) (.tmp 7)) none [1,1],.mk (some 3) (.mv (.tmp 8)) none [2,0,1,2]]
def l101r2:List AOper :=
  [.mk (some 4) (.mv (.const (.int .i64 1))) none []]
def l101r3:List AOper :=
  [.mk (some 9) (.mv (.tmp 0)) none [],.mk (some 10) (.len (.tmp 9)) none [0],.mk (some 11) (.bin .sub (.tmp 10) (.const (.int .i64 1))) none [1],.mk (some 5) (.mv (.tmp 11)) none [2,0,1,2]]
def l101r4:List AOper :=
  [.mk (some 12) (.mv (.tmp 5)) none [],.mk (some 13) (.bin .geq (.tmp 12) (.const (.int .i64 0))) none [0]]
def l101r5:List AOper :=
  [.mk (some 16) (.mv (.tmp 3)) none [],.mk (some 17) (.mv (.tmp 5)) none [],.mk (some 18) (.mv (.tmp 4)) none [],.mk (some 19) (.idxA 1 (.tmp 16) (.tmp 17)) none [0,1,0,1,2],.mk none (.store 1 (.tmp 19) (.tmp 18)) none [3,2,0,1,2]]
def l101r6:List AOper :=
  [.mk (some 20) (.mv (.tmp 4)) none [],.mk (some 21) (.mv (.tmp 0)) none [],.mk (some 22) (.mv (.tmp 5)) none [],.mk (some 23) (.idxA 1 (.tmp 21) (.tmp 22)) none [1,2],.mk (some 24) (.load false 1 (.tmp 23)) none [3],.mk (some 25) (.bin .mul (.tmp 20) (.tmp 24)) none [0,4],.mk (some 4) (.mv (.tmp 25)) none [5,0,1,2,3,4,5]]
def l101r7:List AOper :=
  [.mk (some 14) (.mv (.tmp 5)) none [],.mk (some 15) (.bin .sub (.tmp 14) (.const (.int .i64 1))) none [0],.mk (some 5) (.mv (.tmp 15)) none [1,0,1]]
def l101r8:List AOper :=
  [.mk (some 26) (.mv (.tmp 3)) none [],.mk (some 2) (.mv (.tmp 26)) none [0,0]]
def l101:AFn :=
  (AFn.mk 27 1 (.seq (.reg l101r0) (.seq (.reg l101r1) (.seq (.reg l101r2) (.seq (.seq (.reg l101r3) (.block 0 (.loop (.seq (.seq (.reg l101r4) (.cond (.tmp 13) .skip (.exit 0))) (.seq (.block 1 (.seq (.reg l101r5) (.reg l101r6))) (.reg l101r7)))))) (.seq (.reg l101r8) .ret))))) [.tmp 2])
theorem l101_eq:lowFn Tryz.prog 101=some l101:=by kernel_rfl
def l102r0:List AOper :=
  [.mk (some 2) (.box (.tmp 0)) none [],.mk (some 4) (.mv (.const (.bool false))) none []]
def l102r1:List AOper :=
  [.mk (some 5) (.mv (.tmp 1)) none [],.mk (some 6) (.fld 1 (.tmp 2)) none [],.mk (some 7) (.load false 1 (.tmp 6)) none [1],.mk (some 8) (.len (.tmp 7)) none [2],.mk (some 9) (.bin .sub (.tmp 8) (.const (.int .i64 1))) none [3],.mk (some 10) (.call 41 [.tmp 5,.const (.int .i64 0),.tmp 9]) none [0,4],.mk (some 4) (.mv (.tmp 10)) none [5,5,0,1,2,3,4,5]]
def l102:AFn :=
  (AFn.mk 11 2 (.seq (.reg l102r0) (.seq (.reg l102r1) .ret)) [.tmp 4])
theorem l102_eq:lowFn Tryz.prog 102=some l102:=by kernel_rfl
def l103r0:List AOper :=
  [.mk (some 1) (.box (.tmp 0)) none [],.mk (some 2) (.mv (.const (.bool false))) none []]
def l103r1:List AOper :=
  [.mk (some 3) (.fld 0 (.tmp 1)) none [],.mk (some 4) (.load false 1 (.tmp 3)) none [0],.mk (some 5) (.call 41 [.tmp 4,.const (.int .i64 (-100)),.const (.int .i64 100)]) none [1],.mk (some 6) (.mv (.tmp 5)) none [2,2],.mk (some 7) (.fld 1 (.tmp 1)) (some (6,true)) [3],.mk (some 8) (.load false 1 (.tmp 7)) (some (6,true)) [4,3],.mk (some 9) (.call 41 [.tmp 8,.const (.int .i64 (-100)),.const (.int .i64 100)]) (some (6,true)) [5,3,3],.mk (some 10) (.pick (.tmp 6) (.tmp 9) (.const (.bool false))) none [3,6],.mk (some 11) (.mv (.tmp 10)) none [7,6],.mk (some 12) (.fld 2 (.tmp 1)) (some (11,true)) [8],.mk (some 13) (.load false 1 (.tmp 12)) (some (11,true)) [9,8],.mk (some 14) (.call 41 [.tmp 13,.const (.int .i64 (-200)),.const (.int .i64 200)]) (some (11,true)) [10,8,8],.mk (some 15) (.pick (.tmp 11) (.tmp 14) (.const (.bool false))) none [8,11],.mk (some 16) (.mv (.tmp 15)) none [12,11],.mk (some 17) (.fld 2 (.tmp 1)) (some (16,true)) [13],.mk (some 18) (.load false 1 (.tmp 17)) (some (16,true)) [14,13],.mk (some 19) (.bin .neq (.tmp 18) (.const (.int .i64 0))) (some (16,true)) [15,13],.mk (some 20) (.pick (.tmp 16) (.tmp 19) (.const (.bool false))) none [13,16],.mk (some 21) (.mv (.tmp 20)) none [17,13],.mk (some 22) (.fld 3 (.tmp 1)) (some (21,true)) [18],.mk (some 23) (.load false 1 (.tmp 22)) (some (21,true)) [19,18],.mk (some 24) (.mv (.tmp 23)) (some (21,true)) [20,18,18],.mk (some 25) (.fld 0 (.tmp 1)) (some (24,false)) [21],.mk (some 26) (.load false 1 (.tmp 25)) (some (24,false)) [22,21],.mk (some 27) (.bin .eql (.tmp 26) (.const (.int .i64 0))) (some (24,false)) [23,21],.mk (some 28) (.pick (.tmp 24) (.const (.bool true)) (.tmp 27)) (some (21,true)) [21,24,18],.mk (some 29) (.pick (.tmp 21) (.tmp 28) (.const (.bool false))) none [18,25],.mk (some 30) (.mv (.tmp 29)) none [26,21],.mk (some 31) (.fld 4 (.tmp 1)) (some (30,true)) [27],.mk (some 32) (.load false 1 (.tmp 31)) (some (30,true)) [28,27],.mk (some 33) (.mv (.tmp 32)) (some (30,true)) [29,27,27],.mk (some 34) (.fld 1 (.tmp 1)) (some (33,false)) [30],.mk (some 35) (.load false 1 (.tmp 34)) (some (33,false)) [31,30],.mk (some 36) (.bin .eql (.tmp 35) (.const (.int .i64 0))) (some (33,false)) [32,30],.mk (some 37) (.pick (.tmp 33) (.const (.bool true)) (.tmp 36)) (some (30,true)) [30,33,27],.mk (some 38) (.pick (.tmp 30) (.tmp 37) (.const (.bool false))) none [27,34],.mk (some 2) (.mv (.tmp 38)) none [35,30,0,1,2,3,4,5,6,7,8,9,10,11,12,13,14,15,16,17,18,19,20,21,22,23,24,25,26,27,28,29,30,31,32,33,34,35]]
def l103:AFn :=
  (AFn.mk 39 1 (.seq (.reg l103r0) (.seq (.reg l103r1) .ret)) [.tmp 2])
theorem l103_eq:lowFn Tryz.prog 103=some l103:=by kernel_rfl
def l104r0:List AOper :=
  [.mk (some 1) (.box (.tmp 0)) none [],.mk (some 2) (.alloc [.int .i64 0,.slice none 0 0,.slice none 0 0]) none [],.mk (some 3) (.mv (.const (.bool false))) none []]
def l104r1:List AOper :=
  [.mk (some 4) (.load true 3 (.tmp 1)) none [],.mk (some 5) (.call 59 [.tmp 4]) none [0],.mk (some 6) (.un .not (.tmp 5)) none [1]]
def l104r2:List AOper :=
  [.mk (some 7) (.build [.int .i64 0,.slice none 0 0,.slice none 0 0] []) none [],.mk none (.store 3 (.tmp 2) (.tmp 7)) none [0,0],.mk (some 3) (.mv (.const (.bool false))) none [1,0,1]]
def l104r3:List AOper :=
  [.mk (some 8) (.load true 3 (.tmp 1)) none [],.mk (some 9) (.call 87 [.tmp 8]) none [0],.mk none (.store 3 (.tmp 2) (.tmp 9)) none [1,1,0,1],.mk (some 3) (.mv (.const (.bool true))) none [2,0,1,2]]
def l104:AFn :=
  (AFn.mk 10 1 (.seq (.reg l104r0) (.seq (.seq (.reg l104r1) (.cond (.tmp 6) (.seq (.reg l104r2) .ret) .skip)) (.seq (.reg l104r3) .ret))) [.cell 2 true 3,.tmp 3])
theorem l104_eq:lowFn Tryz.prog 104=some l104:=by kernel_rfl
def l105r0:List AOper :=
  [.mk (some 3) (.box (.tmp 0)) none [],.mk (some 5) (.box (.tmp 2)) none [],.mk (some 6) (.alloc [.int .i64 0,.slice none 0 0,.slice none 0 0]) none []]
def l105r1:List AOper :=
  [.mk (some 10) (.load true 3 (.tmp 3)) none [],.mk (some 11) (.call 87 [.tmp 10]) none [0],.mk (some 7) (.alloc [.int .i64 0,.slice none 0 0,.slice none 0 0]) none [],.mk none (.store 3 (.tmp 7) (.tmp 11)) none [2,1,1,0,1,2]]
def l105r2a:List AOper :=
  [.mk (some 12) (.fld 1 (.tmp 3)) none [],.mk (some 13) (.load false 1 (.tmp 12)) none [0],.mk (some 14) (.mv (.tmp 1)) none [],.mk (some 15) (.idxA 1 (.tmp 13) (.tmp 14)) none [1,2],.mk (some 16) (.load false 1 (.tmp 15)) none [3],.mk (some 17) (.load true 5 (.tmp 5)) none [],.mk (some 18) (.call 121 [.tmp 16,.tmp 17]) none [4,5],.mk (some 19) (.call 120 [.tmp 18]) none [6,6],.mk (some 8) (.alloc [.int .i64 0,.int .i64 0,.int .i64 0]) none []]
def l105r2b:List AOper :=
  [.mk none (.store 3 (.tmp 8) (.tmp 19)) none [8,7,7,0,1,2,3,4,5,6,7,8]]
def l105r2:List AOper:=l105r2a ++ l105r2b
def l105r3:List AOper :=
  [.mk (some 20) (.load true 3 (.tmp 8)) none [],.mk (some 21) (.call 122 [.tmp 20]) none [0],.mk (some 9) (.mv (.tmp 21)) none [1,1,0,1]]
def l105r4:List AOper :=
  [.mk (some 22) (.fld 1 (.tmp 7)) none [],.mk (some 23) (.load false 1 (.tmp 22)) none [0],.mk (some 24) (.mv (.tmp 1)) none [],.mk (some 25) (.mv (.tmp 9)) none [],.mk (some 26) (.len (.tmp 25)) none [3],.mk (some 27) (.idxA 1 (.tmp 23) (.tmp 24)) none [1,2,0,1,2,3,4],.mk none (.store 1 (.tmp 27) (.tmp 26)) none [5,4,0,1,2,3,4]]
def l105r5a:List AOper :=
  [.mk (some 28) (.fld 0 (.tmp 3)) none [],.mk (some 29) (.load false 1 (.tmp 28)) none [0],.mk (some 30) (.fld 0 (.tmp 8)) none [],.mk (some 31) (.load false 1 (.tmp 30)) none [2],.mk (some 32) (.fld 2 (.tmp 3)) none [],.mk (some 33) (.load false 1 (.tmp 32)) none [4],.mk (some 34) (.mv (.tmp 1)) none [],.mk (some 35) (.idxA 1 (.tmp 33) (.tmp 34)) none [5,6],.mk (some 36) (.load false 1 (.tmp 35)) none [7],.mk (some 37) (.bin .mul (.tmp 31) (.tmp 36)) none [3,8]]
def l105r5b:List AOper :=
  [.mk (some 38) (.bin .add (.tmp 29) (.tmp 37)) none [1,9],.mk (some 39) (.fld 0 (.tmp 7)) none [0,1,2,3,4,5,6,7,8,9,10],.mk none (.store 1 (.tmp 39) (.tmp 38)) none [11,10,0,1,2,3,4,5,6,7,8,9,10]]
def l105r5:List AOper:=l105r5a ++ l105r5b
def l105r6a:List AOper :=
  [.mk (some 40) (.fld 2 (.tmp 7)) none [],.mk (some 41) (.load false 1 (.tmp 40)) none [0],.mk (some 42) (.mv (.tmp 1)) none [],.mk (some 43) (.fld 2 (.tmp 8)) none [],.mk (some 44) (.load false 1 (.tmp 43)) none [3],.mk (some 45) (.fld 2 (.tmp 3)) none [],.mk (some 46) (.load false 1 (.tmp 45)) none [5],.mk (some 47) (.mv (.tmp 1)) none [],.mk (some 48) (.idxA 1 (.tmp 46) (.tmp 47)) none [6,7],.mk (some 49) (.load false 1 (.tmp 48)) none [8],.mk (some 50) (.bin .mul (.tmp 44) (.tmp 49)) none [4,9]]
def l105r6b:List AOper :=
  [.mk (some 51) (.idxA 1 (.tmp 41) (.tmp 42)) none [1,2,0,1,2,3,4,5,6,7,8,9,10],.mk none (.store 1 (.tmp 51) (.tmp 50)) none [11,10,0,1,2,3,4,5,6,7,8,9,10]]
def l105r6:List AOper:=l105r6a ++ l105r6b
def l105r7:List AOper :=
  [.mk (some 52) (.mv (.tmp 9)) none [],.mk (some 53) (.len (.tmp 52)) none [0],.mk (some 54) (.bin .leq (.tmp 53) (.const (.int .i64 1))) none [1]]
def l105r8:List AOper :=
  [.mk (some 55) (.fld 2 (.tmp 7)) none [],.mk (some 56) (.load false 1 (.tmp 55)) none [0],.mk (some 57) (.mv (.tmp 1)) none [],.mk (some 58) (.idxA 1 (.tmp 56) (.tmp 57)) none [1,2,0,1,2],.mk none (.store 1 (.tmp 58) (.const (.int .i64 0))) none [3,0,1,2]]
def l105r9:List AOper :=
  [.mk (some 59) (.load true 3 (.tmp 7)) none [],.mk (some 60) (.call 123 [.tmp 59]) none [0],.mk none (.store 3 (.tmp 6) (.tmp 60)) none [1,1,0,1]]
def l105:AFn :=
  (AFn.mk 61 3 (.seq (.reg l105r0) (.seq (.reg l105r1) (.seq (.draw l105r2) (.seq (.reg l105r3) (.seq (.reg l105r4) (.seq (.draw l105r5) (.seq (.draw l105r6) (.seq (.seq (.reg l105r7) (.cond (.tmp 54) (.reg l105r8) .skip)) (.seq (.reg l105r9) .ret))))))))) [.cell 6 true 3])
theorem l105_eq:lowFn Tryz.prog 105=some l105:=by kernel_rfl
def l106r0:List AOper :=
  [.mk (some 4) (.mv (.const (.bool false))) none []]
def l106r1:List AOper :=
  [.mk (some 5) (.mv (.tmp 0)) none [],.mk (some 6) (.len (.tmp 5)) none [0],.mk (some 7) (.mv (.tmp 1)) none [],.mk (some 8) (.bin .eql (.tmp 6) (.tmp 7)) none [1,2],.mk (some 9) (.mv (.tmp 8)) none [3],.mk (some 10) (.mv (.tmp 0)) (some (9,true)) [4],.mk (some 11) (.mv (.tmp 1)) (some (9,true)) [4],.mk (some 12) (.bin .sub (.tmp 11) (.const (.int .i64 1))) (some (9,true)) [6,4],.mk (some 13) (.call 28 [.tmp 10,.const (.int .i64 0),.tmp 12]) (some (9,true)) [5,7,4,4],.mk (some 14) (.pick (.tmp 9) (.tmp 13) (.const (.bool false))) none [4,8],.mk (some 15) (.mv (.tmp 14)) none [9,8],.mk (some 16) (.mv (.tmp 0)) (some (15,true)) [10],.mk (some 17) (.call 51 [.tmp 16]) (some (15,true)) [11,10,10],.mk (some 18) (.pick (.tmp 15) (.tmp 17) (.const (.bool false))) none [10,12],.mk (some 4) (.mv (.tmp 18)) none [13,12,0,1,2,3,4,5,6,7,8,9,10,11,12,13]]
def l106:AFn :=
  (AFn.mk 19 2 (.seq (.reg l106r0) (.seq (.reg l106r1) .ret)) [.tmp 4])
theorem l106_eq:lowFn Tryz.prog 106=some l106:=by kernel_rfl
def l107r0:List AOper :=
  [.mk (some 2) (.box (.tmp 0)) none [],.mk (some 4) (.alloc [.int .i64 0,.slice none 0 0,.slice none 0 0]) none []]
def l107r1:List AOper :=
  [.mk (some 7) (.fld 0 (.tmp 2)) none [],.mk (some 8) (.load false 1 (.tmp 7)) none [0],.mk (some 9) (.build [.int .i64 0,.slice none 0 0,.slice none 0 0] [(0,1,.tmp 8)]) none [1],.mk (some 5) (.alloc [.int .i64 0,.slice none 0 0,.slice none 0 0]) none [],.mk none (.store 3 (.tmp 5) (.tmp 9)) none [3,2,0,1,2,3]]
def l107r2:List AOper :=
  [.mk (some 6) (.mv (.const (.int .i64 0))) none []]
def l107r3:List AOper :=
  [.mk (some 10) (.mv (.tmp 6)) none [],.mk (some 11) (.mv (.tmp 1)) none [],.mk (some 12) (.len (.tmp 11)) none [1],.mk (some 13) (.bin .lss (.tmp 10) (.tmp 12)) none [0,2]]
def l107r4a:List AOper :=
  [.mk (some 16) (.fld 1 (.tmp 5)) none [],.mk (some 17) (.load false 1 (.tmp 16)) none [0],.mk (some 18) (.fld 1 (.tmp 2)) none [],.mk (some 19) (.load false 1 (.tmp 18)) none [2],.mk (some 20) (.mv (.tmp 1)) none [],.mk (some 21) (.mv (.tmp 6)) none [],.mk (some 22) (.idxA 1 (.tmp 20) (.tmp 21)) none [4,5],.mk (some 23) (.load false 1 (.tmp 22)) none [6],.mk (some 24) (.idxA 1 (.tmp 19) (.tmp 23)) none [3,7],.mk (some 25) (.load false 1 (.tmp 24)) none [8],.mk (some 26) (.bslice 1 [.int .i64 0] [(0,.tmp 25)] 1) none [9]]
def l107r4b:List AOper :=
  [.mk (some 27) (.append 1 (.tmp 17) (.tmp 26)) none [1,10],.mk (some 28) (.fld 1 (.tmp 5)) none [0,1,2,3,4,5,6,7,8,9,10,11],.mk none (.store 1 (.tmp 28) (.tmp 27)) none [12,11,11,0,1,2,3,4,5,6,7,8,9,10,11]]
def l107r4:List AOper:=l107r4a ++ l107r4b
def l107r5a:List AOper :=
  [.mk (some 29) (.fld 2 (.tmp 5)) none [],.mk (some 30) (.load false 1 (.tmp 29)) none [0],.mk (some 31) (.fld 2 (.tmp 2)) none [],.mk (some 32) (.load false 1 (.tmp 31)) none [2],.mk (some 33) (.mv (.tmp 1)) none [],.mk (some 34) (.mv (.tmp 6)) none [],.mk (some 35) (.idxA 1 (.tmp 33) (.tmp 34)) none [4,5],.mk (some 36) (.load false 1 (.tmp 35)) none [6],.mk (some 37) (.idxA 1 (.tmp 32) (.tmp 36)) none [3,7],.mk (some 38) (.load false 1 (.tmp 37)) none [8],.mk (some 39) (.bslice 1 [.int .i64 0] [(0,.tmp 38)] 1) none [9]]
def l107r5b:List AOper :=
  [.mk (some 40) (.append 1 (.tmp 30) (.tmp 39)) none [1,10],.mk (some 41) (.fld 2 (.tmp 5)) none [0,1,2,3,4,5,6,7,8,9,10,11],.mk none (.store 1 (.tmp 41) (.tmp 40)) none [12,11,11,0,1,2,3,4,5,6,7,8,9,10,11]]
def l107r5:List AOper:=l107r5a ++ l107r5b
def l107r6:List AOper :=
  [.mk (some 14) (.mv (.tmp 6)) none [],.mk (some 15) (.bin .add (.tmp 14) (.const (.int .i64 1))) none [0],.mk (some 6) (.mv (.tmp 15)) none [1,0,1]]
def l107r7:List AOper :=
  [.mk (some 42) (.load true 3 (.tmp 5)) none [],.mk none (.store 3 (.tmp 4) (.tmp 42)) none [0,0]]
def l107:AFn :=
  (AFn.mk 43 2 (.seq (.reg l107r0) (.seq (.reg l107r1) (.seq (.seq (.reg l107r2) (.block 0 (.loop (.seq (.seq (.reg l107r3) (.cond (.tmp 13) .skip (.exit 0))) (.seq (.block 1 (.seq (.draw l107r4) (.draw l107r5))) (.reg l107r6)))))) (.seq (.reg l107r7) .ret)))) [.cell 4 true 3])
theorem l107_eq:lowFn Tryz.prog 107=some l107:=by kernel_rfl
def l108r0:List AOper :=
  [.mk (some 6) (.mv (.const (.slice none 0 0))) none []]
def l108r1a:List AOper :=
  [.mk (some 7) (.bslice 1 [.int .i64 0] [] 0) none [],.mk (some 8) (.mv (.tmp 0)) none [],.mk (some 9) (.mv (.tmp 1)) none [],.mk (some 10) (.slice 1 (.tmp 8) none (some (.tmp 9))) none [1,2],.mk (some 11) (.append 1 (.tmp 7) (.tmp 10)) none [0,3],.mk (some 12) (.mv (.tmp 2)) none [],.mk (some 13) (.bslice 1 [.int .i64 0] [(0,.tmp 12)] 1) none [5],.mk (some 14) (.append 1 (.tmp 11) (.tmp 13)) none [4,6,4],.mk (some 15) (.mv (.tmp 0)) none [],.mk (some 16) (.mv (.tmp 1)) none [],.mk (some 17) (.slice 1 (.tmp 15) (some (.tmp 16)) none) none [8,9]]
def l108r1b:List AOper :=
  [.mk (some 18) (.append 1 (.tmp 14) (.tmp 17)) none [7,10,7],.mk (some 6) (.mv (.tmp 18)) none [11,11,0,1,2,3,4,5,6,7,8,9,10,11]]
def l108r1:List AOper:=l108r1a ++ l108r1b
def l108:AFn :=
  (AFn.mk 19 3 (.seq (.reg l108r0) (.seq (.draw l108r1) .ret)) [.tmp 6])
theorem l108_eq:lowFn Tryz.prog 108=some l108:=by kernel_rfl
def l120r0:List AOper :=
  [.mk (some 2) (.alloc [.int .i64 0,.int .i64 0,.int .i64 0]) none []]
def l120r1:List AOper :=
  [.mk (some 5) (.mv (.tmp 0)) none [],.mk (some 6) (.len (.tmp 5)) none [0]]
def l120r2:List AOper :=
  [.mk (some 8) (.bin .eql (.tmp 6) (.const (.int .i64 0))) none [],.mk (some 7) (.mv (.tmp 8)) none [0]]
def l120r3:List AOper :=
  [.mk (some 9) (.build [.int .i64 0,.int .i64 0,.int .i64 0] [(0,1,.const (.int .i64 0)),(1,1,.const (.int .i64 0)),(2,1,.const (.int .i64 1))]) none [],.mk none (.store 3 (.tmp 2) (.tmp 9)) none [0,0]]
def l120r4:List AOper :=
  [.mk (some 11) (.bin .eql (.tmp 6) (.const (.int .i64 1))) none [],.mk (some 10) (.mv (.tmp 11)) none [0]]
def l120r5a:List AOper :=
  [.mk (some 12) (.mv (.tmp 0)) none [],.mk (some 13) (.idxA 1 (.tmp 12) (.const (.int .i64 0))) none [0],.mk (some 14) (.load false 1 (.tmp 13)) none [1],.mk (some 15) (.mv (.tmp 0)) none [],.mk (some 16) (.idxA 1 (.tmp 15) (.const (.int .i64 0))) none [3],.mk (some 17) (.load false 1 (.tmp 16)) none [4],.mk (some 18) (.bin .add (.tmp 17) (.const (.int .i64 1))) none [5]]
def l120r5b:List AOper :=
  [.mk (some 19) (.build [.int .i64 0,.int .i64 0,.int .i64 0] [(0,1,.tmp 14),(1,1,.tmp 18),(2,1,.const (.int .i64 1))]) none [2,6],.mk none (.store 3 (.tmp 2) (.tmp 19)) none [7,0,1,2,3,4,5,6,7]]
def l120r5:List AOper:=l120r5a ++ l120r5b
def l120r6a:List AOper :=
  [.mk (some 20) (.mv (.tmp 0)) none [],.mk (some 21) (.idxA 1 (.tmp 20) (.const (.int .i64 1))) none [0],.mk (some 22) (.load false 1 (.tmp 21)) none [1],.mk (some 23) (.mv (.tmp 0)) none [],.mk (some 24) (.idxA 1 (.tmp 23) (.const (.int .i64 0))) none [3],.mk (some 25) (.load false 1 (.tmp 24)) none [4]]
def l120r6b:List AOper :=
  [.mk (some 26) (.bin .sub (.tmp 22) (.tmp 25)) none [2,5],.mk (some 3) (.mv (.tmp 26)) none [6,0,1,2,3,4,5,6]]
def l120r6:List AOper:=l120r6a ++ l120r6b
def l120r7:List AOper :=
  [.mk (some 27) (.mv (.tmp 0)) none [],.mk (some 28) (.mv (.tmp 0)) none [],.mk (some 29) (.len (.tmp 28)) none [1],.mk (some 30) (.bin .sub (.tmp 29) (.const (.int .i64 1))) none [2],.mk (some 31) (.idxA 1 (.tmp 27) (.tmp 30)) none [0,3],.mk (some 32) (.load false 1 (.tmp 31)) none [4],.mk (some 33) (.bin .add (.tmp 32) (.const (.int .i64 1))) none [5],.mk (some 4) (.mv (.tmp 33)) none [6,0,1,2,3,4,5,6]]
def l120r8:List AOper :=
  [.mk (some 34) (.mv (.tmp 3)) none [],.mk (some 35) (.bin .lss (.tmp 34) (.const (.int .i64 0))) none [0]]
def l120r9:List AOper :=
  [.mk (some 36) (.mv (.tmp 0)) none [],.mk (some 37) (.mv (.tmp 0)) none [],.mk (some 38) (.len (.tmp 37)) none [1],.mk (some 39) (.bin .sub (.tmp 38) (.const (.int .i64 1))) none [2],.mk (some 40) (.idxA 1 (.tmp 36) (.tmp 39)) none [0,3],.mk (some 41) (.load false 1 (.tmp 40)) none [4],.mk (some 42) (.bin .sub (.tmp 41) (.const (.int .i64 1))) none [5],.mk (some 4) (.mv (.tmp 42)) none [6,0,1,2,3,4,5,6]]
def l120r10:List AOper :=
  [.mk (some 43) (.mv (.tmp 0)) none [],.mk (some 44) (.idxA 1 (.tmp 43) (.const (.int .i64 0))) none [0],.mk (some 45) (.load false 1 (.tmp 44)) none [1],.mk (some 46) (.mv (.tmp 4)) none [],.mk (some 47) (.mv (.tmp 3)) none [],.mk (some 48) (.build [.int .i64 0,.int .i64 0,.int .i64 0] [(0,1,.tmp 45),(1,1,.tmp 46),(2,1,.tmp 47)]) none [2,3,4],.mk none (.store 3 (.tmp 2) (.tmp 48)) none [5,0,1,2,3,4,5]]
def l120:AFn :=
  (AFn.mk 49 1 (.seq (.reg l120r0) (.seq (.seq (.reg l120r1) (.block 0 (.seq (.reg l120r2) (.cond (.tmp 7) (.seq (.reg l120r3) .ret) (.seq (.reg l120r4) (.cond (.tmp 10) (.seq (.draw l120r5) .ret) .skip)))))) (.seq (.draw l120r6) (.seq (.reg l120r7) (.seq (.seq (.reg l120r8) (.cond (.tmp 35) (.reg l120r9) .skip)) (.seq (.reg l120r10) .ret)))))) [.cell 2 true 3])
theorem l120_eq:lowFn Tryz.prog 120=some l120:=by kernel_rfl
def l121r0:List AOper :=
  [.mk (some 3) (.box (.tmp 1)) none [],.mk (some 4) (.mv (.const (.slice none 0 0))) none []]
def l121r1:List AOper :=
  [.mk (some 5) (.mv (.const (.int .i64 0))) none []]
def l121r2:List AOper :=
  [.mk (some 7) (.mv (.tmp 0)) none [],.mk (some 6) (.mv (.tmp 7)) none [0,0]]
def l121r3:List AOper :=
  [.mk (some 8) (.fld 2 (.tmp 3)) none [],.mk (some 9) (.load false 1 (.tmp 8)) none [0],.mk (some 10) (.bin .lss (.tmp 9) (.const (.int .i64 0))) none [1]]
def l121r4:List AOper :=
  [.mk (some 11) (.mv (.tmp 0)) none [],.mk (some 12) (.bin .sub (.tmp 11) (.const (.int .i64 1))) none [0],.mk (some 5) (.mv (.tmp 12)) none [1,0,1]]
def l121r5:List AOper :=
  [.mk (some 6) (.mv (.const (.int .i64 (-1)))) none []]
def l121r6:List AOper :=
  [.mk (some 13) (.fld 3 (.tmp 3)) none [],.mk (some 14) (.load false 1 (.tmp 13)) none [0]]
def l121r7:List AOper :=
  [.mk (some 15) (.mv (.tmp 0)) none [],.mk (some 16) (.fld 0 (.tmp 3)) none [],.mk (some 17) (.load false 1 (.tmp 16)) none [1],.mk (some 18) (.fld 2 (.tmp 3)) none [],.mk (some 19) (.load false 1 (.tmp 18)) none [3],.mk (some 20) (.call 130 [.tmp 15,.tmp 17,.tmp 19]) none [0,2,4],.mk (some 5) (.mv (.tmp 20)) none [5,5,0,1,2,3,4,5]]
def l121r8:List AOper :=
  [.mk (some 21) (.fld 4 (.tmp 3)) none [],.mk (some 22) (.load false 1 (.tmp 21)) none [0]]
def l121r9:List AOper :=
  [.mk (some 23) (.mv (.tmp 0)) none [],.mk (some 24) (.fld 1 (.tmp 3)) none [],.mk (some 25) (.load false 1 (.tmp 24)) none [1],.mk (some 26) (.fld 2 (.tmp 3)) none [],.mk (some 27) (.load false 1 (.tmp 26)) none [3],.mk (some 28) (.call 130 [.tmp 23,.tmp 25,.tmp 27]) none [0,2,4],.mk (some 6) (.mv (.tmp 28)) none [5,5,0,1,2,3,4,5]]
def l121r10:List AOper :=
  [.mk (some 29) (.mv (.tmp 5)) none [],.mk (some 30) (.mv (.tmp 6)) none [],.mk (some 31) (.fld 2 (.tmp 3)) none [],.mk (some 32) (.load false 1 (.tmp 31)) none [2],.mk (some 33) (.build [.int .i64 0,.int .i64 0,.int .i64 0] [(0,1,.tmp 29),(1,1,.tmp 30),(2,1,.tmp 32)]) none [0,1,3],.mk (some 34) (.call 122 [.tmp 33]) none [4],.mk (some 4) (.mv (.tmp 34)) none [5,5,0,1,2,3,4,5]]
def l121:AFn :=
  (AFn.mk 35 2 (.seq (.reg l121r0) (.seq (.reg l121r1) (.seq (.reg l121r2) (.seq (.seq (.reg l121r3) (.cond (.tmp 10) (.seq (.reg l121r4) (.reg l121r5)) .skip)) (.seq (.seq (.reg l121r6) (.cond (.tmp 14) (.reg l121r7) .skip)) (.seq (.seq (.reg l121r8) (.cond (.tmp 22) (.reg l121r9) .skip)) (.seq (.reg l121r10) .ret))))))) [.tmp 4])
theorem l121_eq:lowFn Tryz.prog 121=some l121:=by kernel_rfl
def l122r0:List AOper :=
  [.mk (some 1) (.box (.tmp 0)) none [],.mk (some 2) (.mv (.const (.slice none 0 0))) none []]
def l122r1:List AOper :=
  [.mk (some 5) (.bslice 1 [.int .i64 0] [] 0) none [],.mk (some 3) (.mv (.tmp 5)) none [0,0]]
def l122r2:List AOper :=
  [.mk (some 6) (.fld 0 (.tmp 1)) none [],.mk (some 7) (.load false 1 (.tmp 6)) none [0],.mk (some 4) (.mv (.tmp 7)) none [1,0,1]]
def l122r3:List AOper :=
  [.mk (some 8) (.fld 2 (.tmp 1)) none [],.mk (some 9) (.load false 1 (.tmp 8)) none [0],.mk (some 10) (.bin .gtr (.tmp 9) (.const (.int .i64 0))) none [1],.mk (some 11) (.mv (.tmp 10)) none [2],.mk (some 12) (.mv (.tmp 4)) (some (11,true)) [3],.mk (some 13) (.fld 1 (.tmp 1)) (some (11,true)) [3],.mk (some 14) (.load false 1 (.tmp 13)) (some (11,true)) [5,3],.mk (some 15) (.bin .lss (.tmp 12) (.tmp 14)) (some (11,true)) [4,6,3],.mk (some 16) (.pick (.tmp 11) (.tmp 15) (.const (.bool false))) none [3,7],.mk (some 17) (.mv (.tmp 16)) none [8,3],.mk (some 18) (.fld 2 (.tmp 1)) (some (17,false)) [9],.mk (some 19) (.load false 1 (.tmp 18)) (some (17,false)) [10,9],.mk (some 20) (.bin .lss (.tmp 19) (.const (.int .i64 0))) (some (17,false)) [11,9],.mk (some 21) (.mv (.tmp 20)) (some (17,false)) [12,9,9],.mk (some 22) (.mv (.tmp 4)) (some (21,true)) [13],.mk (some 23) (.fld 1 (.tmp 1)) (some (21,true)) [13],.mk (some 24) (.load false 1 (.tmp 23)) (some (21,true)) [15,13],.mk (some 25) (.bin .gtr (.tmp 22) (.tmp 24)) (some (21,true)) [14,16,13],.mk (some 26) (.pick (.tmp 21) (.tmp 25) (.const (.bool false))) (some (17,false)) [13,17,9],.mk (some 27) (.pick (.tmp 17) (.const (.bool true)) (.tmp 26)) none [9,18]]
def l122r4:List AOper :=
  [.mk (some 32) (.mv (.tmp 3)) none [],.mk (some 33) (.mv (.tmp 4)) none [],.mk (some 34) (.bslice 1 [.int .i64 0] [(0,.tmp 33)] 1) none [1],.mk (some 35) (.append 1 (.tmp 32) (.tmp 34)) none [0,2],.mk (some 3) (.mv (.tmp 35)) none [3,3,0,1,2,3]]
def l122r5:List AOper :=
  [.mk (some 28) (.mv (.tmp 4)) none [],.mk (some 29) (.fld 2 (.tmp 1)) none [],.mk (some 30) (.load false 1 (.tmp 29)) none [1],.mk (some 31) (.bin .add (.tmp 28) (.tmp 30)) none [0,2],.mk (some 4) (.mv (.tmp 31)) none [3,0,1,2,3]]
def l122r6:List AOper :=
  [.mk (some 36) (.mv (.tmp 3)) none [],.mk (some 2) (.mv (.tmp 36)) none [0,0]]
def l122:AFn :=
  (AFn.mk 37 1 (.seq (.reg l122r0) (.seq (.reg l122r1) (.seq (.seq (.reg l122r2) (.block 0 (.loop (.seq (.seq (.reg l122r3) (.cond (.tmp 27) .skip (.exit 0))) (.seq (.block 1 (.reg l122r4)) (.reg l122r5)))))) (.seq (.reg l122r6) .ret)))) [.tmp 2])
theorem l122_eq:lowFn Tryz.prog 122=some l122:=by kernel_rfl
def l123r0:List AOper :=
  [.mk (some 1) (.box (.tmp 0)) none [],.mk (some 2) (.alloc [.int .i64 0,.slice none 0 0,.slice none 0 0]) none []]
def l123r1:List AOper :=
  [.mk (some 3) (.fld 1 (.tmp 1)) none [],.mk (some 4) (.load false 1 (.tmp 3)) none [0],.mk (some 5) (.call 27 [.tmp 4]) none [1],.mk (some 6) (.bin .eql (.tmp 5) (.const (.int .i64 0))) none [2]]
def l123r2a:List AOper :=
  [.mk (some 7) (.fld 1 (.tmp 1)) none [],.mk (some 8) (.load false 1 (.tmp 7)) none [0],.mk (some 9) (.fld 1 (.tmp 1)) none [],.mk (some 10) (.load false 1 (.tmp 9)) none [2],.mk (some 11) (.len (.tmp 10)) none [3],.mk (some 12) (.mkslice 1 [.int .i64 0] (.tmp 11) (.tmp 11)) none [4,4]]
def l123r2b:List AOper :=
  [.mk (some 13) (.build [.int .i64 0,.slice none 0 0,.slice none 0 0] [(1,1,.tmp 8),(2,1,.tmp 12)]) none [1,5],.mk none (.store 3 (.tmp 2) (.tmp 13)) none [6,0,1,2,3,4,5,6]]
def l123r2:List AOper:=l123r2a ++ l123r2b
def l123r3:List AOper :=
  [.mk (some 14) (.load true 3 (.tmp 1)) none [],.mk none (.store 3 (.tmp 2) (.tmp 14)) none [0,0]]
def l123:AFn :=
  (AFn.mk 15 1 (.seq (.reg l123r0) (.seq (.seq (.reg l123r1) (.cond (.tmp 6) (.seq (.draw l123r2) .ret) .skip)) (.seq (.reg l123r3) .ret))) [.cell 2 true 3])
theorem l123_eq:lowFn Tryz.prog 123=some l123:=by kernel_rfl
def l130r0:List AOper :=
  [.mk (some 6) (.mv (.const (.int .i64 0))) none []]
def l130r1:List AOper :=
  [.mk (some 7) (.mv (.const (.int .i64 0))) none []]
def l130r2:List AOper :=
  [.mk (some 9) (.mv (.tmp 0)) none [],.mk (some 8) (.mv (.tmp 9)) none [0,0]]
def l130r3:List AOper :=
  [.mk (some 10) (.mv (.tmp 2)) none [],.mk (some 11) (.bin .lss (.tmp 10) (.const (.int .i64 0))) none [0]]
def l130r4:List AOper :=
  [.mk (some 7) (.mv (.const (.int .i64 (-1)))) none []]
def l130r5:List AOper :=
  [.mk (some 12) (.mv (.tmp 0)) none [],.mk (some 13) (.bin .sub (.tmp 12) (.const (.int .i64 1))) none [0],.mk (some 8) (.mv (.tmp 13)) none [1,0,1]]
def l130r6:List AOper :=
  [.mk (some 14) (.mv (.tmp 1)) none [],.mk (some 15) (.bin .lss (.tmp 14) (.const (.int .i64 0))) none [0]]
def l130r7:List AOper :=
  [.mk (some 16) (.mv (.tmp 1)) none [],.mk (some 17) (.mv (.tmp 0)) none [],.mk (some 18) (.bin .add (.tmp 16) (.tmp 17)) none [0,1],.mk (some 1) (.mv (.tmp 18)) none [2,0,1,2]]
def l130r8:List AOper :=
  [.mk (some 19) (.mv (.tmp 8)) none [],.mk (some 20) (.mv (.tmp 7)) none [],.mk (some 21) (.mv (.tmp 1)) none [],.mk (some 22) (.minmax true (.tmp 20) (.tmp 21)) none [1,2],.mk (some 23) (.minmax false (.tmp 19) (.tmp 22)) none [0,3],.mk (some 6) (.mv (.tmp 23)) none [4,0,1,2,3,4]]
def l130:AFn :=
  (AFn.mk 24 3 (.seq (.reg l130r0) (.seq (.reg l130r1) (.seq (.reg l130r2) (.seq (.seq (.reg l130r3) (.cond (.tmp 11) (.seq (.reg l130r4) (.reg l130r5)) .skip)) (.seq (.seq (.reg l130r6) (.cond (.tmp 15) (.reg l130r7) .skip)) (.seq (.reg l130r8) .ret)))))) [.tmp 6])
theorem l130_eq:lowFn Tryz.prog 130=some l130:=by kernel_rfl
end Go.Proofs.YtceopplkfomalaaGreat
