import Derived.Test.YtceopplkfomalaaCW3
import Derived.Test.YtceopplkfomalaaProg
import Derived.KernelRfl
set_option maxRecDepth 100000
namespace Go.Proofs.Ytceopplkfomalaa
open Vw Go
instance globs:Inhabited GlobT:=⟨⟨[]⟩⟩
attribute [push_cast] Bool.false_eq_true List.length_replicate
attribute [bitvec_to_nat] decide_eq_true_eq decide_eq_false_iff_not Bool.not_eq_true' Bool.not_eq_false' Bool.and_eq_true Bool.or_eq_true Bool.and_eq_false_iff Bool.or_eq_false_iff Int.not_le Int.not_lt bne_iff_ne ne_eq beq_iff_eq Bool.not_eq_true Bool.not_eq_false
theorem sd {P:Prop} (h:P:=by first|assumption|rfl|omega|(simp<;>omega)|(simp_all<;>omega)):P:=h
def l6r0:List AOper :=
  [.mk (some 2) (.mv (.const (.bool false))) none []]
def l6r1:List AOper :=
  [.mk (some 16) (.mv (.tmp 0)) none [],.mk (some 17) (.len (.tmp 16)) none [0],.mk (some 18) (.bin .gtr (.tmp 17) (.const (.int .i64 1048576))) none [1]]
def l6r2:List AOper :=
  [.mk (some 2) (.mv (.const (.bool true))) none []]
def l6r3:List AOper :=
  [.mk (some 20) (.mv (.tmp 0)) none [],.mk (some 21) (.call 26 [.tmp 20]) none [0],.mk (some 19) (.mv (.tmp 21)) none [1],.mk (some 22) (.extract (.tmp 19) 0) none [2],.mk (some 23) (.extract (.tmp 19) 1) none [2],.mk (some 24) (.extract (.tmp 19) 2) none [2],.mk (some 3) (.alloc [.int .i64 0,.slice none 0 0,.slice none 0 0]) none [],.mk none (.store 3 (.tmp 3) (.tmp 22)) none [6,3,1,0,1,2,3,6],.mk (some 4) (.mv (.tmp 23)) none [4,7,0,1,2,3,4,6,7],.mk (some 5) (.mv (.tmp 24)) none [5,8,0,1,2,3,4,5,6,7,8]]
def l6r4:List AOper :=
  [.mk (some 26) (.load true 3 (.tmp 3)) none [],.mk (some 27) (.mv (.tmp 4)) none [],.mk (some 28) (.mv (.tmp 5)) none [],.mk (some 29) (.call 27 [.tmp 26,.tmp 27,.tmp 28]) none [0,1,2],.mk (some 25) (.mv (.tmp 29)) none [3],.mk (some 30) (.extract (.tmp 25) 0) none [4],.mk (some 31) (.extract (.tmp 25) 1) none [4],.mk (some 6) (.alloc [.int .i64 0,.slice none 0 0,.slice none 0 0]) none [],.mk none (.store 3 (.tmp 6) (.tmp 30)) none [7,5,3,0,1,2,3,4,5,7],.mk (some 7) (.mv (.tmp 31)) none [6,8,0,1,2,3,4,5,6,7,8]]
def l6r5:List AOper :=
  [.mk (some 33) (.load true 3 (.tmp 3)) none [],.mk (some 34) (.mv (.tmp 4)) none [],.mk (some 35) (.mv (.tmp 5)) none [],.mk (some 36) (.call 28 [.tmp 33,.tmp 34,.tmp 35]) none [0,1,2],.mk (some 32) (.mv (.tmp 36)) none [3],.mk (some 37) (.extract (.tmp 32) 0) none [4],.mk (some 38) (.extract (.tmp 32) 1) none [4],.mk (some 8) (.alloc [.int .i64 0,.slice none 0 0,.slice none 0 0]) none [],.mk none (.store 3 (.tmp 8) (.tmp 37)) none [7,5,3,0,1,2,3,4,5,7],.mk (some 9) (.mv (.tmp 38)) none [6,8,0,1,2,3,4,5,6,7,8]]
def l6r6:List AOper :=
  [.mk (some 39) (.load true 3 (.tmp 6)) none [],.mk (some 40) (.load true 3 (.tmp 8)) none [],.mk (some 41) (.call 29 [.tmp 39,.tmp 40]) none [0,1],.mk (some 42) (.un .not (.tmp 41)) none [2],.mk (some 43) (.mv (.tmp 42)) none [3,2],.mk (some 44) (.mv (.tmp 7)) (some (43,false)) [4],.mk (some 45) (.mv (.tmp 9)) (some (43,false)) [4],.mk (some 46) (.binB .neq (.tmp 44) (.tmp 45)) (some (43,false)) [5,6,4],.mk (some 47) (.pick (.tmp 43) (.const (.bool true)) (.tmp 46)) none [4,7],.mk (some 48) (.mv (.tmp 47)) none [8,4],.mk (some 49) (.mv (.tmp 7)) (some (48,false)) [9],.mk (some 50) (.un .not (.tmp 49)) (some (48,false)) [10,9],.mk (some 51) (.pick (.tmp 48) (.const (.bool true)) (.tmp 50)) none [9,11]]
def l6r7:List AOper :=
  [.mk (some 52) (.load true 3 (.tmp 6)) none [],.mk (some 53) (.load true 3 (.tmp 8)) none [],.mk (some 54) (.call 29 [.tmp 52,.tmp 53]) none [0,1],.mk (some 55) (.mv (.tmp 54)) none [2,2],.mk (some 56) (.mv (.tmp 7)) (some (55,true)) [3],.mk (some 57) (.mv (.tmp 9)) (some (55,true)) [3],.mk (some 58) (.binB .eql (.tmp 56) (.tmp 57)) (some (55,true)) [4,5,3],.mk (some 59) (.pick (.tmp 55) (.tmp 58) (.const (.bool false))) none [3,6],.mk (some 2) (.mv (.tmp 59)) none [7,3,0,1,2,3,4,5,6,7]]
def l6r8:List AOper :=
  [.mk (some 60) (.bslice 1 [.int .i64 0] [] 0) none [],.mk (some 10) (.mv (.tmp 60)) none [0,0]]
def l6r9:List AOper :=
  [.mk (some 11) (.mv (.const (.int .i64 0))) none []]
def l6r10:List AOper :=
  [.mk (some 61) (.mv (.tmp 11)) none [],.mk (some 62) (.fld 1 (.tmp 3)) none [],.mk (some 63) (.load false 1 (.tmp 62)) none [1],.mk (some 64) (.call 30 [.tmp 63]) none [2],.mk (some 65) (.bin .lss (.tmp 61) (.tmp 64)) none [0,3]]
def l6r11:List AOper :=
  [.mk (some 68) (.fld 1 (.tmp 3)) none [],.mk (some 69) (.load false 1 (.tmp 68)) none [0],.mk (some 70) (.mv (.tmp 11)) none [],.mk (some 71) (.call 31 [.tmp 69,.tmp 70]) none [1,2],.mk (some 12) (.mv (.tmp 71)) none [3,3,0,1,2,3]]
def l6r12a:List AOper :=
  [.mk (some 72) (.mv (.tmp 12)) none [],.mk (some 73) (.mv (.tmp 4)) none [],.mk (some 74) (.idxA 1 (.tmp 72) (.tmp 73)) none [0,1],.mk (some 75) (.load false 1 (.tmp 74)) none [2],.mk (some 76) (.mv (.tmp 12)) none [],.mk (some 77) (.mv (.tmp 5)) none [],.mk (some 78) (.idxA 1 (.tmp 76) (.tmp 77)) none [4,5],.mk (some 79) (.load false 1 (.tmp 78)) none [6]]
def l6r12b:List AOper :=
  [.mk (some 80) (.bin .eql (.tmp 75) (.tmp 79)) none [3,7]]
def l6r12:List AOper:=l6r12a ++ l6r12b
def l6r13:List AOper :=
  [.mk (some 82) (.load true 3 (.tmp 3)) none [],.mk (some 83) (.mv (.tmp 12)) none [],.mk (some 84) (.call 32 [.tmp 82,.tmp 83]) none [0,1],.mk (some 81) (.mv (.tmp 84)) none [2],.mk (some 85) (.extract (.tmp 81) 0) none [3],.mk (some 86) (.extract (.tmp 81) 1) none [3],.mk (some 13) (.mv (.tmp 85)) none [4,2,0,1,2,3,4],.mk (some 14) (.mv (.tmp 86)) none [5,6,0,1,2,3,4,5,6]]
def l6r14:List AOper :=
  [.mk (some 87) (.mv (.tmp 10)) none [],.mk (some 88) (.mv (.tmp 13)) none [],.mk (some 89) (.bslice 1 [.int .i64 0] [(0,.tmp 88)] 1) none [1],.mk (some 90) (.append 1 (.tmp 87) (.tmp 89)) none [0,2],.mk (some 10) (.mv (.tmp 90)) none [3,3,0,1,2,3]]
def l6r15:List AOper :=
  [.mk (some 66) (.mv (.tmp 11)) none [],.mk (some 67) (.bin .add (.tmp 66) (.const (.int .i64 1))) none [0],.mk (some 11) (.mv (.tmp 67)) none [1,0,1]]
def l6r16:List AOper :=
  [.mk (some 91) (.load true 3 (.tmp 6)) none [],.mk (some 92) (.call 33 [.tmp 91]) none [0],.mk (some 15) (.mv (.tmp 92)) none [1,1,0,1]]
def l6r17:List AOper :=
  [.mk (some 93) (.mv (.tmp 15)) none [],.mk (some 94) (.len (.tmp 93)) none [0],.mk (some 95) (.mv (.tmp 10)) none [],.mk (some 96) (.len (.tmp 95)) none [2],.mk (some 97) (.bin .eql (.tmp 94) (.tmp 96)) none [1,3],.mk (some 98) (.mv (.tmp 97)) none [4],.mk (some 99) (.mv (.tmp 15)) (some (98,true)) [5],.mk (some 100) (.mv (.tmp 10)) (some (98,true)) [5],.mk (some 101) (.call 34 [.tmp 99,.tmp 100]) (some (98,true)) [6,7,5,5],.mk (some 102) (.pick (.tmp 98) (.tmp 101) (.const (.bool false))) none [5,8],.mk (some 103) (.mv (.tmp 102)) none [9,8],.mk (some 104) (.mv (.tmp 10)) (some (103,true)) [10],.mk (some 105) (.mv (.tmp 15)) (some (103,true)) [10],.mk (some 106) (.call 34 [.tmp 104,.tmp 105]) (some (103,true)) [11,12,10,10],.mk (some 107) (.pick (.tmp 103) (.tmp 106) (.const (.bool false))) none [10,13],.mk (some 108) (.mv (.tmp 107)) none [14,13],.mk (some 109) (.mv (.tmp 4)) (some (108,true)) [15],.mk (some 110) (.mv (.tmp 5)) (some (108,true)) [15],.mk (some 111) (.bin .gtr (.tmp 109) (.tmp 110)) (some (108,true)) [16,17,15],.mk (some 112) (.mv (.tmp 111)) (some (108,true)) [18,15,15],.mk (some 113) (.mv (.tmp 15)) (some (112,false)) [19],.mk (some 114) (.mv (.tmp 10)) (some (112,false)) [19],.mk (some 115) (.call 10 [.tmp 113,.tmp 114]) (some (112,false)) [20,21,19,19],.mk (some 116) (.pick (.tmp 112) (.const (.bool true)) (.tmp 115)) (some (108,true)) [19,22,15],.mk (some 117) (.pick (.tmp 108) (.tmp 116) (.const (.bool false))) none [15,23],.mk (some 2) (.mv (.tmp 117)) none [24,22,0,1,2,3,4,5,6,7,8,9,10,11,12,13,14,15,16,17,18,19,20,21,22,23,24]]
def l6:AFn :=
  (AFn.mk 118 1 (.seq (.reg l6r0) (.seq (.seq (.reg l6r1) (.cond (.tmp 18) (.seq (.reg l6r2) .ret) .skip)) (.seq (.reg l6r3) (.seq (.reg l6r4) (.seq (.reg l6r5) (.seq (.seq (.reg l6r6) (.cond (.tmp 51) (.seq (.reg l6r7) .ret) .skip)) (.seq (.reg l6r8) (.seq (.seq (.reg l6r9) (.block 0 (.loop (.seq (.seq (.reg l6r10) (.cond (.tmp 65) .skip (.exit 0))) (.seq (.block 1 (.seq (.reg l6r11) (.seq (.draw l6r12) (.cond (.tmp 80) (.seq (.reg l6r13) (.reg l6r14)) .skip)))) (.reg l6r15)))))) (.seq (.reg l6r16) (.seq (.reg l6r17) .ret)))))))))) [.tmp 2])
theorem l6_eq:lowFn Try.prog 6=some l6:=by kernel_rfl
def l10r0:List AOper :=
  [.mk (some 4) (.mv (.const (.bool false))) none []]
def l10r1:List AOper :=
  [.mk (some 6) (.mv (.tmp 0)) none [],.mk (some 7) (.len (.tmp 6)) none [0],.mk (some 8) (.mv (.tmp 1)) none [],.mk (some 9) (.len (.tmp 8)) none [2],.mk (some 10) (.bin .neq (.tmp 7) (.tmp 9)) none [1,3]]
def l10r2:List AOper :=
  [.mk (some 4) (.mv (.const (.bool false))) none []]
def l10r3:List AOper :=
  [.mk (some 5) (.mv (.const (.int .i64 0))) none []]
def l10r4:List AOper :=
  [.mk (some 11) (.mv (.tmp 5)) none [],.mk (some 12) (.mv (.tmp 0)) none [],.mk (some 13) (.len (.tmp 12)) none [1],.mk (some 14) (.bin .lss (.tmp 11) (.tmp 13)) none [0,2]]
def l10r5a:List AOper :=
  [.mk (some 17) (.mv (.tmp 0)) none [],.mk (some 18) (.mv (.tmp 5)) none [],.mk (some 19) (.idxA 1 (.tmp 17) (.tmp 18)) none [0,1],.mk (some 20) (.load false 1 (.tmp 19)) none [2],.mk (some 21) (.mv (.tmp 1)) none [],.mk (some 22) (.mv (.tmp 5)) none [],.mk (some 23) (.idxA 1 (.tmp 21) (.tmp 22)) none [4,5],.mk (some 24) (.load false 1 (.tmp 23)) none [6]]
def l10r5b:List AOper :=
  [.mk (some 25) (.bin .neq (.tmp 20) (.tmp 24)) none [3,7]]
def l10r5:List AOper:=l10r5a ++ l10r5b
def l10r6:List AOper :=
  [.mk (some 4) (.mv (.const (.bool false))) none []]
def l10r7:List AOper :=
  [.mk (some 15) (.mv (.tmp 5)) none [],.mk (some 16) (.bin .add (.tmp 15) (.const (.int .i64 1))) none [0],.mk (some 5) (.mv (.tmp 16)) none [1,0,1]]
def l10r8:List AOper :=
  [.mk (some 4) (.mv (.const (.bool true))) none []]
def l10:AFn :=
  (AFn.mk 26 2 (.seq (.reg l10r0) (.seq (.seq (.reg l10r1) (.cond (.tmp 10) (.seq (.reg l10r2) .ret) .skip)) (.seq (.seq (.reg l10r3) (.block 0 (.loop (.seq (.seq (.reg l10r4) (.cond (.tmp 14) .skip (.exit 0))) (.seq (.block 1 (.seq (.draw l10r5) (.cond (.tmp 25) (.seq (.reg l10r6) .ret) .skip))) (.reg l10r7)))))) (.seq (.reg l10r8) .ret)))) [.tmp 4])
theorem l10_eq:lowFn Try.prog 10=some l10:=by kernel_rfl
def l12r0:List AOper :=
  [.mk (some 1) (.box (.tmp 0)) none [],.mk (some 2) (.mv (.const (.bool false))) none []]
def l12r1:List AOper :=
  [.mk (some 5) (.fld 1 (.tmp 1)) none [],.mk (some 6) (.load false 1 (.tmp 5)) none [0],.mk (some 7) (.call 54 [.tmp 6]) none [1],.mk (some 8) (.un .not (.tmp 7)) none [2],.mk (some 9) (.mv (.tmp 8)) none [3,2],.mk (some 10) (.fld 2 (.tmp 1)) (some (9,false)) [4],.mk (some 11) (.load false 1 (.tmp 10)) (some (9,false)) [5,4],.mk (some 12) (.fld 1 (.tmp 1)) (some (9,false)) [4],.mk (some 13) (.load false 1 (.tmp 12)) (some (9,false)) [7,4],.mk (some 14) (.len (.tmp 13)) (some (9,false)) [8,4],.mk (some 15) (.call 55 [.tmp 11,.tmp 14]) (some (9,false)) [6,9,4,4],.mk (some 16) (.un .not (.tmp 15)) (some (9,false)) [10,4],.mk (some 17) (.pick (.tmp 9) (.const (.bool true)) (.tmp 16)) none [4,11],.mk (some 18) (.mv (.tmp 17)) none [12,10],.mk (some 19) (.fld 0 (.tmp 1)) (some (18,false)) [13],.mk (some 20) (.load false 1 (.tmp 19)) (some (18,false)) [14,13],.mk (some 21) (.call 56 [.tmp 20,.const (.int .i64 60)]) (some (18,false)) [15,13,13],.mk (some 22) (.un .not (.tmp 21)) (some (18,false)) [16,13],.mk (some 23) (.pick (.tmp 18) (.const (.bool true)) (.tmp 22)) none [13,17]]
def l12r2:List AOper :=
  [.mk (some 2) (.mv (.const (.bool false))) none []]
def l12r3:List AOper :=
  [.mk (some 25) (.load true 3 (.tmp 1)) none [],.mk (some 26) (.call 57 [.tmp 25]) none [0],.mk (some 24) (.mv (.tmp 26)) none [1],.mk (some 27) (.extract (.tmp 24) 0) none [2],.mk (some 28) (.extract (.tmp 24) 1) none [2],.mk (some 3) (.mv (.tmp 27)) none [3,1,0,1,2,3],.mk (some 4) (.mv (.tmp 28)) none [4,5,0,1,2,3,4,5]]
def l12r4:List AOper :=
  [.mk (some 29) (.load true 3 (.tmp 1)) none [],.mk (some 30) (.call 58 [.tmp 29]) none [0],.mk (some 31) (.bin .eql (.tmp 30) (.const (.int .i64 0))) none [1],.mk (some 32) (.mv (.tmp 31)) none [2,1],.mk (some 33) (.mv (.tmp 3)) (some (32,false)) [3],.mk (some 34) (.bin .geq (.tmp 33) (.const (.int .i64 0))) (some (32,false)) [4,3],.mk (some 35) (.mv (.tmp 34)) (some (32,false)) [5,3,3],.mk (some 36) (.mv (.tmp 4)) (some (35,true)) [6],.mk (some 37) (.bin .lss (.tmp 36) (.const (.int .i64 60))) (some (35,true)) [7,6],.mk (some 38) (.pick (.tmp 35) (.tmp 37) (.const (.bool false))) (some (32,false)) [6,8,3],.mk (some 39) (.pick (.tmp 32) (.const (.bool true)) (.tmp 38)) none [3,9],.mk (some 2) (.mv (.tmp 39)) none [10,6,0,1,2,3,4,5,6,7,8,9,10]]
def l12:AFn :=
  (AFn.mk 40 1 (.seq (.reg l12r0) (.seq (.seq (.reg l12r1) (.cond (.tmp 23) (.seq (.reg l12r2) .ret) .skip)) (.seq (.reg l12r3) (.seq (.reg l12r4) .ret)))) [.tmp 2])
theorem l12_eq:lowFn Try.prog 12=some l12:=by kernel_rfl
def l15r0:List AOper :=
  [.mk (some 4) (.mv (.const (.bool false))) none []]
def l15r1:List AOper :=
  [.mk (some 5) (.mv (.const (.int .i64 0))) none []]
def l15r2:List AOper :=
  [.mk (some 6) (.mv (.tmp 5)) none [],.mk (some 7) (.mv (.tmp 0)) none [],.mk (some 8) (.len (.tmp 7)) none [1],.mk (some 9) (.bin .lss (.tmp 6) (.tmp 8)) none [0,2]]
def l15r3:List AOper :=
  [.mk (some 12) (.mv (.tmp 0)) none [],.mk (some 13) (.mv (.tmp 5)) none [],.mk (some 14) (.idxA 1 (.tmp 12) (.tmp 13)) none [0,1],.mk (some 15) (.load false 1 (.tmp 14)) none [2],.mk (some 16) (.mv (.tmp 1)) none [],.mk (some 17) (.bin .eql (.tmp 15) (.tmp 16)) none [3,4]]
def l15r4:List AOper :=
  [.mk (some 4) (.mv (.const (.bool true))) none []]
def l15r5:List AOper :=
  [.mk (some 10) (.mv (.tmp 5)) none [],.mk (some 11) (.bin .add (.tmp 10) (.const (.int .i64 1))) none [0],.mk (some 5) (.mv (.tmp 11)) none [1,0,1]]
def l15r6:List AOper :=
  [.mk (some 4) (.mv (.const (.bool false))) none []]
def l15:AFn :=
  (AFn.mk 18 2 (.seq (.reg l15r0) (.seq (.seq (.reg l15r1) (.block 0 (.loop (.seq (.seq (.reg l15r2) (.cond (.tmp 9) .skip (.exit 0))) (.seq (.block 1 (.seq (.reg l15r3) (.cond (.tmp 17) (.seq (.reg l15r4) .ret) .skip))) (.reg l15r5)))))) (.seq (.reg l15r6) .ret))) [.tmp 4])
theorem l15_eq:lowFn Try.prog 15=some l15:=by kernel_rfl
def l26r0:List AOper :=
  [.mk (some 2) (.alloc [.int .i64 0,.slice none 0 0,.slice none 0 0]) none [],.mk (some 3) (.mv (.const (.int .i64 0))) none [],.mk (some 4) (.mv (.const (.int .i64 0))) none [1]]
def l26r1:List AOper :=
  [.mk (some 10) (.mv (.tmp 0)) none [],.mk (some 11) (.call 46 [.tmp 10]) none [0],.mk (some 5) (.mv (.tmp 11)) none [1,1,0,1]]
def l26r2:List AOper :=
  [.mk (some 12) (.mv (.tmp 5)) none [],.mk (some 13) (.call 75 [.tmp 12,.const (.int .i64 2)]) none [0],.mk (some 14) (.bin .eql (.tmp 13) (.const (.int .i64 0))) none [1]]
def l26r3:List AOper :=
  [.mk (some 15) (.mv (.tmp 5)) none [],.mk (some 16) (.bslice 1 [.int .i64 0] [(0,.const (.int .i64 3)),(1,.const (.int .i64 2)),(2,.const (.int .i64 4)),(3,.const (.int .i64 1)),(4,.const (.int .i64 0))] 5) none [],.mk (some 17) (.call 74 [.tmp 15,.tmp 16]) none [0,1],.mk (some 6) (.mv (.tmp 17)) none [2,2,0,1,2]]
def l26r4:List AOper :=
  [.mk (some 18) (.mv (.tmp 6)) none [],.mk (some 19) (.mv (.tmp 6)) none [],.mk (some 20) (.bslice 1 [.int .i64 0] [(0,.tmp 18),(1,.tmp 19)] 2) none [0,1],.mk (some 21) (.call 77 [.tmp 20]) none [2],.mk (some 7) (.alloc [.int .i64 0,.slice none 0 0,.slice none 0 0]) none [],.mk none (.store 3 (.tmp 7) (.tmp 21)) none [4,3,3,0,1,2,3,4]]
def l26r5:List AOper :=
  [.mk (some 22) (.mv (.tmp 5)) none [],.mk (some 23) (.call 75 [.tmp 22,.const (.int .i64 2)]) none [0],.mk (some 24) (.bin .eql (.tmp 23) (.const (.int .i64 0))) none [1]]
def l26r6:List AOper :=
  [.mk (some 25) (.mv (.tmp 6)) none [],.mk (some 26) (.mv (.tmp 6)) none [],.mk (some 27) (.bslice 1 [.int .i64 0] [(0,.tmp 25),(1,.const (.int .i64 2)),(2,.tmp 26)] 3) none [0,1],.mk (some 28) (.call 77 [.tmp 27]) none [2],.mk none (.store 3 (.tmp 7) (.tmp 28)) none [3,3,0,1,2,3]]
def l26r7a:List AOper :=
  [.mk (some 29) (.load true 3 (.tmp 7)) none [],.mk (some 30) (.mv (.tmp 5)) none [],.mk (some 31) (.fld 1 (.tmp 7)) none [],.mk (some 32) (.load false 1 (.tmp 31)) none [2],.mk (some 33) (.len (.tmp 32)) none [3],.mk (some 34) (.call 75 [.tmp 30,.tmp 33]) none [1,4],.mk (some 35) (.mv (.tmp 5)) none [],.mk (some 36) (.fld 1 (.tmp 7)) none [],.mk (some 37) (.load false 1 (.tmp 36)) none [7],.mk (some 38) (.len (.tmp 37)) none [8],.mk (some 39) (.call 75 [.tmp 35,.tmp 38]) none [6,9,5]]
def l26r7b:List AOper :=
  [.mk none (.store 3 (.tmp 2) (.tmp 29)) none [0,10,0],.mk (some 3) (.mv (.tmp 34)) none [5,11,0,1,2,3,4,5,11],.mk (some 4) (.mv (.tmp 39)) none [10,12,0,1,2,3,4,5,6,7,8,9,10,11,12]]
def l26r7:List AOper:=l26r7a ++ l26r7b
def l26r8:List AOper :=
  [.mk (some 41) (.mv (.tmp 5)) none [],.mk (some 42) (.call 78 [.tmp 41]) none [0],.mk (some 40) (.mv (.tmp 42)) none [1],.mk (some 43) (.extract (.tmp 40) 0) none [2],.mk (some 44) (.extract (.tmp 40) 1) none [2],.mk (some 8) (.alloc [.int .i64 0,.slice none 0 0,.slice none 0 0]) none [],.mk none (.store 3 (.tmp 8) (.tmp 43)) none [5,3,1,0,1,2,3,5],.mk (some 9) (.mv (.tmp 44)) none [4,6,0,1,2,3,4,5,6]]
def l26r9a:List AOper :=
  [.mk (some 45) (.load true 3 (.tmp 8)) none [],.mk (some 46) (.mv (.tmp 9)) none [],.mk (some 47) (.mv (.tmp 5)) none [],.mk (some 48) (.call 75 [.tmp 47,.const (.int .i64 3)]) none [2],.mk none (.store 3 (.tmp 2) (.tmp 45)) none [0,3,0]]
def l26r9b:List AOper :=
  [.mk (some 3) (.mv (.tmp 46)) none [1,4,0,1,4],.mk (some 4) (.mv (.tmp 48)) none [3,5,0,1,2,3,4,5]]
def l26r9:List AOper:=l26r9a ++ l26r9b
def l26:AFn :=
  (AFn.mk 49 1 (.seq (.reg l26r0) (.seq (.reg l26r1) (.seq (.seq (.reg l26r2) (.cond (.tmp 14) (.seq (.reg l26r3) (.seq (.reg l26r4) (.seq (.seq (.reg l26r5) (.cond (.tmp 24) (.reg l26r6) .skip)) (.seq (.draw l26r7) .ret)))) .skip)) (.seq (.reg l26r8) (.seq (.draw l26r9) .ret))))) [.cell 2 true 3,.tmp 3,.tmp 4])
theorem l26_eq:lowFn Try.prog 26=some l26:=by kernel_rfl
def l27r0:List AOper :=
  [.mk (some 3) (.box (.tmp 0)) none [],.mk (some 6) (.alloc [.int .i64 0,.slice none 0 0,.slice none 0 0]) none [],.mk (some 7) (.mv (.const (.bool false))) none []]
def l27r1a:List AOper :=
  [.mk (some 9) (.load true 3 (.tmp 3)) none [],.mk (some 10) (.mv (.tmp 1)) none [],.mk (some 11) (.call 79 [.tmp 9,.tmp 10]) none [0,1],.mk (some 12) (.un .not (.tmp 11)) none [2],.mk (some 13) (.mv (.tmp 12)) none [3,2],.mk (some 14) (.load true 3 (.tmp 3)) (some (13,false)) [4],.mk (some 15) (.mv (.tmp 2)) (some (13,false)) [4],.mk (some 16) (.call 79 [.tmp 14,.tmp 15]) (some (13,false)) [5,6,4,4],.mk (some 17) (.un .not (.tmp 16)) (some (13,false)) [7,4],.mk (some 18) (.pick (.tmp 13) (.const (.bool true)) (.tmp 17)) none [4,8],.mk (some 19) (.mv (.tmp 18)) none [9,7],.mk (some 20) (.mv (.tmp 1)) (some (19,false)) [10],.mk (some 21) (.mv (.tmp 2)) (some (19,false)) [10],.mk (some 22) (.bin .eql (.tmp 20) (.tmp 21)) (some (19,false)) [11,12,10],.mk (some 23) (.pick (.tmp 19) (.const (.bool true)) (.tmp 22)) none [10,13],.mk (some 24) (.mv (.tmp 23)) none [14,10],.mk (some 25) (.fld 1 (.tmp 3)) (some (24,false)) [15],.mk (some 26) (.load false 1 (.tmp 25)) (some (24,false)) [16,15],.mk (some 27) (.mv (.tmp 1)) (some (24,false)) [15],.mk (some 28) (.idxA 1 (.tmp 26) (.tmp 27)) (some (24,false)) [17,18,15],.mk (some 29) (.load false 1 (.tmp 28)) (some (24,false)) [19,15],.mk (some 30) (.fld 1 (.tmp 3)) (some (24,false)) [15],.mk (some 31) (.load false 1 (.tmp 30)) (some (24,false)) [21,15],.mk (some 32) (.mv (.tmp 2)) (some (24,false)) [15],.mk (some 33) (.idxA 1 (.tmp 31) (.tmp 32)) (some (24,false)) [22,23,15],.mk (some 34) (.load false 1 (.tmp 33)) (some (24,false)) [24,15]]
def l27r1b:List AOper :=
  [.mk (some 35) (.bin .neq (.tmp 29) (.tmp 34)) (some (24,false)) [20,25,15],.mk (some 36) (.pick (.tmp 24) (.const (.bool true)) (.tmp 35)) none [15,26]]
def l27r1:List AOper:=l27r1a ++ l27r1b
def l27r2:List AOper :=
  [.mk (some 37) (.build [.int .i64 0,.slice none 0 0,.slice none 0 0] []) none [],.mk none (.store 3 (.tmp 6) (.tmp 37)) none [0,0],.mk (some 7) (.mv (.const (.bool false))) none [1,0,1]]
def l27r3:List AOper :=
  [.mk (some 38) (.load true 3 (.tmp 3)) none [],.mk (some 39) (.call 80 [.tmp 38]) none [0],.mk (some 8) (.alloc [.int .i64 0,.slice none 0 0,.slice none 0 0,.int .i64 0,.int .i64 0,.int .i64 0,.int .i64 0,.slice none 0 0]) none [],.mk none (.store 8 (.tmp 8) (.tmp 39)) none [2,1,1,0,1,2]]
def l27r4a:List AOper :=
  [.mk (some 40) (.fld 7 (.tmp 8)) none [],.mk (some 41) (.load false 1 (.tmp 40)) none [0],.mk (some 42) (.mv (.tmp 1)) none [],.mk (some 43) (.fld 1 (.tmp 3)) none [],.mk (some 44) (.load false 1 (.tmp 43)) none [3],.mk (some 45) (.mv (.tmp 1)) none [],.mk (some 46) (.idxA 1 (.tmp 44) (.tmp 45)) none [4,5],.mk (some 47) (.load false 1 (.tmp 46)) none [6],.mk (some 48) (.fld 2 (.tmp 3)) none [],.mk (some 49) (.load false 1 (.tmp 48)) none [8],.mk (some 50) (.mv (.tmp 1)) none [],.mk (some 51) (.idxA 1 (.tmp 49) (.tmp 50)) none [9,10],.mk (some 52) (.load false 1 (.tmp 51)) none [11],.mk (some 53) (.fld 2 (.tmp 3)) none [],.mk (some 54) (.load false 1 (.tmp 53)) none [13],.mk (some 55) (.mv (.tmp 2)) none [],.mk (some 56) (.idxA 1 (.tmp 54) (.tmp 55)) none [14,15],.mk (some 57) (.load false 1 (.tmp 56)) none [16],.mk (some 58) (.bin .add (.tmp 52) (.tmp 57)) none [12,17],.mk (some 59) (.call 81 [.tmp 47,.tmp 58]) none [7,18]]
def l27r4b:List AOper :=
  [.mk (some 60) (.idxA 2 (.tmp 41) (.tmp 42)) none [1,2,0,1,2,3,4,5,6,7,8,9,10,11,12,13,14,15,16,17,18,19],.mk none (.store 2 (.tmp 60) (.tmp 59)) none [20,19,19,0,1,2,3,4,5,6,7,8,9,10,11,12,13,14,15,16,17,18,19]]
def l27r4:List AOper:=l27r4a ++ l27r4b
def l27r5:List AOper :=
  [.mk (some 61) (.fld 7 (.tmp 8)) none [],.mk (some 62) (.load false 1 (.tmp 61)) none [0],.mk (some 63) (.mv (.tmp 2)) none [],.mk (some 64) (.mv (.tmp 2)) none [],.mk (some 65) (.bin .add (.tmp 64) (.const (.int .i64 1))) none [3],.mk (some 66) (.call 82 [.tmp 62,.tmp 63,.tmp 65]) none [1,2,4],.mk (some 67) (.fld 7 (.tmp 8)) none [0,1,2,3,4,5],.mk none (.store 1 (.tmp 67) (.tmp 66)) none [6,5,5,0,1,2,3,4,5]]
def l27r6:List AOper :=
  [.mk (some 68) (.load true 8 (.tmp 8)) none [],.mk (some 69) (.call 83 [.tmp 68]) none [0],.mk none (.store 3 (.tmp 6) (.tmp 69)) none [1,1,0,1],.mk (some 7) (.mv (.const (.bool true))) none [2,0,1,2]]
def l27:AFn :=
  (AFn.mk 70 3 (.seq (.reg l27r0) (.seq (.seq (.draw l27r1) (.cond (.tmp 36) (.seq (.reg l27r2) .ret) .skip)) (.seq (.reg l27r3) (.seq (.draw l27r4) (.seq (.reg l27r5) (.seq (.reg l27r6) .ret)))))) [.cell 6 true 3,.tmp 7])
theorem l27_eq:lowFn Try.prog 27=some l27:=by kernel_rfl
def l28r0:List AOper :=
  [.mk (some 3) (.box (.tmp 0)) none [],.mk (some 6) (.alloc [.int .i64 0,.slice none 0 0,.slice none 0 0]) none [],.mk (some 7) (.mv (.const (.bool false))) none []]
def l28r1a:List AOper :=
  [.mk (some 9) (.load true 3 (.tmp 3)) none [],.mk (some 10) (.call 52 [.tmp 9]) none [0],.mk (some 11) (.un .not (.tmp 10)) none [1],.mk (some 12) (.mv (.tmp 11)) none [2,1],.mk (some 13) (.load true 3 (.tmp 3)) (some (12,false)) [3],.mk (some 14) (.mv (.tmp 1)) (some (12,false)) [3],.mk (some 15) (.call 84 [.tmp 13,.tmp 14]) (some (12,false)) [4,5,3,3],.mk (some 16) (.un .not (.tmp 15)) (some (12,false)) [6,3],.mk (some 17) (.pick (.tmp 12) (.const (.bool true)) (.tmp 16)) none [3,7],.mk (some 18) (.mv (.tmp 17)) none [8,6],.mk (some 19) (.load true 3 (.tmp 3)) (some (18,false)) [9],.mk (some 20) (.mv (.tmp 2)) (some (18,false)) [9],.mk (some 21) (.call 84 [.tmp 19,.tmp 20]) (some (18,false)) [10,11,9,9],.mk (some 22) (.un .not (.tmp 21)) (some (18,false)) [12,9],.mk (some 23) (.pick (.tmp 18) (.const (.bool true)) (.tmp 22)) none [9,13],.mk (some 24) (.mv (.tmp 23)) none [14,12],.mk (some 25) (.mv (.tmp 1)) (some (24,false)) [15],.mk (some 26) (.mv (.tmp 2)) (some (24,false)) [15],.mk (some 27) (.bin .eql (.tmp 25) (.tmp 26)) (some (24,false)) [16,17,15],.mk (some 28) (.pick (.tmp 24) (.const (.bool true)) (.tmp 27)) none [15,18],.mk (some 29) (.mv (.tmp 28)) none [19,15],.mk (some 30) (.fld 1 (.tmp 3)) (some (29,false)) [20],.mk (some 31) (.load false 1 (.tmp 30)) (some (29,false)) [21,20],.mk (some 32) (.mv (.tmp 1)) (some (29,false)) [20],.mk (some 33) (.idxA 1 (.tmp 31) (.tmp 32)) (some (29,false)) [22,23,20],.mk (some 34) (.load false 1 (.tmp 33)) (some (29,false)) [24,20],.mk (some 35) (.fld 1 (.tmp 3)) (some (29,false)) [20],.mk (some 36) (.load false 1 (.tmp 35)) (some (29,false)) [26,20],.mk (some 37) (.mv (.tmp 2)) (some (29,false)) [20],.mk (some 38) (.idxA 1 (.tmp 36) (.tmp 37)) (some (29,false)) [27,28,20],.mk (some 39) (.load false 1 (.tmp 38)) (some (29,false)) [29,20]]
def l28r1b:List AOper :=
  [.mk (some 40) (.bin .neq (.tmp 34) (.tmp 39)) (some (29,false)) [25,30,20],.mk (some 41) (.pick (.tmp 29) (.const (.bool true)) (.tmp 40)) none [20,31]]
def l28r1:List AOper:=l28r1a ++ l28r1b
def l28r2:List AOper :=
  [.mk (some 42) (.build [.int .i64 0,.slice none 0 0,.slice none 0 0] []) none [],.mk none (.store 3 (.tmp 6) (.tmp 42)) none [0,0],.mk (some 7) (.mv (.const (.bool false))) none [1,0,1]]
def l28r3:List AOper :=
  [.mk (some 43) (.load true 3 (.tmp 3)) none [],.mk (some 44) (.call 85 [.tmp 43]) none [0],.mk (some 8) (.alloc [.int .i64 0,.slice none 0 0,.slice none 0 0]) none [],.mk none (.store 3 (.tmp 8) (.tmp 44)) none [2,1,1,0,1,2]]
def l28r4a:List AOper :=
  [.mk (some 45) (.fld 2 (.tmp 8)) none [],.mk (some 46) (.load false 1 (.tmp 45)) none [0],.mk (some 47) (.mv (.tmp 1)) none [],.mk (some 48) (.fld 2 (.tmp 3)) none [],.mk (some 49) (.load false 1 (.tmp 48)) none [3],.mk (some 50) (.mv (.tmp 1)) none [],.mk (some 51) (.idxA 1 (.tmp 49) (.tmp 50)) none [4,5],.mk (some 52) (.load false 1 (.tmp 51)) none [6],.mk (some 53) (.fld 2 (.tmp 3)) none [],.mk (some 54) (.load false 1 (.tmp 53)) none [8],.mk (some 55) (.mv (.tmp 2)) none [],.mk (some 56) (.idxA 1 (.tmp 54) (.tmp 55)) none [9,10],.mk (some 57) (.load false 1 (.tmp 56)) none [11],.mk (some 58) (.bin .add (.tmp 52) (.tmp 57)) none [7,12]]
def l28r4b:List AOper :=
  [.mk (some 59) (.idxA 1 (.tmp 46) (.tmp 47)) none [1,2,0,1,2,3,4,5,6,7,8,9,10,11,12,13],.mk none (.store 1 (.tmp 59) (.tmp 58)) none [14,13,0,1,2,3,4,5,6,7,8,9,10,11,12,13]]
def l28r4:List AOper:=l28r4a ++ l28r4b
def l28r5:List AOper :=
  [.mk (some 60) (.fld 1 (.tmp 3)) none [],.mk (some 61) (.load false 1 (.tmp 60)) none [0],.mk (some 62) (.mv (.tmp 1)) none [],.mk (some 63) (.idxA 1 (.tmp 61) (.tmp 62)) none [1,2],.mk (some 64) (.load false 1 (.tmp 63)) none [3],.mk (some 65) (.bin .leq (.tmp 64) (.const (.int .i64 1))) none [4]]
def l28r6:List AOper :=
  [.mk (some 66) (.fld 2 (.tmp 8)) none [],.mk (some 67) (.load false 1 (.tmp 66)) none [0],.mk (some 68) (.mv (.tmp 1)) none [],.mk (some 69) (.idxA 1 (.tmp 67) (.tmp 68)) none [1,2,0,1,2],.mk none (.store 1 (.tmp 69) (.const (.int .i64 0))) none [3,0,1,2]]
def l28r7:List AOper :=
  [.mk (some 70) (.fld 1 (.tmp 8)) none [],.mk (some 71) (.load false 1 (.tmp 70)) none [0],.mk (some 72) (.mv (.tmp 2)) none [],.mk (some 73) (.call 86 [.tmp 71,.tmp 72]) none [1,2],.mk (some 74) (.fld 1 (.tmp 8)) none [0,1,2,3],.mk none (.store 1 (.tmp 74) (.tmp 73)) none [4,3,3,0,1,2,3]]
def l28r8:List AOper :=
  [.mk (some 75) (.fld 2 (.tmp 8)) none [],.mk (some 76) (.load false 1 (.tmp 75)) none [0],.mk (some 77) (.mv (.tmp 2)) none [],.mk (some 78) (.call 86 [.tmp 76,.tmp 77]) none [1,2],.mk (some 79) (.fld 2 (.tmp 8)) none [0,1,2,3],.mk none (.store 1 (.tmp 79) (.tmp 78)) none [4,3,3,0,1,2,3]]
def l28r9:List AOper :=
  [.mk (some 80) (.load true 3 (.tmp 8)) none [],.mk (some 81) (.call 88 [.tmp 80]) none [0],.mk (some 82) (.call 87 [.tmp 81]) none [1,1],.mk (some 83) (.extract (.tmp 82) 0) none [2],.mk (some 84) (.extract (.tmp 82) 1) none [2],.mk none (.store 3 (.tmp 6) (.tmp 83)) none [3,2,0,1,2,3,4],.mk (some 7) (.mv (.tmp 84)) none [4,5,0,1,2,3,4,5]]
def l28:AFn :=
  (AFn.mk 85 3 (.seq (.reg l28r0) (.seq (.seq (.draw l28r1) (.cond (.tmp 41) (.seq (.reg l28r2) .ret) .skip)) (.seq (.reg l28r3) (.seq (.draw l28r4) (.seq (.seq (.reg l28r5) (.cond (.tmp 65) (.reg l28r6) .skip)) (.seq (.reg l28r7) (.seq (.reg l28r8) (.seq (.reg l28r9) .ret)))))))) [.cell 6 true 3,.tmp 7])
theorem l28_eq:lowFn Try.prog 28=some l28:=by kernel_rfl
def l29r0:List AOper :=
  [.mk (some 2) (.box (.tmp 0)) none [],.mk (some 3) (.box (.tmp 1)) none [],.mk (some 4) (.mv (.const (.bool false))) none []]
def l29r1:List AOper :=
  [.mk (some 5) (.fld 0 (.tmp 2)) none [],.mk (some 6) (.load false 1 (.tmp 5)) none [0],.mk (some 7) (.fld 0 (.tmp 3)) none [],.mk (some 8) (.load false 1 (.tmp 7)) none [2],.mk (some 9) (.bin .eql (.tmp 6) (.tmp 8)) none [1,3],.mk (some 10) (.mv (.tmp 9)) none [4],.mk (some 11) (.fld 1 (.tmp 2)) (some (10,true)) [5],.mk (some 12) (.load false 1 (.tmp 11)) (some (10,true)) [6,5],.mk (some 13) (.fld 1 (.tmp 3)) (some (10,true)) [5],.mk (some 14) (.load false 1 (.tmp 13)) (some (10,true)) [8,5],.mk (some 15) (.call 10 [.tmp 12,.tmp 14]) (some (10,true)) [7,9,5,5],.mk (some 16) (.pick (.tmp 10) (.tmp 15) (.const (.bool false))) none [5,10],.mk (some 17) (.mv (.tmp 16)) none [11,10],.mk (some 18) (.fld 2 (.tmp 2)) (some (17,true)) [12],.mk (some 19) (.load false 1 (.tmp 18)) (some (17,true)) [13,12],.mk (some 20) (.fld 2 (.tmp 3)) (some (17,true)) [12],.mk (some 21) (.load false 1 (.tmp 20)) (some (17,true)) [15,12],.mk (some 22) (.call 10 [.tmp 19,.tmp 21]) (some (17,true)) [14,16,12,12],.mk (some 23) (.pick (.tmp 17) (.tmp 22) (.const (.bool false))) none [12,17],.mk (some 4) (.mv (.tmp 23)) none [18,17,0,1,2,3,4,5,6,7,8,9,10,11,12,13,14,15,16,17,18]]
def l29:AFn :=
  (AFn.mk 24 2 (.seq (.reg l29r0) (.seq (.reg l29r1) .ret)) [.tmp 4])
theorem l29_eq:lowFn Try.prog 29=some l29:=by kernel_rfl
def l30r0:List AOper :=
  [.mk (some 2) (.mv (.const (.int .i64 0))) none []]
def l30r1:List AOper :=
  [.mk (some 3) (.mv (.tmp 0)) none [],.mk (some 4) (.call 54 [.tmp 3]) none [0],.mk (some 5) (.un .not (.tmp 4)) none [1]]
def l30r2:List AOper :=
  [.mk (some 2) (.mv (.const (.int .i64 (-1)))) none []]
def l30r3:List AOper :=
  [.mk (some 6) (.mv (.tmp 0)) none [],.mk (some 7) (.call 89 [.tmp 6]) none [0],.mk (some 2) (.mv (.tmp 7)) none [1,1,0,1]]
def l30:AFn :=
  (AFn.mk 8 1 (.seq (.reg l30r0) (.seq (.seq (.reg l30r1) (.cond (.tmp 5) (.seq (.reg l30r2) .ret) .skip)) (.seq (.reg l30r3) .ret))) [.tmp 2])
theorem l30_eq:lowFn Try.prog 30=some l30:=by kernel_rfl
def l31r0:List AOper :=
  [.mk (some 4) (.mv (.const (.slice none 0 0))) none []]
def l31r1:List AOper :=
  [.mk (some 6) (.mv (.tmp 0)) none [],.mk (some 7) (.call 54 [.tmp 6]) none [0],.mk (some 8) (.un .not (.tmp 7)) none [1],.mk (some 9) (.mv (.tmp 8)) none [2,1],.mk (some 10) (.mv (.tmp 1)) (some (9,false)) [3],.mk (some 11) (.mv (.tmp 0)) (some (9,false)) [3],.mk (some 12) (.call 89 [.tmp 11]) (some (9,false)) [5,3,3],.mk (some 13) (.bin .sub (.tmp 12) (.const (.int .i64 1))) (some (9,false)) [6,3],.mk (some 14) (.call 56 [.tmp 10,.tmp 13]) (some (9,false)) [4,7,6,3],.mk (some 15) (.un .not (.tmp 14)) (some (9,false)) [8,3],.mk (some 16) (.pick (.tmp 9) (.const (.bool true)) (.tmp 15)) none [3,9]]
def l31r2:List AOper :=
  [.mk (some 4) (.mv (.const (.slice none 0 0))) none []]
def l31r3:List AOper :=
  [.mk (some 17) (.mv (.tmp 0)) none [],.mk (some 18) (.mv (.tmp 1)) none [],.mk (some 19) (.call 90 [.tmp 17,.tmp 18]) none [0,1],.mk (some 5) (.alloc [.int .i64 0,.int .i64 0,.int .i64 0,.int .i64 0]) none [],.mk none (.store 4 (.tmp 5) (.tmp 19)) none [3,2,2,0,1,2,3]]
def l31r4:List AOper :=
  [.mk (some 20) (.mv (.tmp 0)) none [],.mk (some 21) (.len (.tmp 20)) none [0],.mk (some 22) (.sliceP 1 4 (.tmp 5) none (some (.tmp 21))) none [1],.mk (some 23) (.call 91 [.tmp 22]) none [2],.mk (some 4) (.mv (.tmp 23)) none [3,3,0,1,2,3]]
def l31:AFn :=
  (AFn.mk 24 2 (.seq (.reg l31r0) (.seq (.seq (.reg l31r1) (.cond (.tmp 16) (.seq (.reg l31r2) .ret) .skip)) (.seq (.reg l31r3) (.seq (.reg l31r4) .ret)))) [.tmp 4])
theorem l31_eq:lowFn Try.prog 31=some l31:=by kernel_rfl
def l32r0:List AOper :=
  [.mk (some 2) (.box (.tmp 0)) none [],.mk (some 4) (.mv (.const (.int .i64 0))) none [],.mk (some 5) (.mv (.const (.bool false))) none [1]]
def l32r1:List AOper :=
  [.mk (some 8) (.load true 3 (.tmp 2)) none [],.mk (some 9) (.call 12 [.tmp 8]) none [0],.mk (some 10) (.un .not (.tmp 9)) none [1]]
def l32r2:List AOper :=
  [.mk (some 4) (.mv (.const (.int .i64 0))) none [],.mk (some 5) (.mv (.const (.bool false))) none [0,0]]
def l32r3:List AOper :=
  [.mk (some 12) (.fld 1 (.tmp 2)) none [],.mk (some 13) (.load false 1 (.tmp 12)) none [0],.mk (some 14) (.mv (.tmp 1)) none [],.mk (some 15) (.call 92 [.tmp 13,.tmp 14]) none [1,2],.mk (some 11) (.mv (.tmp 15)) none [3],.mk (some 16) (.extract (.tmp 11) 0) none [4],.mk (some 17) (.extract (.tmp 11) 1) none [4],.mk (some 6) (.alloc [.int .i64 0,.int .i64 0,.int .i64 0,.int .i64 0]) none [],.mk none (.store 4 (.tmp 6) (.tmp 16)) none [7,5,3,0,1,2,3,4,5,7],.mk (some 7) (.mv (.tmp 17)) none [6,8,0,1,2,3,4,5,6,7,8]]
def l32r4:List AOper :=
  [.mk (some 18) (.mv (.tmp 7)) none [],.mk (some 19) (.un .not (.tmp 18)) none [0]]
def l32r5:List AOper :=
  [.mk (some 4) (.mv (.const (.int .i64 0))) none [],.mk (some 5) (.mv (.const (.bool false))) none [0,0]]
def l32r6:List AOper :=
  [.mk (some 20) (.load true 3 (.tmp 2)) none [],.mk (some 21) (.load true 4 (.tmp 6)) none [],.mk (some 22) (.call 93 [.tmp 20,.tmp 21]) none [0,1],.mk (some 4) (.mv (.tmp 22)) none [2,2,0,1,2],.mk (some 5) (.mv (.const (.bool true))) none [3,0,1,2,3]]
def l32:AFn :=
  (AFn.mk 23 2 (.seq (.reg l32r0) (.seq (.seq (.reg l32r1) (.cond (.tmp 10) (.seq (.reg l32r2) .ret) .skip)) (.seq (.reg l32r3) (.seq (.seq (.reg l32r4) (.cond (.tmp 19) (.seq (.reg l32r5) .ret) .skip)) (.seq (.reg l32r6) .ret))))) [.tmp 4,.tmp 5])
theorem l32_eq:lowFn Try.prog 32=some l32:=by kernel_rfl
def l33r0:List AOper :=
  [.mk (some 1) (.box (.tmp 0)) none [],.mk (some 2) (.mv (.const (.slice none 0 0))) none []]
def l33r1:List AOper :=
  [.mk (some 3) (.load true 3 (.tmp 1)) none [],.mk (some 4) (.call 12 [.tmp 3]) none [0],.mk (some 5) (.un .not (.tmp 4)) none [1]]
def l33r2:List AOper :=
  [.mk (some 2) (.mv (.const (.slice none 0 0))) none []]
def l33r3:List AOper :=
  [.mk (some 6) (.load true 3 (.tmp 1)) none [],.mk (some 7) (.call 72 [.tmp 6]) none [0],.mk (some 2) (.mv (.tmp 7)) none [1,1,0,1]]
def l33:AFn :=
  (AFn.mk 8 1 (.seq (.reg l33r0) (.seq (.seq (.reg l33r1) (.cond (.tmp 5) (.seq (.reg l33r2) .ret) .skip)) (.seq (.reg l33r3) .ret))) [.tmp 2])
theorem l33_eq:lowFn Try.prog 33=some l33:=by kernel_rfl
def l34r0:List AOper :=
  [.mk (some 4) (.mv (.const (.bool false))) none []]
def l34r1:List AOper :=
  [.mk (some 5) (.mv (.const (.int .i64 0))) none []]
def l34r2:List AOper :=
  [.mk (some 6) (.mv (.tmp 5)) none [],.mk (some 7) (.mv (.tmp 0)) none [],.mk (some 8) (.len (.tmp 7)) none [1],.mk (some 9) (.bin .lss (.tmp 6) (.tmp 8)) none [0,2]]
def l34r3:List AOper :=
  [.mk (some 12) (.mv (.tmp 1)) none [],.mk (some 13) (.mv (.tmp 0)) none [],.mk (some 14) (.mv (.tmp 5)) none [],.mk (some 15) (.idxA 1 (.tmp 13) (.tmp 14)) none [1,2],.mk (some 16) (.load false 1 (.tmp 15)) none [3],.mk (some 17) (.call 15 [.tmp 12,.tmp 16]) none [0,4],.mk (some 18) (.un .not (.tmp 17)) none [5]]
def l34r4:List AOper :=
  [.mk (some 4) (.mv (.const (.bool false))) none []]
def l34r5:List AOper :=
  [.mk (some 10) (.mv (.tmp 5)) none [],.mk (some 11) (.bin .add (.tmp 10) (.const (.int .i64 1))) none [0],.mk (some 5) (.mv (.tmp 11)) none [1,0,1]]
def l34r6:List AOper :=
  [.mk (some 4) (.mv (.const (.bool true))) none []]
def l34:AFn :=
  (AFn.mk 19 2 (.seq (.reg l34r0) (.seq (.seq (.reg l34r1) (.block 0 (.loop (.seq (.seq (.reg l34r2) (.cond (.tmp 9) .skip (.exit 0))) (.seq (.block 1 (.seq (.reg l34r3) (.cond (.tmp 18) (.seq (.reg l34r4) .ret) .skip))) (.reg l34r5)))))) (.seq (.reg l34r6) .ret))) [.tmp 4])
theorem l34_eq:lowFn Try.prog 34=some l34:=by kernel_rfl
def l45r0:List AOper :=
  [.mk (some 2) (.alloc [.int .i64 0,.slice none 0 0,.slice none 0 0]) none []]
def l45r1:List AOper :=
  [.mk (some 4) (.mv (.tmp 0)) none [],.mk (some 5) (.call 102 [.tmp 4]) none [0],.mk (some 3) (.alloc [.int .i64 0,.slice none 0 0,.slice none 0 0]) none [],.mk none (.store 3 (.tmp 3) (.tmp 5)) none [2,1,1,0,1,2]]
def l45r2:List AOper :=
  [.mk (some 6) (.mv (.tmp 0)) none [],.mk (some 7) (.call 75 [.tmp 6,.const (.int .i64 24)]) none [0]]
def l45r3:List AOper :=
  [.mk (some 9) (.bin .eql (.tmp 7) (.const (.int .i64 0))) none [],.mk (some 8) (.mv (.tmp 9)) none [0]]
def l45r4:List AOper :=
  [.mk (some 10) (.mv (.tmp 0)) none [],.mk (some 11) (.bslice 1 [.int .i64 0] [(0,.const (.int .i64 (-1))),(1,.const (.int .i64 60)),(2,.const (.int .i64 61))] 3) none [],.mk (some 12) (.call 74 [.tmp 10,.tmp 11]) none [0,1],.mk (some 13) (.fld 0 (.tmp 3)) none [0,1,2],.mk none (.store 1 (.tmp 13) (.tmp 12)) none [3,2,2,0,1,2]]
def l45r5:List AOper :=
  [.mk (some 15) (.bin .eql (.tmp 7) (.const (.int .i64 1))) none [],.mk (some 14) (.mv (.tmp 15)) none [0]]
def l45r6:List AOper :=
  [.mk (some 16) (.fld 2 (.tmp 3)) none [],.mk (some 17) (.load false 1 (.tmp 16)) none [0],.mk (some 18) (.bslice 1 [.int .i64 0] [(0,.const (.int .i64 1))] 1) none [],.mk (some 19) (.append 1 (.tmp 17) (.tmp 18)) none [1,2],.mk (some 20) (.fld 2 (.tmp 3)) none [0,1,2,3],.mk none (.store 1 (.tmp 20) (.tmp 19)) none [4,3,3,0,1,2,3]]
def l45r7:List AOper :=
  [.mk (some 22) (.bin .eql (.tmp 7) (.const (.int .i64 2))) none [],.mk (some 21) (.mv (.tmp 22)) none [0]]
def l45r8:List AOper :=
  [.mk (some 23) (.fld 2 (.tmp 3)) none [],.mk (some 24) (.load false 1 (.tmp 23)) none [0],.mk (some 25) (.len (.tmp 24)) none [1],.mk (some 26) (.bin .gtr (.tmp 25) (.const (.int .i64 0))) none [2]]
def l45r9a:List AOper :=
  [.mk (some 27) (.fld 2 (.tmp 3)) none [],.mk (some 28) (.load false 1 (.tmp 27)) none [0],.mk (some 29) (.mv (.tmp 0)) none [],.mk (some 30) (.bslice 1 [.int .i64 0] [(0,.const (.int .i64 61)),(1,.const (.int .i64 (-61))),(2,.const (.int .i64 60))] 3) none [],.mk (some 31) (.call 74 [.tmp 29,.tmp 30]) none [2,3]]
def l45r9b:List AOper :=
  [.mk (some 32) (.idxA 1 (.tmp 28) (.const (.int .i64 0))) none [1,0,1,2,3,4],.mk none (.store 1 (.tmp 32) (.tmp 31)) none [5,4,4,0,1,2,3,4]]
def l45r9:List AOper:=l45r9a ++ l45r9b
def l45r10:List AOper :=
  [.mk (some 33) (.load true 3 (.tmp 3)) none [],.mk none (.store 3 (.tmp 2) (.tmp 33)) none [0,0]]
def l45:AFn :=
  (AFn.mk 34 1 (.seq (.reg l45r0) (.seq (.reg l45r1) (.seq (.seq (.reg l45r2) (.block 0 (.seq (.reg l45r3) (.cond (.tmp 8) (.reg l45r4) (.seq (.reg l45r5) (.cond (.tmp 14) (.reg l45r6) (.seq (.reg l45r7) (.cond (.tmp 21) (.seq (.reg l45r8) (.cond (.tmp 26) (.draw l45r9) .skip)) .skip)))))))) (.seq (.reg l45r10) .ret)))) [.cell 2 true 3])
theorem l45_eq:lowFn Try.prog 45=some l45:=by kernel_rfl
def l46r0:List AOper :=
  [.mk (some 2) (.mv (.const (.pointer none))) none []]
def l46r1:List AOper :=
  [.mk (some 3) (.mv (.tmp 0)) none [],.mk (some 4) (.len (.tmp 3)) none [0],.mk (some 5) (.bin .gtr (.tmp 4) (.const (.int .i64 2000))) none [1]]
def l46r2:List AOper :=
  [.mk (some 6) (.mv (.tmp 0)) none [],.mk (some 7) (.slice 1 (.tmp 6) none (some (.const (.int .i64 2000)))) none [0],.mk (some 0) (.mv (.tmp 7)) none [1,0,1]]
def l46r3:List AOper :=
  [.mk (some 8) (.mv (.tmp 0)) none [],.mk (some 9) (.build [.slice none 0 0,.int .i64 0] [(0,1,.tmp 8)]) none [0],.mk (some 10) (.box (.tmp 9)) none [1],.mk (some 2) (.mv (.tmp 10)) none [2,0,1,2]]
def l46:AFn :=
  (AFn.mk 11 1 (.seq (.reg l46r0) (.seq (.seq (.reg l46r1) (.cond (.tmp 5) (.reg l46r2) .skip)) (.seq (.reg l46r3) .ret))) [.tmp 2])
theorem l46_eq:lowFn Try.prog 46=some l46:=by kernel_rfl
def l52r0:List AOper :=
  [.mk (some 1) (.box (.tmp 0)) none [],.mk (some 2) (.mv (.const (.bool false))) none []]
def l52r1:List AOper :=
  [.mk (some 3) (.fld 1 (.tmp 1)) none [],.mk (some 4) (.load false 1 (.tmp 3)) none [0],.mk (some 5) (.call 106 [.tmp 4]) none [1],.mk (some 6) (.mv (.tmp 5)) none [2,2],.mk (some 7) (.fld 2 (.tmp 1)) (some (6,true)) [3],.mk (some 8) (.load false 1 (.tmp 7)) (some (6,true)) [4,3],.mk (some 9) (.len (.tmp 8)) (some (6,true)) [5,3],.mk (some 10) (.fld 1 (.tmp 1)) (some (6,true)) [3],.mk (some 11) (.load false 1 (.tmp 10)) (some (6,true)) [7,3],.mk (some 12) (.len (.tmp 11)) (some (6,true)) [8,3],.mk (some 13) (.bin .eql (.tmp 9) (.tmp 12)) (some (6,true)) [6,9,3],.mk (some 14) (.pick (.tmp 6) (.tmp 13) (.const (.bool false))) none [3,10],.mk (some 15) (.mv (.tmp 14)) none [11,3],.mk (some 16) (.fld 2 (.tmp 1)) (some (15,true)) [12],.mk (some 17) (.load false 1 (.tmp 16)) (some (15,true)) [13,12],.mk (some 18) (.call 70 [.tmp 17,.const (.int .i64 (-60)),.const (.int .i64 60)]) (some (15,true)) [14,12,12],.mk (some 19) (.pick (.tmp 15) (.tmp 18) (.const (.bool false))) none [12,15],.mk (some 20) (.mv (.tmp 19)) none [16,15],.mk (some 21) (.fld 0 (.tmp 1)) (some (20,true)) [17],.mk (some 22) (.load false 1 (.tmp 21)) (some (20,true)) [18,17],.mk (some 23) (.call 67 [.tmp 22,.const (.int .i64 0),.const (.int .i64 60)]) (some (20,true)) [19,17,17],.mk (some 24) (.pick (.tmp 20) (.tmp 23) (.const (.bool false))) none [17,20],.mk (some 25) (.mv (.tmp 24)) none [21,20],.mk (some 26) (.fld 1 (.tmp 1)) (some (25,true)) [22],.mk (some 27) (.load false 1 (.tmp 26)) (some (25,true)) [23,22],.mk (some 28) (.call 107 [.tmp 27]) (some (25,true)) [24,22,22],.mk (some 29) (.bin .eql (.tmp 28) (.const (.int .i64 0))) (some (25,true)) [25,22],.mk (some 30) (.mv (.tmp 29)) (some (25,true)) [26,25,22],.mk (some 31) (.load true 3 (.tmp 1)) (some (30,false)) [27],.mk (some 32) (.call 68 [.tmp 31]) (some (30,false)) [28,27,27],.mk (some 33) (.call 70 [.tmp 32,.const (.int .i64 0),.const (.int .i64 59)]) (some (30,false)) [29,29,27],.mk (some 34) (.pick (.tmp 30) (.const (.bool true)) (.tmp 33)) (some (25,true)) [27,30,22],.mk (some 35) (.pick (.tmp 25) (.tmp 34) (.const (.bool false))) none [22,31],.mk (some 2) (.mv (.tmp 35)) none [32,30,0,1,2,3,4,5,6,7,8,9,10,11,12,13,14,15,16,17,18,19,20,21,22,23,24,25,26,27,28,29,30,31,32]]
def l52:AFn :=
  (AFn.mk 36 1 (.seq (.reg l52r0) (.seq (.reg l52r1) .ret)) [.tmp 2])
theorem l52_eq:lowFn Try.prog 52=some l52:=by kernel_rfl
def l54r0:List AOper :=
  [.mk (some 2) (.mv (.const (.bool false))) none []]
def l54r1:List AOper :=
  [.mk (some 5) (.mv (.tmp 0)) none [],.mk (some 6) (.len (.tmp 5)) none [0],.mk (some 7) (.bin .gtr (.tmp 6) (.const (.int .i64 4))) none [1]]
def l54r2:List AOper :=
  [.mk (some 2) (.mv (.const (.bool false))) none []]
def l54r3:List AOper :=
  [.mk (some 8) (.mv (.tmp 0)) none [],.mk (some 9) (.len (.tmp 8)) none [0],.mk (some 10) (.mv (.const (.int .i64 0))) none []]
def l54r4:List AOper :=
  [.mk (some 11) (.bin .lss (.tmp 10) (.tmp 9)) none []]
def l54r5:List AOper :=
  [.mk (some 12) (.idxA 1 (.tmp 8) (.tmp 10)) none [],.mk (some 13) (.load false 1 (.tmp 12)) none [0],.mk (some 4) (.mv (.tmp 13)) none [1,0,1]]
def l54r6:List AOper :=
  [.mk (some 14) (.mv (.tmp 4)) none [],.mk (some 15) (.call 56 [.tmp 14,.const (.int .i64 60)]) none [0],.mk (some 16) (.un .not (.tmp 15)) none [1]]
def l54r7:List AOper :=
  [.mk (some 2) (.mv (.const (.bool false))) none []]
def l54r8:List AOper :=
  [.mk (some 17) (.bin .add (.tmp 10) (.const (.int .i64 1))) none [],.mk (some 10) (.mv (.tmp 17)) none [0]]
def l54r9:List AOper :=
  [.mk (some 18) (.mv (.tmp 0)) none [],.mk (some 19) (.call 89 [.tmp 18]) none [0],.mk (some 20) (.bin .leq (.tmp 19) (.const (.int .i64 60))) none [1],.mk (some 2) (.mv (.tmp 20)) none [2,1,0,1,2]]
def l54:AFn :=
  (AFn.mk 21 1 (.seq (.reg l54r0) (.seq (.seq (.reg l54r1) (.cond (.tmp 7) (.seq (.reg l54r2) .ret) .skip)) (.seq (.seq (.reg l54r3) (.block 0 (.loop (.seq (.reg l54r4) (.seq (.cond (.tmp 11) .skip (.exit 0)) (.seq (.block 1 (.seq (.reg l54r5) (.seq (.reg l54r6) (.cond (.tmp 16) (.seq (.reg l54r7) .ret) .skip)))) (.reg l54r8))))))) (.seq (.reg l54r9) .ret)))) [.tmp 2])
theorem l54_eq:lowFn Try.prog 54=some l54:=by kernel_rfl
def l55r0:List AOper :=
  [.mk (some 4) (.mv (.const (.bool false))) none []]
def l55r1:List AOper :=
  [.mk (some 7) (.mv (.tmp 0)) none [],.mk (some 8) (.len (.tmp 7)) none [0],.mk (some 9) (.mv (.tmp 1)) none [],.mk (some 10) (.bin .neq (.tmp 8) (.tmp 9)) none [1,2]]
def l55r2:List AOper :=
  [.mk (some 4) (.mv (.const (.bool false))) none []]
def l55r3:List AOper :=
  [.mk (some 11) (.mv (.tmp 0)) none [],.mk (some 12) (.len (.tmp 11)) none [0],.mk (some 13) (.mv (.const (.int .i64 0))) none []]
def l55r4:List AOper :=
  [.mk (some 14) (.bin .lss (.tmp 13) (.tmp 12)) none []]
def l55r5:List AOper :=
  [.mk (some 15) (.idxA 1 (.tmp 11) (.tmp 13)) none [],.mk (some 16) (.load false 1 (.tmp 15)) none [0],.mk (some 6) (.mv (.tmp 16)) none [1,0,1]]
def l55r6:List AOper :=
  [.mk (some 17) (.mv (.tmp 6)) none [],.mk (some 18) (.call 108 [.tmp 17,.const (.int .i64 60)]) none [0],.mk (some 19) (.un .not (.tmp 18)) none [1]]
def l55r7:List AOper :=
  [.mk (some 4) (.mv (.const (.bool false))) none []]
def l55r8:List AOper :=
  [.mk (some 20) (.bin .add (.tmp 13) (.const (.int .i64 1))) none [],.mk (some 13) (.mv (.tmp 20)) none [0]]
def l55r9:List AOper :=
  [.mk (some 4) (.mv (.const (.bool true))) none []]
def l55:AFn :=
  (AFn.mk 21 2 (.seq (.reg l55r0) (.seq (.seq (.reg l55r1) (.cond (.tmp 10) (.seq (.reg l55r2) .ret) .skip)) (.seq (.seq (.reg l55r3) (.block 0 (.loop (.seq (.reg l55r4) (.seq (.cond (.tmp 14) .skip (.exit 0)) (.seq (.block 1 (.seq (.reg l55r5) (.seq (.reg l55r6) (.cond (.tmp 19) (.seq (.reg l55r7) .ret) .skip)))) (.reg l55r8))))))) (.seq (.reg l55r9) .ret)))) [.tmp 4])
theorem l55_eq:lowFn Try.prog 55=some l55:=by kernel_rfl
def l56r0:List AOper :=
  [.mk (some 4) (.mv (.const (.bool false))) none []]
def l56r1:List AOper :=
  [.mk (some 5) (.mv (.tmp 0)) none [],.mk (some 6) (.bin .leq (.const (.int .i64 0)) (.tmp 5)) none [0],.mk (some 7) (.mv (.tmp 6)) none [1],.mk (some 8) (.mv (.tmp 0)) (some (7,true)) [2],.mk (some 9) (.mv (.tmp 1)) (some (7,true)) [2],.mk (some 10) (.bin .leq (.tmp 8) (.tmp 9)) (some (7,true)) [3,4,2],.mk (some 11) (.pick (.tmp 7) (.tmp 10) (.const (.bool false))) none [2,5],.mk (some 4) (.mv (.tmp 11)) none [6,2,0,1,2,3,4,5,6]]
def l56:AFn :=
  (AFn.mk 12 2 (.seq (.reg l56r0) (.seq (.reg l56r1) .ret)) [.tmp 4])
theorem l56_eq:lowFn Try.prog 56=some l56:=by kernel_rfl
def l57r0:List AOper :=
  [.mk (some 1) (.box (.tmp 0)) none [],.mk (some 2) (.mv (.const (.int .i64 0))) none [],.mk (some 3) (.mv (.const (.int .i64 0))) none [1]]
def l57r1:List AOper :=
  [.mk (some 9) (.load true 3 (.tmp 1)) none [],.mk (some 10) (.call 58 [.tmp 9]) none [0],.mk (some 11) (.bin .eql (.tmp 10) (.const (.int .i64 0))) none [1]]
def l57r2:List AOper :=
  [.mk (some 2) (.mv (.const (.int .i64 (-1)))) none [],.mk (some 3) (.mv (.const (.int .i64 (-1)))) none [0,0]]
def l57r3a:List AOper :=
  [.mk (some 12) (.fld 0 (.tmp 1)) none [],.mk (some 13) (.load false 1 (.tmp 12)) none [0],.mk (some 14) (.fld 0 (.tmp 1)) none [],.mk (some 15) (.load false 1 (.tmp 14)) none [2],.mk (some 4) (.mv (.tmp 13)) none [1,0,1]]
def l57r3b:List AOper :=
  [.mk (some 5) (.mv (.tmp 15)) none [3,4,0,1,2,3,4]]
def l57r3:List AOper:=l57r3a ++ l57r3b
def l57r4:List AOper :=
  [.mk (some 16) (.fld 2 (.tmp 1)) none [],.mk (some 17) (.load false 1 (.tmp 16)) none [0],.mk (some 18) (.len (.tmp 17)) none [1],.mk (some 19) (.mv (.const (.int .i64 0))) none []]
def l57r5:List AOper :=
  [.mk (some 20) (.bin .lss (.tmp 19) (.tmp 18)) none []]
def l57r6:List AOper :=
  [.mk (some 21) (.mv (.tmp 19)) none [],.mk (some 22) (.idxA 1 (.tmp 17) (.tmp 19)) none [],.mk (some 23) (.load false 1 (.tmp 22)) none [1],.mk (some 6) (.mv (.tmp 21)) none [0,0,1,2],.mk (some 7) (.mv (.tmp 23)) none [2,3,0,1,2,3]]
def l57r7:List AOper :=
  [.mk (some 24) (.fld 1 (.tmp 1)) none [],.mk (some 25) (.load false 1 (.tmp 24)) none [0],.mk (some 26) (.mv (.tmp 6)) none [],.mk (some 27) (.idxA 1 (.tmp 25) (.tmp 26)) none [1,2],.mk (some 28) (.load false 1 (.tmp 27)) none [3],.mk (some 29) (.bin .sub (.tmp 28) (.const (.int .i64 1))) none [4],.mk (some 30) (.mv (.tmp 7)) none [],.mk (some 31) (.bin .mul (.tmp 29) (.tmp 30)) none [5,6],.mk (some 8) (.mv (.tmp 31)) none [7,0,1,2,3,4,5,6,7]]
def l57r8:List AOper :=
  [.mk (some 32) (.mv (.tmp 4)) none [],.mk (some 33) (.mv (.tmp 8)) none [],.mk (some 34) (.minmax false (.tmp 33) (.const (.int .i64 0))) none [1],.mk (some 35) (.bin .add (.tmp 32) (.tmp 34)) none [0,2],.mk (some 4) (.mv (.tmp 35)) none [3,0,1,2,3]]
def l57r9:List AOper :=
  [.mk (some 36) (.mv (.tmp 5)) none [],.mk (some 37) (.mv (.tmp 8)) none [],.mk (some 38) (.minmax true (.tmp 37) (.const (.int .i64 0))) none [1],.mk (some 39) (.bin .add (.tmp 36) (.tmp 38)) none [0,2],.mk (some 5) (.mv (.tmp 39)) none [3,0,1,2,3]]
def l57r10:List AOper :=
  [.mk (some 40) (.bin .add (.tmp 19) (.const (.int .i64 1))) none [],.mk (some 19) (.mv (.tmp 40)) none [0]]
def l57r11:List AOper :=
  [.mk (some 41) (.mv (.tmp 4)) none [],.mk (some 42) (.mv (.tmp 5)) none [],.mk (some 2) (.mv (.tmp 41)) none [0,0],.mk (some 3) (.mv (.tmp 42)) none [1,2,0,1,2]]
def l57:AFn :=
  (AFn.mk 43 1 (.seq (.reg l57r0) (.seq (.seq (.reg l57r1) (.cond (.tmp 11) (.seq (.reg l57r2) .ret) .skip)) (.seq (.draw l57r3) (.seq (.seq (.reg l57r4) (.block 0 (.loop (.seq (.reg l57r5) (.seq (.cond (.tmp 20) .skip (.exit 0)) (.seq (.block 1 (.seq (.reg l57r6) (.seq (.reg l57r7) (.seq (.reg l57r8) (.reg l57r9))))) (.reg l57r10))))))) (.seq (.reg l57r11) .ret))))) [.tmp 2,.tmp 3])
theorem l57_eq:lowFn Try.prog 57=some l57:=by kernel_rfl
def l58r0:List AOper :=
  [.mk (some 1) (.box (.tmp 0)) none [],.mk (some 2) (.mv (.const (.int .i64 0))) none []]
def l58r1:List AOper :=
  [.mk (some 3) (.fld 1 (.tmp 1)) none [],.mk (some 4) (.load false 1 (.tmp 3)) none [0],.mk (some 5) (.call 89 [.tmp 4]) none [1],.mk (some 2) (.mv (.tmp 5)) none [2,2,0,1,2]]
def l58:AFn :=
  (AFn.mk 6 1 (.seq (.reg l58r0) (.seq (.reg l58r1) .ret)) [.tmp 2])
theorem l58_eq:lowFn Try.prog 58=some l58:=by kernel_rfl
def l67r0:List AOper :=
  [.mk (some 6) (.mv (.const (.bool false))) none []]
def l67r1:List AOper :=
  [.mk (some 7) (.mv (.tmp 1)) none [],.mk (some 8) (.mv (.tmp 0)) none [],.mk (some 9) (.bin .leq (.tmp 7) (.tmp 8)) none [0,1],.mk (some 10) (.mv (.tmp 9)) none [2],.mk (some 11) (.mv (.tmp 0)) (some (10,true)) [3],.mk (some 12) (.mv (.tmp 2)) (some (10,true)) [3],.mk (some 13) (.bin .leq (.tmp 11) (.tmp 12)) (some (10,true)) [4,5,3],.mk (some 14) (.pick (.tmp 10) (.tmp 13) (.const (.bool false))) none [3,6],.mk (some 6) (.mv (.tmp 14)) none [7,3,0,1,2,3,4,5,6,7]]
def l67:AFn :=
  (AFn.mk 15 3 (.seq (.reg l67r0) (.seq (.reg l67r1) .ret)) [.tmp 6])
theorem l67_eq:lowFn Try.prog 67=some l67:=by kernel_rfl
def l68r0:List AOper :=
  [.mk (some 1) (.box (.tmp 0)) none [],.mk (some 2) (.mv (.const (.slice none 0 0))) none []]
def l68r1:List AOper :=
  [.mk (some 5) (.bslice 1 [.int .i64 0] [] 0) none [],.mk (some 3) (.mv (.tmp 5)) none [0,0]]
def l68r2:List AOper :=
  [.mk (some 4) (.mv (.const (.int .i64 0))) none []]
def l68r3:List AOper :=
  [.mk (some 6) (.mv (.tmp 4)) none [],.mk (some 7) (.fld 1 (.tmp 1)) none [],.mk (some 8) (.load false 1 (.tmp 7)) none [1],.mk (some 9) (.call 107 [.tmp 8]) none [2],.mk (some 10) (.bin .lss (.tmp 6) (.tmp 9)) none [0,3]]
def l68r4a:List AOper :=
  [.mk (some 13) (.mv (.tmp 3)) none [],.mk (some 14) (.load true 3 (.tmp 1)) none [],.mk (some 15) (.fld 1 (.tmp 1)) none [],.mk (some 16) (.load false 1 (.tmp 15)) none [2],.mk (some 17) (.mv (.tmp 4)) none [],.mk (some 18) (.call 113 [.tmp 16,.tmp 17]) none [3,4],.mk (some 19) (.call 112 [.tmp 14,.tmp 18]) none [1,5,5],.mk (some 20) (.bslice 1 [.int .i64 0] [(0,.tmp 19)] 1) none [6]]
def l68r4b:List AOper :=
  [.mk (some 21) (.append 1 (.tmp 13) (.tmp 20)) none [0,7,6],.mk (some 3) (.mv (.tmp 21)) none [8,8,0,1,2,3,4,5,6,7,8]]
def l68r4:List AOper:=l68r4a ++ l68r4b
def l68r5:List AOper :=
  [.mk (some 11) (.mv (.tmp 4)) none [],.mk (some 12) (.bin .add (.tmp 11) (.const (.int .i64 1))) none [0],.mk (some 4) (.mv (.tmp 12)) none [1,0,1]]
def l68r6:List AOper :=
  [.mk (some 22) (.mv (.tmp 3)) none [],.mk (some 2) (.mv (.tmp 22)) none [0,0]]
def l68:AFn :=
  (AFn.mk 23 1 (.seq (.reg l68r0) (.seq (.reg l68r1) (.seq (.seq (.reg l68r2) (.block 0 (.loop (.seq (.seq (.reg l68r3) (.cond (.tmp 10) .skip (.exit 0))) (.seq (.block 1 (.draw l68r4)) (.reg l68r5)))))) (.seq (.reg l68r6) .ret)))) [.tmp 2])
theorem l68_eq:lowFn Try.prog 68=some l68:=by kernel_rfl
def l69r0:List AOper :=
  [.mk (some 2) (.mv (.const (.bool false))) none []]
def l69r1:List AOper :=
  [.mk (some 3) (.mv (.const (.int .i64 0))) none []]
def l69r2:List AOper :=
  [.mk (some 4) (.mv (.tmp 3)) none [],.mk (some 5) (.mv (.tmp 0)) none [],.mk (some 6) (.len (.tmp 5)) none [1],.mk (some 7) (.bin .lss (.tmp 4) (.tmp 6)) none [0,2]]
def l69r3a:List AOper :=
  [.mk (some 10) (.mv (.tmp 0)) none [],.mk (some 11) (.mv (.tmp 3)) none [],.mk (some 12) (.slice 1 (.tmp 10) none (some (.tmp 11))) none [0,1],.mk (some 13) (.mv (.tmp 0)) none [],.mk (some 14) (.mv (.tmp 3)) none [],.mk (some 15) (.idxA 1 (.tmp 13) (.tmp 14)) none [3,4],.mk (some 16) (.load false 1 (.tmp 15)) none [5]]
def l69r3b:List AOper :=
  [.mk (some 17) (.call 76 [.tmp 12,.tmp 16]) none [2,6],.mk (some 18) (.bin .geq (.tmp 17) (.const (.int .i64 0))) none [7]]
def l69r3:List AOper:=l69r3a ++ l69r3b
def l69r4:List AOper :=
  [.mk (some 2) (.mv (.const (.bool false))) none []]
def l69r5:List AOper :=
  [.mk (some 8) (.mv (.tmp 3)) none [],.mk (some 9) (.bin .add (.tmp 8) (.const (.int .i64 1))) none [0],.mk (some 3) (.mv (.tmp 9)) none [1,0,1]]
def l69r6:List AOper :=
  [.mk (some 2) (.mv (.const (.bool true))) none []]
def l69:AFn :=
  (AFn.mk 19 1 (.seq (.reg l69r0) (.seq (.seq (.reg l69r1) (.block 0 (.loop (.seq (.seq (.reg l69r2) (.cond (.tmp 7) .skip (.exit 0))) (.seq (.block 1 (.seq (.draw l69r3) (.cond (.tmp 18) (.seq (.reg l69r4) .ret) .skip))) (.reg l69r5)))))) (.seq (.reg l69r6) .ret))) [.tmp 2])
theorem l69_eq:lowFn Try.prog 69=some l69:=by kernel_rfl
def l70r0:List AOper :=
  [.mk (some 6) (.mv (.const (.bool false))) none []]
def l70r1:List AOper :=
  [.mk (some 7) (.mv (.const (.int .i64 0))) none []]
def l70r2:List AOper :=
  [.mk (some 8) (.mv (.tmp 7)) none [],.mk (some 9) (.mv (.tmp 0)) none [],.mk (some 10) (.len (.tmp 9)) none [1],.mk (some 11) (.bin .lss (.tmp 8) (.tmp 10)) none [0,2]]
def l70r3:List AOper :=
  [.mk (some 14) (.mv (.tmp 0)) none [],.mk (some 15) (.mv (.tmp 7)) none [],.mk (some 16) (.idxA 1 (.tmp 14) (.tmp 15)) none [0,1],.mk (some 17) (.load false 1 (.tmp 16)) none [2],.mk (some 18) (.mv (.tmp 1)) none [],.mk (some 19) (.mv (.tmp 2)) none [],.mk (some 20) (.call 67 [.tmp 17,.tmp 18,.tmp 19]) none [3,4,5],.mk (some 21) (.un .not (.tmp 20)) none [6]]
def l70r4:List AOper :=
  [.mk (some 6) (.mv (.const (.bool false))) none []]
def l70r5:List AOper :=
  [.mk (some 12) (.mv (.tmp 7)) none [],.mk (some 13) (.bin .add (.tmp 12) (.const (.int .i64 1))) none [0],.mk (some 7) (.mv (.tmp 13)) none [1,0,1]]
def l70r6:List AOper :=
  [.mk (some 6) (.mv (.const (.bool true))) none []]
def l70:AFn :=
  (AFn.mk 22 3 (.seq (.reg l70r0) (.seq (.seq (.reg l70r1) (.block 0 (.loop (.seq (.seq (.reg l70r2) (.cond (.tmp 11) .skip (.exit 0))) (.seq (.block 1 (.seq (.reg l70r3) (.cond (.tmp 21) (.seq (.reg l70r4) .ret) .skip))) (.reg l70r5)))))) (.seq (.reg l70r6) .ret))) [.tmp 6])
theorem l70_eq:lowFn Try.prog 70=some l70:=by kernel_rfl
def l72r0:List AOper :=
  [.mk (some 1) (.box (.tmp 0)) none [],.mk (some 2) (.mv (.const (.slice none 0 0))) none []]
def l72r1:List AOper :=
  [.mk (some 5) (.load true 3 (.tmp 1)) none [],.mk (some 6) (.call 58 [.tmp 5]) none [0],.mk (some 7) (.mkslice 1 [.int .i64 0] (.tmp 6) (.tmp 6)) none [1,1],.mk (some 3) (.mv (.tmp 7)) none [2,1,0,1,2]]
def l72r2:List AOper :=
  [.mk (some 8) (.mv (.tmp 3)) none [],.mk (some 9) (.len (.tmp 8)) none [0],.mk (some 10) (.mv (.const (.int .i64 0))) none []]
def l72r3:List AOper :=
  [.mk (some 11) (.bin .lss (.tmp 10) (.tmp 9)) none []]
def l72r4:List AOper :=
  [.mk (some 12) (.mv (.tmp 10)) none [],.mk (some 4) (.mv (.tmp 12)) none [0,0]]
def l72r5a:List AOper :=
  [.mk (some 13) (.mv (.tmp 3)) none [],.mk (some 14) (.mv (.tmp 4)) none [],.mk (some 15) (.load true 3 (.tmp 1)) none [],.mk (some 16) (.fld 1 (.tmp 1)) none [],.mk (some 17) (.load false 1 (.tmp 16)) none [3],.mk (some 18) (.mv (.tmp 4)) none [],.mk (some 19) (.call 90 [.tmp 17,.tmp 18]) none [4,5],.mk (some 20) (.call 93 [.tmp 15,.tmp 19]) none [2,6,6]]
def l72r5b:List AOper :=
  [.mk (some 21) (.idxA 1 (.tmp 13) (.tmp 14)) none [0,1,0,1,2,3,4,5,6,7],.mk none (.store 1 (.tmp 21) (.tmp 20)) none [8,7,7,0,1,2,3,4,5,6,7]]
def l72r5:List AOper:=l72r5a ++ l72r5b
def l72r6:List AOper :=
  [.mk (some 22) (.bin .add (.tmp 10) (.const (.int .i64 1))) none [],.mk (some 10) (.mv (.tmp 22)) none [0]]
def l72r7:List AOper :=
  [.mk (some 23) (.mv (.tmp 3)) none [],.mk (some 2) (.mv (.tmp 23)) none [0,0]]
def l72:AFn :=
  (AFn.mk 24 1 (.seq (.reg l72r0) (.seq (.reg l72r1) (.seq (.seq (.reg l72r2) (.block 0 (.loop (.seq (.reg l72r3) (.seq (.cond (.tmp 11) .skip (.exit 0)) (.seq (.block 1 (.seq (.reg l72r4) (.draw l72r5))) (.reg l72r6))))))) (.seq (.reg l72r7) .ret)))) [.tmp 2])
theorem l72_eq:lowFn Try.prog 72=some l72:=by kernel_rfl
def l74r0:List AOper :=
  [.mk (some 4) (.mv (.const (.int .i64 0))) none []]
def l74r1:List AOper :=
  [.mk (some 5) (.mv (.tmp 1)) none [],.mk (some 6) (.mv (.tmp 0)) none [],.mk (some 7) (.mv (.tmp 1)) none [],.mk (some 8) (.len (.tmp 7)) none [2],.mk (some 9) (.call 75 [.tmp 6,.tmp 8]) none [1,3],.mk (some 10) (.idxA 1 (.tmp 5) (.tmp 9)) none [0,4],.mk (some 11) (.load false 1 (.tmp 10)) none [5],.mk (some 4) (.mv (.tmp 11)) none [6,4,0,1,2,3,4,5,6]]
def l74:AFn :=
  (AFn.mk 12 2 (.seq (.reg l74r0) (.seq (.reg l74r1) .ret)) [.tmp 4])
theorem l74_eq:lowFn Try.prog 74=some l74:=by kernel_rfl
def l75r0:List AOper :=
  [.mk (some 4) (.mv (.const (.int .i64 0))) none []]
def l75r1:List AOper :=
  [.mk (some 7) (.mv (.tmp 0)) none [],.mk (some 8) (.mv (.tmp 0)) none [],.mk (some 9) (.nilck (.tmp 8)) none [1],.mk (some 10) (.fld 1 (.tmp 9)) none [2],.mk (some 11) (.load false 1 (.tmp 10)) none [3],.mk (some 12) (.bin .add (.tmp 11) (.const (.int .i64 1))) none [4],.mk (some 13) (.nilck (.tmp 7)) none [0,0,1,2,3,4,5],.mk (some 14) (.fld 1 (.tmp 13)) none [6,0,1,2,3,4,5],.mk none (.store 1 (.tmp 14) (.tmp 12)) none [7,5,0,1,2,3,4,5]]
def l75r2:List AOper :=
  [.mk (some 15) (.mv (.tmp 1)) none [],.mk (some 16) (.bin .lss (.tmp 15) (.const (.int .i64 1))) none [0],.mk (some 17) (.mv (.tmp 16)) none [1],.mk (some 18) (.mv (.tmp 0)) (some (17,false)) [2],.mk (some 19) (.nilck (.tmp 18)) (some (17,false)) [3,2],.mk (some 20) (.fld 0 (.tmp 19)) (some (17,false)) [4,2],.mk (some 21) (.load false 1 (.tmp 20)) (some (17,false)) [5,2],.mk (some 22) (.len (.tmp 21)) (some (17,false)) [6,2],.mk (some 23) (.bin .eql (.tmp 22) (.const (.int .i64 0))) (some (17,false)) [7,2],.mk (some 24) (.pick (.tmp 17) (.const (.bool true)) (.tmp 23)) none [2,8]]
def l75r3:List AOper :=
  [.mk (some 4) (.mv (.const (.int .i64 0))) none []]
def l75r4:List AOper :=
  [.mk (some 25) (.mv (.tmp 0)) none [],.mk (some 26) (.nilck (.tmp 25)) none [0],.mk (some 27) (.fld 1 (.tmp 26)) none [1],.mk (some 28) (.load false 1 (.tmp 27)) none [2],.mk (some 29) (.bin .sub (.tmp 28) (.const (.int .i64 1))) none [3],.mk (some 5) (.mv (.tmp 29)) none [4,0,1,2,3,4]]
def l75r5:List AOper :=
  [.mk (some 30) (.mv (.tmp 5)) none [],.mk (some 31) (.mv (.tmp 0)) none [],.mk (some 32) (.nilck (.tmp 31)) none [1],.mk (some 33) (.fld 0 (.tmp 32)) none [2],.mk (some 34) (.load false 1 (.tmp 33)) none [3],.mk (some 35) (.len (.tmp 34)) none [4],.mk (some 36) (.bin .lss (.tmp 30) (.tmp 35)) none [0,5]]
def l75r6:List AOper :=
  [.mk (some 37) (.mv (.tmp 0)) none [],.mk (some 38) (.nilck (.tmp 37)) none [0],.mk (some 39) (.fld 0 (.tmp 38)) none [1],.mk (some 40) (.load false 1 (.tmp 39)) none [2],.mk (some 41) (.mv (.tmp 5)) none [],.mk (some 42) (.idxA 1 (.tmp 40) (.tmp 41)) none [3,4],.mk (some 43) (.load false 1 (.tmp 42)) none [5],.mk (some 44) (.conv .i64 (.tmp 43)) none [6],.mk (some 45) (.mv (.tmp 1)) none [],.mk (some 46) (.bin .rem (.tmp 44) (.tmp 45)) none [7,8],.mk (some 4) (.mv (.tmp 46)) none [9,0,1,2,3,4,5,6,7,8,9]]
def l75r7a:List AOper :=
  [.mk (some 47) (.mv (.tmp 0)) none [],.mk (some 48) (.nilck (.tmp 47)) none [0],.mk (some 49) (.fld 0 (.tmp 48)) none [1],.mk (some 50) (.load false 1 (.tmp 49)) none [2],.mk (some 51) (.mv (.tmp 5)) none [],.mk (some 52) (.mv (.tmp 0)) none [],.mk (some 53) (.nilck (.tmp 52)) none [5],.mk (some 54) (.fld 0 (.tmp 53)) none [6],.mk (some 55) (.load false 1 (.tmp 54)) none [7],.mk (some 56) (.len (.tmp 55)) none [8],.mk (some 57) (.bin .rem (.tmp 51) (.tmp 56)) none [4,9],.mk (some 58) (.idxA 1 (.tmp 50) (.tmp 57)) none [3,10],.mk (some 59) (.load false 1 (.tmp 58)) none [11],.mk (some 60) (.conv .i64 (.tmp 59)) none [12],.mk (some 61) (.bin .mul (.tmp 60) (.const (.int .i64 131))) none [13],.mk (some 62) (.mv (.tmp 0)) none [],.mk (some 63) (.nilck (.tmp 62)) none [15],.mk (some 64) (.fld 0 (.tmp 63)) none [16],.mk (some 65) (.load false 1 (.tmp 64)) none [17],.mk (some 66) (.mv (.tmp 5)) none [],.mk (some 67) (.bin .mul (.tmp 66) (.const (.int .i64 7))) none [19],.mk (some 68) (.bin .add (.tmp 67) (.const (.int .i64 3))) none [20],.mk (some 69) (.mv (.tmp 0)) none [],.mk (some 70) (.nilck (.tmp 69)) none [22],.mk (some 71) (.fld 0 (.tmp 70)) none [23],.mk (some 72) (.load false 1 (.tmp 71)) none [24],.mk (some 73) (.len (.tmp 72)) none [25],.mk (some 74) (.bin .rem (.tmp 68) (.tmp 73)) none [21,26],.mk (some 75) (.idxA 1 (.tmp 65) (.tmp 74)) none [18,27],.mk (some 76) (.load false 1 (.tmp 75)) none [28],.mk (some 77) (.conv .i64 (.tmp 76)) none [29],.mk (some 78) (.bin .mul (.tmp 77) (.const (.int .i64 1117))) none [30],.mk (some 79) (.bin .add (.tmp 61) (.tmp 78)) none [14,31],.mk (some 80) (.mv (.tmp 5)) none [],.mk (some 81) (.bin .mul (.tmp 80) (.const (.int .i64 29))) none [33],.mk (some 82) (.bin .add (.tmp 79) (.tmp 81)) none [32,34],.mk (some 83) (.mv (.tmp 5)) none [],.mk (some 84) (.mv (.tmp 0)) none [],.mk (some 85) (.nilck (.tmp 84)) none [37],.mk (some 86) (.fld 0 (.tmp 85)) none [38],.mk (some 87) (.load false 1 (.tmp 86)) none [39],.mk (some 88) (.len (.tmp 87)) none [40],.mk (some 89) (.bin .quo (.tmp 83) (.tmp 88)) none [36,41],.mk (some 90) (.bin .mul (.tmp 89) (.const (.int .i64 53))) none [42]]
def l75r7b:List AOper :=
  [.mk (some 91) (.bin .add (.tmp 82) (.tmp 90)) none [35,43],.mk (some 6) (.mv (.tmp 91)) none [44,0,1,2,3,4,5,6,7,8,9,10,11,12,13,14,15,16,17,18,19,20,21,22,23,24,25,26,27,28,29,30,31,32,33,34,35,36,37,38,39,40,41,42,43,44]]
def l75r7:List AOper:=l75r7a ++ l75r7b
def l75r8:List AOper :=
  [.mk (some 92) (.mv (.tmp 6)) none [],.mk (some 93) (.mv (.tmp 6)) none [],.mk (some 94) (.bin .quo (.tmp 93) (.const (.int .i64 64))) none [1],.mk (some 95) (.bin .xor (.tmp 92) (.tmp 94)) none [0,2],.mk (some 6) (.mv (.tmp 95)) none [3,0,1,2,3]]
def l75r9:List AOper :=
  [.mk (some 96) (.mv (.tmp 6)) none [],.mk (some 97) (.mv (.tmp 1)) none [],.mk (some 98) (.bin .rem (.tmp 96) (.tmp 97)) none [0,1],.mk (some 4) (.mv (.tmp 98)) none [2,0,1,2]]
def l75:AFn :=
  (AFn.mk 99 2 (.seq (.reg l75r0) (.seq (.reg l75r1) (.seq (.seq (.reg l75r2) (.cond (.tmp 24) (.seq (.reg l75r3) .ret) .skip)) (.seq (.reg l75r4) (.seq (.seq (.reg l75r5) (.cond (.tmp 36) (.seq (.reg l75r6) .ret) .skip)) (.seq (.draw l75r7) (.seq (.reg l75r8) (.seq (.reg l75r9) .ret)))))))) [.tmp 4])
theorem l75_eq:lowFn Try.prog 75=some l75:=by kernel_rfl
def l76r0:List AOper :=
  [.mk (some 4) (.mv (.const (.int .i64 0))) none []]
def l76r1:List AOper :=
  [.mk (some 5) (.mv (.const (.int .i64 0))) none []]
def l76r2:List AOper :=
  [.mk (some 6) (.mv (.tmp 5)) none [],.mk (some 7) (.mv (.tmp 0)) none [],.mk (some 8) (.len (.tmp 7)) none [1],.mk (some 9) (.bin .lss (.tmp 6) (.tmp 8)) none [0,2]]
def l76r3:List AOper :=
  [.mk (some 12) (.mv (.tmp 0)) none [],.mk (some 13) (.mv (.tmp 5)) none [],.mk (some 14) (.idxA 1 (.tmp 12) (.tmp 13)) none [0,1],.mk (some 15) (.load false 1 (.tmp 14)) none [2],.mk (some 16) (.mv (.tmp 1)) none [],.mk (some 17) (.bin .eql (.tmp 15) (.tmp 16)) none [3,4]]
def l76r4:List AOper :=
  [.mk (some 18) (.mv (.tmp 5)) none [],.mk (some 4) (.mv (.tmp 18)) none [0,0]]
def l76r5:List AOper :=
  [.mk (some 10) (.mv (.tmp 5)) none [],.mk (some 11) (.bin .add (.tmp 10) (.const (.int .i64 1))) none [0],.mk (some 5) (.mv (.tmp 11)) none [1,0,1]]
def l76r6:List AOper :=
  [.mk (some 4) (.mv (.const (.int .i64 (-1)))) none []]
def l76:AFn :=
  (AFn.mk 19 2 (.seq (.reg l76r0) (.seq (.seq (.reg l76r1) (.block 0 (.loop (.seq (.seq (.reg l76r2) (.cond (.tmp 9) .skip (.exit 0))) (.seq (.block 1 (.seq (.reg l76r3) (.cond (.tmp 17) (.seq (.reg l76r4) .ret) .skip))) (.reg l76r5)))))) (.seq (.reg l76r6) .ret))) [.tmp 4])
theorem l76_eq:lowFn Try.prog 76=some l76:=by kernel_rfl
def l77r0:List AOper :=
  [.mk (some 2) (.alloc [.int .i64 0,.slice none 0 0,.slice none 0 0]) none []]
def l77r1:List AOper :=
  [.mk (some 3) (.mv (.tmp 0)) none [],.mk (some 4) (.call 106 [.tmp 3]) none [0],.mk (some 5) (.un .not (.tmp 4)) none [1]]
def l77r2:List AOper :=
  [.mk (some 6) (.build [.int .i64 0,.slice none 0 0,.slice none 0 0] []) none [],.mk none (.store 3 (.tmp 2) (.tmp 6)) none [0,0]]
def l77r3:List AOper :=
  [.mk (some 7) (.mv (.tmp 0)) none [],.mk (some 8) (.call 107 [.tmp 7]) none [0],.mk (some 9) (.bin .eql (.tmp 8) (.const (.int .i64 0))) none [1]]
def l77r4a:List AOper :=
  [.mk (some 10) (.mv (.tmp 0)) none [],.mk (some 11) (.call 115 [.tmp 10]) none [0],.mk (some 12) (.mv (.tmp 0)) none [],.mk (some 13) (.len (.tmp 12)) none [2],.mk (some 14) (.mkslice 1 [.int .i64 0] (.tmp 13) (.tmp 13)) none [3,3]]
def l77r4b:List AOper :=
  [.mk (some 15) (.build [.int .i64 0,.slice none 0 0,.slice none 0 0] [(1,1,.tmp 11),(2,1,.tmp 14)]) none [1,4],.mk none (.store 3 (.tmp 2) (.tmp 15)) none [5,1,0,1,2,3,4,5]]
def l77r4:List AOper:=l77r4a ++ l77r4b
def l77r5:List AOper :=
  [.mk (some 16) (.mv (.tmp 0)) none [],.mk (some 17) (.call 115 [.tmp 16]) none [0],.mk (some 18) (.mv (.tmp 0)) none [],.mk (some 19) (.call 116 [.tmp 18]) none [2,1],.mk (some 20) (.build [.int .i64 0,.slice none 0 0,.slice none 0 0] [(1,1,.tmp 17),(2,1,.tmp 19)]) none [1,3],.mk none (.store 3 (.tmp 2) (.tmp 20)) none [4,3,0,1,2,3,4]]
def l77:AFn :=
  (AFn.mk 21 1 (.seq (.reg l77r0) (.seq (.seq (.reg l77r1) (.cond (.tmp 5) (.seq (.reg l77r2) .ret) .skip)) (.seq (.seq (.reg l77r3) (.cond (.tmp 9) (.seq (.draw l77r4) .ret) .skip)) (.seq (.reg l77r5) .ret)))) [.cell 2 true 3])
theorem l77_eq:lowFn Try.prog 77=some l77:=by kernel_rfl
def l78r0:List AOper :=
  [.mk (some 2) (.alloc [.int .i64 0,.slice none 0 0,.slice none 0 0]) none [],.mk (some 3) (.mv (.const (.int .i64 0))) none []]
def l78r1:List AOper :=
  [.mk (some 5) (.mv (.tmp 0)) none [],.mk (some 6) (.call 45 [.tmp 5]) none [0],.mk (some 4) (.alloc [.int .i64 0,.slice none 0 0,.slice none 0 0]) none [],.mk none (.store 3 (.tmp 4) (.tmp 6)) none [2,1,1,0,1,2]]
def l78r2a:List AOper :=
  [.mk (some 7) (.load true 3 (.tmp 4)) none [],.mk (some 8) (.mv (.tmp 0)) none [],.mk (some 9) (.mv (.tmp 0)) none [],.mk (some 10) (.fld 1 (.tmp 4)) none [],.mk (some 11) (.load false 1 (.tmp 10)) none [3],.mk (some 12) (.len (.tmp 11)) none [4],.mk (some 13) (.bin .add (.tmp 12) (.const (.int .i64 1))) none [5],.mk (some 14) (.call 75 [.tmp 9,.tmp 13]) none [2,6],.mk (some 15) (.mv (.tmp 0)) none [],.mk (some 16) (.fld 1 (.tmp 4)) none [],.mk (some 17) (.load false 1 (.tmp 16)) none [9],.mk (some 18) (.len (.tmp 17)) none [10],.mk (some 19) (.bin .add (.tmp 18) (.const (.int .i64 1))) none [11],.mk (some 20) (.call 75 [.tmp 15,.tmp 19]) none [8,12,7],.mk (some 21) (.bslice 1 [.int .i64 0] [(0,.const (.int .i64 0)),(1,.tmp 14),(2,.const (.int .i64 1)),(3,.tmp 20),(4,.const (.int .i64 (-1)))] 5) none [7,13],.mk (some 22) (.call 74 [.tmp 8,.tmp 21]) none [1,14,13]]
def l78r2b:List AOper :=
  [.mk none (.store 3 (.tmp 2) (.tmp 7)) none [0,15,0],.mk (some 3) (.mv (.tmp 22)) none [15,16,0,1,2,3,4,5,6,7,8,9,10,11,12,13,14,15,16]]
def l78r2:List AOper:=l78r2a ++ l78r2b
def l78:AFn :=
  (AFn.mk 23 1 (.seq (.reg l78r0) (.seq (.reg l78r1) (.seq (.draw l78r2) .ret))) [.cell 2 true 3,.tmp 3])
theorem l78_eq:lowFn Try.prog 78=some l78:=by kernel_rfl
def l79r0:List AOper :=
  [.mk (some 2) (.box (.tmp 0)) none [],.mk (some 4) (.mv (.const (.bool false))) none []]
def l79r1:List AOper :=
  [.mk (some 5) (.load true 3 (.tmp 2)) none [],.mk (some 6) (.call 12 [.tmp 5]) none [0],.mk (some 7) (.mv (.tmp 6)) none [1,1],.mk (some 8) (.mv (.tmp 1)) (some (7,true)) [2],.mk (some 9) (.fld 1 (.tmp 2)) (some (7,true)) [2],.mk (some 10) (.load false 1 (.tmp 9)) (some (7,true)) [4,2],.mk (some 11) (.len (.tmp 10)) (some (7,true)) [5,2],.mk (some 12) (.bin .sub (.tmp 11) (.const (.int .i64 1))) (some (7,true)) [6,2],.mk (some 13) (.call 56 [.tmp 8,.tmp 12]) (some (7,true)) [3,7,2,2],.mk (some 14) (.pick (.tmp 7) (.tmp 13) (.const (.bool false))) none [2,8],.mk (some 4) (.mv (.tmp 14)) none [9,8,0,1,2,3,4,5,6,7,8,9]]
def l79:AFn :=
  (AFn.mk 15 2 (.seq (.reg l79r0) (.seq (.reg l79r1) .ret)) [.tmp 4])
theorem l79_eq:lowFn Try.prog 79=some l79:=by kernel_rfl
def l80r0:List AOper :=
  [.mk (some 1) (.box (.tmp 0)) none [],.mk (some 2) (.alloc [.int .i64 0,.slice none 0 0,.slice none 0 0,.int .i64 0,.int .i64 0,.int .i64 0,.int .i64 0,.slice none 0 0]) none []]
def l80r1:List AOper :=
  [.mk (some 6) (.load true 3 (.tmp 1)) none [],.mk (some 7) (.build [.int .i64 0,.slice none 0 0,.slice none 0 0,.int .i64 0,.int .i64 0,.int .i64 0,.int .i64 0,.slice none 0 0] [(0,3,.tmp 6)]) none [0],.mk (some 3) (.alloc [.int .i64 0,.slice none 0 0,.slice none 0 0,.int .i64 0,.int .i64 0,.int .i64 0,.int .i64 0,.slice none 0 0]) none [],.mk none (.store 8 (.tmp 3) (.tmp 7)) none [2,1,0,1,2]]
def l80r2:List AOper :=
  [.mk (some 8) (.fld 1 (.tmp 1)) none [],.mk (some 9) (.load false 1 (.tmp 8)) none [0],.mk (some 10) (.len (.tmp 9)) none [1],.mk (some 11) (.mv (.const (.int .i64 0))) none []]
def l80r3:List AOper :=
  [.mk (some 12) (.bin .lss (.tmp 11) (.tmp 10)) none []]
def l80r4:List AOper :=
  [.mk (some 13) (.mv (.tmp 11)) none [],.mk (some 14) (.idxA 1 (.tmp 9) (.tmp 11)) none [],.mk (some 15) (.load false 1 (.tmp 14)) none [1],.mk (some 4) (.mv (.tmp 13)) none [0,0,1,2],.mk (some 5) (.mv (.tmp 15)) none [2,3,0,1,2,3]]
def l80r5a:List AOper :=
  [.mk (some 16) (.fld 7 (.tmp 3)) none [],.mk (some 17) (.load false 1 (.tmp 16)) none [0],.mk (some 18) (.mv (.tmp 5)) none [],.mk (some 19) (.fld 2 (.tmp 1)) none [],.mk (some 20) (.load false 1 (.tmp 19)) none [3],.mk (some 21) (.mv (.tmp 4)) none [],.mk (some 22) (.idxA 1 (.tmp 20) (.tmp 21)) none [4,5],.mk (some 23) (.load false 1 (.tmp 22)) none [6],.mk (some 24) (.build [.int .i64 0,.int .i64 0] [(0,1,.tmp 18),(1,1,.tmp 23)]) none [2,7],.mk (some 25) (.bslice 2 [.int .i64 0,.int .i64 0] [(0,.tmp 24)] 1) none [8]]
def l80r5b:List AOper :=
  [.mk (some 26) (.append 2 (.tmp 17) (.tmp 25)) none [1,9],.mk (some 27) (.fld 7 (.tmp 3)) none [0,1,2,3,4,5,6,7,8,9,10],.mk none (.store 1 (.tmp 27) (.tmp 26)) none [11,10,10,0,1,2,3,4,5,6,7,8,9,10]]
def l80r5:List AOper:=l80r5a ++ l80r5b
def l80r6:List AOper :=
  [.mk (some 28) (.bin .add (.tmp 11) (.const (.int .i64 1))) none [],.mk (some 11) (.mv (.tmp 28)) none [0]]
def l80r7:List AOper :=
  [.mk (some 29) (.load true 8 (.tmp 3)) none [],.mk none (.store 8 (.tmp 2) (.tmp 29)) none [0,0]]
def l80:AFn :=
  (AFn.mk 30 1 (.seq (.reg l80r0) (.seq (.reg l80r1) (.seq (.seq (.reg l80r2) (.block 0 (.loop (.seq (.reg l80r3) (.seq (.cond (.tmp 12) .skip (.exit 0)) (.seq (.block 1 (.seq (.reg l80r4) (.draw l80r5))) (.reg l80r6))))))) (.seq (.reg l80r7) .ret)))) [.cell 2 true 8])
theorem l80_eq:lowFn Try.prog 80=some l80:=by kernel_rfl
def l81r0:List AOper :=
  [.mk (some 4) (.alloc [.int .i64 0,.int .i64 0]) none []]
def l81r1:List AOper :=
  [.mk (some 5) (.mv (.tmp 0)) none [],.mk (some 6) (.bin .lss (.tmp 5) (.const (.int .i64 2))) none [0]]
def l81r2:List AOper :=
  [.mk (some 7) (.mv (.tmp 0)) none [],.mk (some 8) (.build [.int .i64 0,.int .i64 0] [(0,1,.tmp 7)]) none [0],.mk none (.store 2 (.tmp 4) (.tmp 8)) none [1,0,1]]
def l81r3:List AOper :=
  [.mk (some 9) (.mv (.tmp 0)) none [],.mk (some 10) (.mv (.tmp 1)) none [],.mk (some 11) (.build [.int .i64 0,.int .i64 0] [(0,1,.tmp 9),(1,1,.tmp 10)]) none [0,1],.mk none (.store 2 (.tmp 4) (.tmp 11)) none [2,0,1,2]]
def l81:AFn :=
  (AFn.mk 12 2 (.seq (.reg l81r0) (.seq (.seq (.reg l81r1) (.cond (.tmp 6) (.seq (.reg l81r2) .ret) .skip)) (.seq (.reg l81r3) .ret))) [.cell 4 true 2])
theorem l81_eq:lowFn Try.prog 81=some l81:=by kernel_rfl
def l82r0:List AOper :=
  [.mk (some 6) (.mv (.const (.slice none 0 0))) none []]
def l82r1:List AOper :=
  [.mk (some 8) (.mv (.tmp 0)) none [],.mk (some 9) (.mv (.tmp 1)) none [],.mk (some 10) (.mv (.tmp 2)) none [],.mk (some 11) (.mv (.tmp 0)) none [],.mk (some 12) (.len (.tmp 11)) none [3],.mk (some 13) (.slice3 2 (.tmp 8) (some (.tmp 9)) (.tmp 10) (.tmp 12)) none [0,1,2,4]]
def l82r2:List AOper :=
  [.mk (some 14) (.mv (.tmp 1)) none [],.mk (some 15) (.mv (.tmp 2)) none [],.mk (some 16) (.bin .eql (.tmp 14) (.tmp 15)) none [0,1]]
def l82r3:List AOper :=
  [.mk (some 17) (.mv (.tmp 0)) none [],.mk (some 6) (.mv (.tmp 17)) none [0,0]]
def l82r4:List AOper :=
  [.mk (some 18) (.mv (.tmp 0)) none [],.mk (some 19) (.len (.tmp 18)) none [0],.mk (some 7) (.mv (.tmp 19)) none [1,0,1]]
def l82r5a:List AOper :=
  [.mk (some 20) (.mv (.tmp 0)) none [],.mk (some 21) (.mv (.tmp 1)) none [],.mk (some 22) (.slice 2 (.tmp 20) none (some (.tmp 21))) none [0,1],.mk (some 23) (.mv (.tmp 0)) none [],.mk (some 24) (.mv (.tmp 2)) none [],.mk (some 25) (.slice 2 (.tmp 23) (some (.tmp 24)) none) none [3,4]]
def l82r5b:List AOper :=
  [.mk (some 26) (.append 2 (.tmp 22) (.tmp 25)) none [2,5],.mk (some 0) (.mv (.tmp 26)) none [6,6,0,1,2,3,4,5,6]]
def l82r5:List AOper:=l82r5a ++ l82r5b
def l82r6:List AOper :=
  [.mk (some 27) (.mv (.tmp 0)) none [],.mk (some 28) (.mv (.tmp 0)) none [],.mk (some 29) (.len (.tmp 28)) none [1],.mk (some 30) (.mv (.tmp 7)) none [],.mk (some 31) (.slice 2 (.tmp 27) (some (.tmp 29)) (some (.tmp 30))) none [0,2,3],.mk none (.clr 2 [.int .i64 0,.int .i64 0] (.tmp 31)) none [4]]
def l82r7:List AOper :=
  [.mk (some 32) (.mv (.tmp 0)) none [],.mk (some 6) (.mv (.tmp 32)) none [0,0]]
def l82:AFn :=
  (AFn.mk 33 3 (.seq (.reg l82r0) (.seq (.reg l82r1) (.seq (.seq (.reg l82r2) (.cond (.tmp 16) (.seq (.reg l82r3) .ret) .skip)) (.seq (.reg l82r4) (.seq (.draw l82r5) (.seq (.reg l82r6) (.seq (.reg l82r7) .ret))))))) [.tmp 6])
theorem l82_eq:lowFn Try.prog 82=some l82:=by kernel_rfl
def l83r0:List AOper :=
  [.mk (some 1) (.box (.tmp 0)) none [],.mk (some 2) (.alloc [.int .i64 0,.slice none 0 0,.slice none 0 0]) none []]
def l83r1:List AOper :=
  [.mk (some 4) (.load true 8 (.tmp 1)) none [],.mk (some 5) (.call 117 [.tmp 4]) none [0],.mk (some 3) (.alloc [.int .i64 0,.slice none 0 0,.slice none 0 0]) none [],.mk none (.store 3 (.tmp 3) (.tmp 5)) none [2,1,1,0,1,2]]
def l83r2:List AOper :=
  [.mk (some 6) (.load true 3 (.tmp 3)) none [],.mk (some 7) (.call 58 [.tmp 6]) none [0],.mk (some 8) (.bin .eql (.tmp 7) (.const (.int .i64 0))) none [1]]
def l83r3a:List AOper :=
  [.mk (some 9) (.fld 1 (.tmp 3)) none [],.mk (some 10) (.load false 1 (.tmp 9)) none [0],.mk (some 11) (.len (.tmp 10)) none [1],.mk (some 12) (.mkslice 1 [.int .i64 0] (.tmp 11) (.tmp 11)) none [2,2],.mk (some 13) (.fld 0 (.tmp 3)) none [0,1],.mk none (.store 1 (.tmp 13) (.const (.int .i64 0))) none [4,0,1]]
def l83r3b:List AOper :=
  [.mk (some 14) (.fld 2 (.tmp 3)) none [0,1,2,3,4,5],.mk none (.store 1 (.tmp 14) (.tmp 12)) none [6,3,5,0,1,2,3,4,5]]
def l83r3:List AOper:=l83r3a ++ l83r3b
def l83r4:List AOper :=
  [.mk (some 15) (.load true 3 (.tmp 3)) none [],.mk none (.store 3 (.tmp 2) (.tmp 15)) none [0,0]]
def l83:AFn :=
  (AFn.mk 16 1 (.seq (.reg l83r0) (.seq (.reg l83r1) (.seq (.seq (.reg l83r2) (.cond (.tmp 8) (.draw l83r3) .skip)) (.seq (.reg l83r4) .ret)))) [.cell 2 true 3])
theorem l83_eq:lowFn Try.prog 83=some l83:=by kernel_rfl
def l84r0:List AOper :=
  [.mk (some 2) (.box (.tmp 0)) none [],.mk (some 4) (.mv (.const (.bool false))) none []]
def l84r1:List AOper :=
  [.mk (some 5) (.mv (.tmp 1)) none [],.mk (some 6) (.fld 1 (.tmp 2)) none [],.mk (some 7) (.load false 1 (.tmp 6)) none [1],.mk (some 8) (.len (.tmp 7)) none [2],.mk (some 9) (.bin .sub (.tmp 8) (.const (.int .i64 1))) none [3],.mk (some 10) (.call 67 [.tmp 5,.const (.int .i64 0),.tmp 9]) none [0,4],.mk (some 4) (.mv (.tmp 10)) none [5,5,0,1,2,3,4,5]]
def l84:AFn :=
  (AFn.mk 11 2 (.seq (.reg l84r0) (.seq (.reg l84r1) .ret)) [.tmp 4])
theorem l84_eq:lowFn Try.prog 84=some l84:=by kernel_rfl
def l85r0:List AOper :=
  [.mk (some 1) (.box (.tmp 0)) none [],.mk (some 2) (.alloc [.int .i64 0,.slice none 0 0,.slice none 0 0]) none []]
def l85r1a:List AOper :=
  [.mk (some 3) (.fld 0 (.tmp 1)) none [],.mk (some 4) (.load false 1 (.tmp 3)) none [0],.mk (some 5) (.fld 1 (.tmp 1)) none [],.mk (some 6) (.load false 1 (.tmp 5)) none [2],.mk (some 7) (.call 115 [.tmp 6]) none [3],.mk (some 8) (.fld 2 (.tmp 1)) none [],.mk (some 9) (.load false 1 (.tmp 8)) none [5],.mk (some 10) (.call 115 [.tmp 9]) none [6,4]]
def l85r1b:List AOper :=
  [.mk (some 11) (.build [.int .i64 0,.slice none 0 0,.slice none 0 0] [(0,1,.tmp 4),(1,1,.tmp 7),(2,1,.tmp 10)]) none [1,4,7],.mk none (.store 3 (.tmp 2) (.tmp 11)) none [8,7,0,1,2,3,4,5,6,7,8]]
def l85r1:List AOper:=l85r1a ++ l85r1b
def l85:AFn :=
  (AFn.mk 12 1 (.seq (.reg l85r0) (.seq (.draw l85r1) .ret)) [.cell 2 true 3])
theorem l85_eq:lowFn Try.prog 85=some l85:=by kernel_rfl
def l86r0:List AOper :=
  [.mk (some 4) (.mv (.const (.slice none 0 0))) none []]
def l86r1a:List AOper :=
  [.mk (some 5) (.bslice 1 [.int .i64 0] [] 0) none [],.mk (some 6) (.mv (.tmp 0)) none [],.mk (some 7) (.mv (.tmp 1)) none [],.mk (some 8) (.slice 1 (.tmp 6) none (some (.tmp 7))) none [1,2],.mk (some 9) (.append 1 (.tmp 5) (.tmp 8)) none [0,3],.mk (some 10) (.mv (.tmp 0)) none [],.mk (some 11) (.mv (.tmp 1)) none [],.mk (some 12) (.bin .add (.tmp 11) (.const (.int .i64 1))) none [6],.mk (some 13) (.slice 1 (.tmp 10) (some (.tmp 12)) none) none [5,7]]
def l86r1b:List AOper :=
  [.mk (some 14) (.append 1 (.tmp 9) (.tmp 13)) none [4,8,4],.mk (some 4) (.mv (.tmp 14)) none [9,9,0,1,2,3,4,5,6,7,8,9]]
def l86r1:List AOper:=l86r1a ++ l86r1b
def l86:AFn :=
  (AFn.mk 15 2 (.seq (.reg l86r0) (.seq (.draw l86r1) .ret)) [.tmp 4])
theorem l86_eq:lowFn Try.prog 86=some l86:=by kernel_rfl
def l87r0:List AOper :=
  [.mk (some 1) (.box (.tmp 0)) none [],.mk (some 2) (.alloc [.int .i64 0,.slice none 0 0,.slice none 0 0]) none [],.mk (some 3) (.mv (.const (.bool false))) none []]
def l87r1:List AOper :=
  [.mk (some 4) (.load true 3 (.tmp 1)) none [],.mk (some 5) (.call 52 [.tmp 4]) none [0],.mk (some 6) (.un .not (.tmp 5)) none [1]]
def l87r2:List AOper :=
  [.mk (some 7) (.build [.int .i64 0,.slice none 0 0,.slice none 0 0] []) none [],.mk none (.store 3 (.tmp 2) (.tmp 7)) none [0,0],.mk (some 3) (.mv (.const (.bool false))) none [1,0,1]]
def l87r3:List AOper :=
  [.mk (some 8) (.load true 3 (.tmp 1)) none [],.mk (some 9) (.call 85 [.tmp 8]) none [0],.mk none (.store 3 (.tmp 2) (.tmp 9)) none [1,1,0,1],.mk (some 3) (.mv (.const (.bool true))) none [2,0,1,2]]
def l87:AFn :=
  (AFn.mk 10 1 (.seq (.reg l87r0) (.seq (.seq (.reg l87r1) (.cond (.tmp 6) (.seq (.reg l87r2) .ret) .skip)) (.seq (.reg l87r3) .ret))) [.cell 2 true 3,.tmp 3])
theorem l87_eq:lowFn Try.prog 87=some l87:=by kernel_rfl
def l88r0:List AOper :=
  [.mk (some 1) (.box (.tmp 0)) none [],.mk (some 2) (.alloc [.int .i64 0,.slice none 0 0,.slice none 0 0]) none []]
def l88r1:List AOper :=
  [.mk (some 3) (.fld 1 (.tmp 1)) none [],.mk (some 4) (.load false 1 (.tmp 3)) none [0],.mk (some 5) (.call 107 [.tmp 4]) none [1],.mk (some 6) (.bin .eql (.tmp 5) (.const (.int .i64 0))) none [2]]
def l88r2a:List AOper :=
  [.mk (some 7) (.fld 1 (.tmp 1)) none [],.mk (some 8) (.load false 1 (.tmp 7)) none [0],.mk (some 9) (.fld 1 (.tmp 1)) none [],.mk (some 10) (.load false 1 (.tmp 9)) none [2],.mk (some 11) (.len (.tmp 10)) none [3],.mk (some 12) (.mkslice 1 [.int .i64 0] (.tmp 11) (.tmp 11)) none [4,4]]
def l88r2b:List AOper :=
  [.mk (some 13) (.build [.int .i64 0,.slice none 0 0,.slice none 0 0] [(1,1,.tmp 8),(2,1,.tmp 12)]) none [1,5],.mk none (.store 3 (.tmp 2) (.tmp 13)) none [6,0,1,2,3,4,5,6]]
def l88r2:List AOper:=l88r2a ++ l88r2b
def l88r3:List AOper :=
  [.mk (some 14) (.load true 3 (.tmp 1)) none [],.mk none (.store 3 (.tmp 2) (.tmp 14)) none [0,0]]
def l88:AFn :=
  (AFn.mk 15 1 (.seq (.reg l88r0) (.seq (.seq (.reg l88r1) (.cond (.tmp 6) (.seq (.draw l88r2) .ret) .skip)) (.seq (.reg l88r3) .ret))) [.cell 2 true 3])
theorem l88_eq:lowFn Try.prog 88=some l88:=by kernel_rfl
def l89r0:List AOper :=
  [.mk (some 2) (.mv (.const (.int .i64 0))) none []]
def l89r1:List AOper :=
  [.mk (some 3) (.mv (.const (.int .i64 1))) none []]
def l89r2:List AOper :=
  [.mk (some 6) (.mv (.tmp 0)) none [],.mk (some 7) (.len (.tmp 6)) none [0],.mk (some 8) (.mv (.const (.int .i64 0))) none []]
def l89r3:List AOper :=
  [.mk (some 9) (.bin .lss (.tmp 8) (.tmp 7)) none []]
def l89r4:List AOper :=
  [.mk (some 10) (.idxA 1 (.tmp 6) (.tmp 8)) none [],.mk (some 11) (.load false 1 (.tmp 10)) none [0],.mk (some 5) (.mv (.tmp 11)) none [1,0,1]]
def l89r5:List AOper :=
  [.mk (some 12) (.mv (.tmp 3)) none [],.mk (some 13) (.mv (.tmp 5)) none [],.mk (some 14) (.bin .mul (.tmp 12) (.tmp 13)) none [0,1],.mk (some 3) (.mv (.tmp 14)) none [2,0,1,2]]
def l89r6:List AOper :=
  [.mk (some 15) (.bin .add (.tmp 8) (.const (.int .i64 1))) none [],.mk (some 8) (.mv (.tmp 15)) none [0]]
def l89r7:List AOper :=
  [.mk (some 16) (.mv (.tmp 3)) none [],.mk (some 2) (.mv (.tmp 16)) none [0,0]]
def l89:AFn :=
  (AFn.mk 17 1 (.seq (.reg l89r0) (.seq (.reg l89r1) (.seq (.seq (.reg l89r2) (.block 0 (.loop (.seq (.reg l89r3) (.seq (.cond (.tmp 9) .skip (.exit 0)) (.seq (.block 1 (.seq (.reg l89r4) (.reg l89r5))) (.reg l89r6))))))) (.seq (.reg l89r7) .ret)))) [.tmp 2])
theorem l89_eq:lowFn Try.prog 89=some l89:=by kernel_rfl
def l90r0:List AOper :=
  [.mk (some 4) (.alloc [.int .i64 0,.int .i64 0,.int .i64 0,.int .i64 0]) none []]
def l90r1:List AOper :=
  [.mk (some 5) (.alloc [.int .i64 0,.int .i64 0,.int .i64 0,.int .i64 0]) none []]
def l90r2:List AOper :=
  [.mk (some 7) (.mv (.tmp 0)) none [],.mk (some 8) (.len (.tmp 7)) none [0],.mk (some 9) (.bin .sub (.tmp 8) (.const (.int .i64 1))) none [1],.mk (some 6) (.mv (.tmp 9)) none [2,0,1,2]]
def l90r3:List AOper :=
  [.mk (some 10) (.mv (.tmp 6)) none [],.mk (some 11) (.bin .geq (.tmp 10) (.const (.int .i64 0))) none [0]]
def l90r4:List AOper :=
  [.mk (some 14) (.mv (.tmp 6)) none [],.mk (some 15) (.mv (.tmp 1)) none [],.mk (some 16) (.mv (.tmp 0)) none [],.mk (some 17) (.mv (.tmp 6)) none [],.mk (some 18) (.idxA 1 (.tmp 16) (.tmp 17)) none [2,3],.mk (some 19) (.load false 1 (.tmp 18)) none [4],.mk (some 20) (.bin .rem (.tmp 15) (.tmp 19)) none [1,5],.mk (some 21) (.idxP 1 4 (.tmp 5) (.tmp 14)) none [0,0,1,2,3,4,5,6],.mk none (.store 1 (.tmp 21) (.tmp 20)) none [7,6,0,1,2,3,4,5,6]]
def l90r5:List AOper :=
  [.mk (some 22) (.mv (.tmp 1)) none [],.mk (some 23) (.mv (.tmp 0)) none [],.mk (some 24) (.mv (.tmp 6)) none [],.mk (some 25) (.idxA 1 (.tmp 23) (.tmp 24)) none [1,2],.mk (some 26) (.load false 1 (.tmp 25)) none [3],.mk (some 27) (.bin .quo (.tmp 22) (.tmp 26)) none [0,4],.mk (some 1) (.mv (.tmp 27)) none [5,0,1,2,3,4,5]]
def l90r6:List AOper :=
  [.mk (some 12) (.mv (.tmp 6)) none [],.mk (some 13) (.bin .sub (.tmp 12) (.const (.int .i64 1))) none [0],.mk (some 6) (.mv (.tmp 13)) none [1,0,1]]
def l90r7:List AOper :=
  [.mk (some 28) (.load true 4 (.tmp 5)) none [],.mk none (.store 4 (.tmp 4) (.tmp 28)) none [0,0]]
def l90:AFn :=
  (AFn.mk 29 2 (.seq (.reg l90r0) (.seq (.reg l90r1) (.seq (.seq (.reg l90r2) (.block 0 (.loop (.seq (.seq (.reg l90r3) (.cond (.tmp 11) .skip (.exit 0))) (.seq (.block 1 (.seq (.reg l90r4) (.reg l90r5))) (.reg l90r6)))))) (.seq (.reg l90r7) .ret)))) [.cell 4 true 4])
theorem l90_eq:lowFn Try.prog 90=some l90:=by kernel_rfl
def l91r0:List AOper :=
  [.mk (some 2) (.mv (.const (.slice none 0 0))) none []]
def l91r1:List AOper :=
  [.mk (some 3) (.mv (.tmp 0)) none [],.mk (some 4) (.isnil false (.tmp 3)) none [0]]
def l91r2:List AOper :=
  [.mk (some 2) (.mv (.const (.slice none 0 0))) none []]
def l91r3:List AOper :=
  [.mk (some 5) (.bslice 1 [.int .i64 0] [] 0) none [],.mk (some 6) (.mv (.tmp 0)) none [],.mk (some 7) (.append 1 (.tmp 5) (.tmp 6)) none [0,1],.mk (some 2) (.mv (.tmp 7)) none [2,2,0,1,2]]
def l91:AFn :=
  (AFn.mk 8 1 (.seq (.reg l91r0) (.seq (.seq (.reg l91r1) (.cond (.tmp 4) (.seq (.reg l91r2) .ret) .skip)) (.seq (.reg l91r3) .ret))) [.tmp 2])
theorem l91_eq:lowFn Try.prog 91=some l91:=by kernel_rfl
def l92r0:List AOper :=
  [.mk (some 4) (.alloc [.int .i64 0,.int .i64 0,.int .i64 0,.int .i64 0]) none [],.mk (some 5) (.mv (.const (.bool false))) none []]
def l92r1:List AOper :=
  [.mk (some 9) (.mv (.tmp 1)) none [],.mk (some 10) (.len (.tmp 9)) none [0],.mk (some 11) (.mv (.tmp 0)) none [],.mk (some 12) (.len (.tmp 11)) none [2],.mk (some 13) (.bin .neq (.tmp 10) (.tmp 12)) none [1,3]]
def l92r2:List AOper :=
  [.mk (some 14) (.build [.int .i64 0,.int .i64 0,.int .i64 0,.int .i64 0] []) none [],.mk none (.store 4 (.tmp 4) (.tmp 14)) none [0,0],.mk (some 5) (.mv (.const (.bool false))) none [1,0,1]]
def l92r3:List AOper :=
  [.mk (some 6) (.alloc [.int .i64 0,.int .i64 0,.int .i64 0,.int .i64 0]) none []]
def l92r4:List AOper :=
  [.mk (some 15) (.mv (.tmp 0)) none [],.mk (some 16) (.len (.tmp 15)) none [0],.mk (some 17) (.mv (.const (.int .i64 0))) none []]
def l92r5:List AOper :=
  [.mk (some 18) (.bin .lss (.tmp 17) (.tmp 16)) none []]
def l92r6:List AOper :=
  [.mk (some 19) (.mv (.tmp 17)) none [],.mk (some 20) (.idxA 1 (.tmp 15) (.tmp 17)) none [],.mk (some 21) (.load false 1 (.tmp 20)) none [1],.mk (some 7) (.mv (.tmp 19)) none [0,0,1,2],.mk (some 8) (.mv (.tmp 21)) none [2,3,0,1,2,3]]
def l92r7:List AOper :=
  [.mk (some 22) (.mv (.tmp 1)) none [],.mk (some 23) (.mv (.tmp 7)) none [],.mk (some 24) (.idxA 1 (.tmp 22) (.tmp 23)) none [0,1],.mk (some 25) (.load false 1 (.tmp 24)) none [2],.mk (some 26) (.mv (.tmp 8)) none [],.mk (some 27) (.bin .sub (.tmp 26) (.const (.int .i64 1))) none [4],.mk (some 28) (.call 56 [.tmp 25,.tmp 27]) none [3,5],.mk (some 29) (.un .not (.tmp 28)) none [6]]
def l92r8:List AOper :=
  [.mk (some 30) (.build [.int .i64 0,.int .i64 0,.int .i64 0,.int .i64 0] []) none [],.mk none (.store 4 (.tmp 4) (.tmp 30)) none [0,0],.mk (some 5) (.mv (.const (.bool false))) none [1,0,1]]
def l92r9:List AOper :=
  [.mk (some 31) (.mv (.tmp 7)) none [],.mk (some 32) (.mv (.tmp 1)) none [],.mk (some 33) (.mv (.tmp 7)) none [],.mk (some 34) (.idxA 1 (.tmp 32) (.tmp 33)) none [1,2],.mk (some 35) (.load false 1 (.tmp 34)) none [3],.mk (some 36) (.idxP 1 4 (.tmp 6) (.tmp 31)) none [0,0,1,2,3,4],.mk none (.store 1 (.tmp 36) (.tmp 35)) none [5,4,0,1,2,3,4]]
def l92r10:List AOper :=
  [.mk (some 37) (.bin .add (.tmp 17) (.const (.int .i64 1))) none [],.mk (some 17) (.mv (.tmp 37)) none [0]]
def l92r11:List AOper :=
  [.mk (some 38) (.load true 4 (.tmp 6)) none [],.mk none (.store 4 (.tmp 4) (.tmp 38)) none [0,0],.mk (some 5) (.mv (.const (.bool true))) none [1,0,1]]
def l92:AFn :=
  (AFn.mk 39 2 (.seq (.reg l92r0) (.seq (.seq (.reg l92r1) (.cond (.tmp 13) (.seq (.reg l92r2) .ret) .skip)) (.seq (.reg l92r3) (.seq (.seq (.reg l92r4) (.block 0 (.loop (.seq (.reg l92r5) (.seq (.cond (.tmp 18) .skip (.exit 0)) (.seq (.block 1 (.seq (.reg l92r6) (.seq (.seq (.reg l92r7) (.cond (.tmp 29) (.seq (.reg l92r8) .ret) .skip)) (.reg l92r9)))) (.reg l92r10))))))) (.seq (.reg l92r11) .ret))))) [.cell 4 true 4,.tmp 5])
theorem l92_eq:lowFn Try.prog 92=some l92:=by kernel_rfl
def l93r0:List AOper :=
  [.mk (some 2) (.box (.tmp 0)) none [],.mk (some 3) (.box (.tmp 1)) none [],.mk (some 4) (.mv (.const (.int .i64 0))) none []]
def l93r1a:List AOper :=
  [.mk (some 5) (.fld 0 (.tmp 2)) none [],.mk (some 6) (.load false 1 (.tmp 5)) none [0],.mk (some 7) (.load true 4 (.tmp 3)) none [],.mk (some 8) (.fld 2 (.tmp 2)) none [],.mk (some 9) (.load false 1 (.tmp 8)) none [3],.mk (some 10) (.call 118 [.tmp 7,.tmp 9]) none [2,4]]
def l93r1b:List AOper :=
  [.mk (some 11) (.bin .add (.tmp 6) (.tmp 10)) none [1,5],.mk (some 4) (.mv (.tmp 11)) none [6,5,0,1,2,3,4,5,6]]
def l93r1:List AOper:=l93r1a ++ l93r1b
def l93:AFn :=
  (AFn.mk 12 2 (.seq (.reg l93r0) (.seq (.draw l93r1) .ret)) [.tmp 4])
theorem l93_eq:lowFn Try.prog 93=some l93:=by kernel_rfl
def l102r0:List AOper :=
  [.mk (some 2) (.alloc [.int .i64 0,.slice none 0 0,.slice none 0 0]) none []]
def l102r1:List AOper :=
  [.mk (some 8) (.mv (.tmp 0)) none [],.mk (some 9) (.call 124 [.tmp 8]) none [0],.mk (some 10) (.call 77 [.tmp 9]) none [1,1],.mk (some 3) (.alloc [.int .i64 0,.slice none 0 0,.slice none 0 0]) none [],.mk none (.store 3 (.tmp 3) (.tmp 10)) none [3,2,2,0,1,2,3]]
def l102r2:List AOper :=
  [.mk (some 11) (.mv (.tmp 0)) none [],.mk (some 12) (.mv (.tmp 0)) none [],.mk (some 13) (.call 75 [.tmp 12,.const (.int .i64 10)]) none [1],.mk (some 14) (.bslice 1 [.int .i64 0] [(0,.const (.int .i64 0)),(1,.const (.int .i64 0)),(2,.const (.int .i64 1)),(3,.const (.int .i64 3)),(4,.tmp 13)] 5) none [2],.mk (some 15) (.call 74 [.tmp 11,.tmp 14]) none [0,3,2],.mk (some 16) (.fld 0 (.tmp 3)) none [0,1,2,3,4],.mk none (.store 1 (.tmp 16) (.tmp 15)) none [5,4,4,0,1,2,3,4]]
def l102r3:List AOper :=
  [.mk (some 17) (.mv (.tmp 0)) none [],.mk (some 18) (.call 75 [.tmp 17,.const (.int .i64 4)]) none [0],.mk (some 4) (.mv (.tmp 18)) none [1,1,0,1]]
def l102r4:List AOper :=
  [.mk (some 19) (.mv (.tmp 4)) none [],.mk (some 20) (.bin .gtr (.tmp 19) (.const (.int .i64 0))) none [0],.mk (some 21) (.mv (.tmp 20)) none [1],.mk (some 22) (.fld 1 (.tmp 3)) (some (21,true)) [2],.mk (some 23) (.load false 1 (.tmp 22)) (some (21,true)) [3,2],.mk (some 24) (.len (.tmp 23)) (some (21,true)) [4,2],.mk (some 25) (.bin .gtr (.tmp 24) (.const (.int .i64 0))) (some (21,true)) [5,2],.mk (some 26) (.pick (.tmp 21) (.tmp 25) (.const (.bool false))) none [2,6]]
def l102r5:List AOper :=
  [.mk (some 29) (.mv (.tmp 0)) none [],.mk (some 30) (.fld 1 (.tmp 3)) none [],.mk (some 31) (.load false 1 (.tmp 30)) none [1],.mk (some 32) (.len (.tmp 31)) none [2],.mk (some 33) (.call 75 [.tmp 29,.tmp 32]) none [0,3],.mk (some 5) (.mv (.tmp 33)) none [4,4,0,1,2,3,4]]
def l102r6:List AOper :=
  [.mk (some 34) (.load true 3 (.tmp 3)) none [],.mk (some 6) (.alloc [.int .i64 0,.slice none 0 0,.slice none 0 0]) none [],.mk none (.store 3 (.tmp 6) (.tmp 34)) none [1,0,0,1]]
def l102r7:List AOper :=
  [.mk (some 7) (.mv (.const (.bool false))) none []]
def l102r8:List AOper :=
  [.mk (some 35) (.mv (.tmp 0)) none [],.mk (some 36) (.call 75 [.tmp 35,.const (.int .i64 6)]) none [0]]
def l102r9:List AOper :=
  [.mk (some 47) (.bin .eql (.tmp 36) (.const (.int .i64 0))) none [],.mk (some 46) (.mv (.tmp 47)) none [0]]
def l102r10a:List AOper :=
  [.mk (some 49) (.load true 3 (.tmp 3)) none [],.mk (some 50) (.mv (.tmp 5)) none [],.mk (some 51) (.mv (.tmp 0)) none [],.mk (some 52) (.call 126 [.tmp 51]) none [2],.mk (some 53) (.call 125 [.tmp 49,.tmp 50,.tmp 52]) none [0,1,3,3],.mk (some 48) (.mv (.tmp 53)) none [4],.mk (some 54) (.extract (.tmp 48) 0) none [5],.mk (some 55) (.extract (.tmp 48) 1) none [5],.mk none (.store 3 (.tmp 6) (.tmp 54)) none [6,4,0,1,2,3,4,5,6]]
def l102r10b:List AOper :=
  [.mk (some 7) (.mv (.tmp 55)) none [7,8,0,1,2,3,4,5,6,7,8]]
def l102r10:List AOper:=l102r10a ++ l102r10b
def l102r11:List AOper :=
  [.mk (some 57) (.bin .eql (.tmp 36) (.const (.int .i64 1))) none [],.mk (some 56) (.mv (.tmp 57)) none [0]]
def l102r12:List AOper :=
  [.mk (some 59) (.load true 3 (.tmp 3)) none [],.mk (some 60) (.mv (.tmp 5)) none [],.mk (some 61) (.call 127 [.tmp 59,.tmp 60]) none [0,1],.mk (some 58) (.mv (.tmp 61)) none [2],.mk (some 62) (.extract (.tmp 58) 0) none [3],.mk (some 63) (.extract (.tmp 58) 1) none [3],.mk none (.store 3 (.tmp 6) (.tmp 62)) none [4,2,0,1,2,3,4],.mk (some 7) (.mv (.tmp 63)) none [5,6,0,1,2,3,4,5,6]]
def l102r13:List AOper :=
  [.mk (some 65) (.bin .eql (.tmp 36) (.const (.int .i64 2))) none [],.mk (some 64) (.mv (.tmp 65)) none [0]]
def l102r14a:List AOper :=
  [.mk (some 67) (.load true 3 (.tmp 3)) none [],.mk (some 68) (.fld 1 (.tmp 3)) none [],.mk (some 69) (.load false 1 (.tmp 68)) none [1],.mk (some 70) (.len (.tmp 69)) none [2],.mk (some 71) (.call 130 [.tmp 70]) none [3],.mk (some 72) (.call 129 [.tmp 71]) none [4,4],.mk (some 73) (.call 128 [.tmp 67,.tmp 72]) none [0,5,5],.mk (some 66) (.mv (.tmp 73)) none [6],.mk (some 74) (.extract (.tmp 66) 0) none [7],.mk (some 75) (.extract (.tmp 66) 1) none [7],.mk none (.store 3 (.tmp 6) (.tmp 74)) none [8,6,0,1,2,3,4,5,6,7,8]]
def l102r14b:List AOper :=
  [.mk (some 7) (.mv (.tmp 75)) none [9,10,0,1,2,3,4,5,6,7,8,9,10]]
def l102r14:List AOper:=l102r14a ++ l102r14b
def l102r15:List AOper :=
  [.mk (some 77) (.bin .eql (.tmp 36) (.const (.int .i64 3))) none [],.mk (some 76) (.mv (.tmp 77)) none [0]]
def l102r16a:List AOper :=
  [.mk (some 79) (.load true 3 (.tmp 3)) none [],.mk (some 80) (.mv (.tmp 5)) none [],.mk (some 81) (.mv (.tmp 0)) none [],.mk (some 82) (.call 75 [.tmp 81,.const (.int .i64 3)]) none [2],.mk (some 83) (.bin .add (.const (.int .i64 1)) (.tmp 82)) none [3],.mk (some 84) (.call 131 [.tmp 79,.tmp 80,.tmp 83]) none [0,1,4,3],.mk (some 78) (.mv (.tmp 84)) none [5],.mk (some 85) (.extract (.tmp 78) 0) none [6],.mk (some 86) (.extract (.tmp 78) 1) none [6],.mk none (.store 3 (.tmp 6) (.tmp 85)) none [7,5,0,1,2,3,4,5,6,7]]
def l102r16b:List AOper :=
  [.mk (some 7) (.mv (.tmp 86)) none [8,9,0,1,2,3,4,5,6,7,8,9]]
def l102r16:List AOper:=l102r16a ++ l102r16b
def l102r17:List AOper :=
  [.mk (some 88) (.bin .eql (.tmp 36) (.const (.int .i64 4))) none [],.mk (some 87) (.mv (.tmp 88)) none [0]]
def l102r18:List AOper :=
  [.mk (some 90) (.load true 3 (.tmp 3)) none [],.mk (some 91) (.mv (.tmp 5)) none [],.mk (some 92) (.call 132 [.tmp 90,.tmp 91]) none [0,1],.mk (some 89) (.mv (.tmp 92)) none [2],.mk (some 93) (.extract (.tmp 89) 0) none [3],.mk (some 94) (.extract (.tmp 89) 1) none [3],.mk none (.store 3 (.tmp 6) (.tmp 93)) none [4,2,0,1,2,3,4],.mk (some 7) (.mv (.tmp 94)) none [5,6,0,1,2,3,4,5,6]]
def l102r19:List AOper :=
  [.mk (some 37) (.load true 3 (.tmp 3)) none [],.mk (some 38) (.call 85 [.tmp 37]) none [0],.mk none (.store 3 (.tmp 6) (.tmp 38)) none [1,1,0,1]]
def l102r20a:List AOper :=
  [.mk (some 39) (.fld 2 (.tmp 6)) none [],.mk (some 40) (.load false 1 (.tmp 39)) none [0],.mk (some 41) (.mv (.tmp 5)) none [],.mk (some 42) (.mv (.tmp 0)) none [],.mk (some 43) (.bslice 1 [.int .i64 0] [(0,.const (.int .i64 0)),(1,.const (.int .i64 2)),(2,.const (.int .i64 3)),(3,.const (.int .i64 1)),(4,.const (.int .i64 (-1))),(5,.const (.int .i64 5))] 6) none [],.mk (some 44) (.call 74 [.tmp 42,.tmp 43]) none [3,4]]
def l102r20b:List AOper :=
  [.mk (some 45) (.idxA 1 (.tmp 40) (.tmp 41)) none [1,2,0,1,2,3,4,5],.mk none (.store 1 (.tmp 45) (.tmp 44)) none [6,5,5,0,1,2,3,4,5]]
def l102r20:List AOper:=l102r20a ++ l102r20b
def l102r21:List AOper :=
  [.mk (some 7) (.mv (.const (.bool true))) none []]
def l102r22:List AOper :=
  [.mk (some 95) (.mv (.tmp 7)) none [],.mk (some 96) (.mv (.tmp 95)) none [0],.mk (some 97) (.load true 3 (.tmp 6)) (some (96,true)) [1],.mk (some 98) (.call 52 [.tmp 97]) (some (96,true)) [2,1,1],.mk (some 99) (.pick (.tmp 96) (.tmp 98) (.const (.bool false))) none [1,3]]
def l102r23:List AOper :=
  [.mk (some 100) (.load true 3 (.tmp 6)) none [],.mk none (.store 3 (.tmp 3) (.tmp 100)) none [0,0]]
def l102r24:List AOper :=
  [.mk (some 27) (.mv (.tmp 4)) none [],.mk (some 28) (.bin .sub (.tmp 27) (.const (.int .i64 1))) none [0],.mk (some 4) (.mv (.tmp 28)) none [1,0,1]]
def l102r25:List AOper :=
  [.mk (some 101) (.load true 3 (.tmp 3)) none [],.mk (some 102) (.call 52 [.tmp 101]) none [0],.mk (some 103) (.un .not (.tmp 102)) none [1]]
def l102r26:List AOper :=
  [.mk (some 104) (.fld 0 (.tmp 3)) none [],.mk none (.store 1 (.tmp 104) (.const (.int .i64 0))) none [0]]
def l102r27:List AOper :=
  [.mk (some 105) (.load true 3 (.tmp 3)) none [],.mk none (.store 3 (.tmp 2) (.tmp 105)) none [0,0]]
def l102:AFn :=
  (AFn.mk 106 1 (.seq (.reg l102r0) (.seq (.reg l102r1) (.seq (.reg l102r2) (.seq (.seq (.reg l102r3) (.block 0 (.loop (.seq (.seq (.reg l102r4) (.cond (.tmp 26) .skip (.exit 0))) (.seq (.block 1 (.seq (.reg l102r5) (.seq (.reg l102r6) (.seq (.reg l102r7) (.seq (.seq (.reg l102r8) (.block 2 (.seq (.reg l102r9) (.cond (.tmp 46) (.draw l102r10) (.seq (.reg l102r11) (.cond (.tmp 56) (.reg l102r12) (.seq (.reg l102r13) (.cond (.tmp 64) (.draw l102r14) (.seq (.reg l102r15) (.cond (.tmp 76) (.draw l102r16) (.seq (.reg l102r17) (.cond (.tmp 87) (.reg l102r18) (.seq (.reg l102r19) (.seq (.draw l102r20) (.reg l102r21))))))))))))))) (.seq (.reg l102r22) (.cond (.tmp 99) (.reg l102r23) .skip))))))) (.reg l102r24)))))) (.seq (.seq (.reg l102r25) (.cond (.tmp 103) (.reg l102r26) .skip)) (.seq (.reg l102r27) .ret)))))) [.cell 2 true 3])
theorem l102_eq:lowFn Try.prog 102=some l102:=by kernel_rfl
def l106r0:List AOper :=
  [.mk (some 2) (.mv (.const (.bool false))) none []]
def l106r1:List AOper :=
  [.mk (some 3) (.mv (.tmp 0)) none [],.mk (some 4) (.len (.tmp 3)) none [0],.mk (some 5) (.bin .leq (.tmp 4) (.const (.int .i64 4))) none [1],.mk (some 6) (.mv (.tmp 5)) none [2],.mk (some 7) (.mv (.tmp 0)) (some (6,true)) [3],.mk (some 8) (.call 70 [.tmp 7,.const (.int .i64 0),.const (.int .i64 60)]) (some (6,true)) [4,3,3],.mk (some 9) (.pick (.tmp 6) (.tmp 8) (.const (.bool false))) none [3,5],.mk (some 10) (.mv (.tmp 9)) none [6,5],.mk (some 11) (.mv (.tmp 0)) (some (10,true)) [7],.mk (some 12) (.call 107 [.tmp 11]) (some (10,true)) [8,7,7],.mk (some 13) (.bin .leq (.tmp 12) (.const (.int .i64 60))) (some (10,true)) [9,7],.mk (some 14) (.pick (.tmp 10) (.tmp 13) (.const (.bool false))) none [7,10],.mk (some 2) (.mv (.tmp 14)) none [11,9,0,1,2,3,4,5,6,7,8,9,10,11]]
def l106:AFn :=
  (AFn.mk 15 1 (.seq (.reg l106r0) (.seq (.reg l106r1) .ret)) [.tmp 2])
theorem l106_eq:lowFn Try.prog 106=some l106:=by kernel_rfl
def l107r0:List AOper :=
  [.mk (some 2) (.mv (.const (.int .i64 0))) none []]
def l107r1:List AOper :=
  [.mk (some 3) (.mv (.const (.int .i64 1))) none []]
def l107r2:List AOper :=
  [.mk (some 4) (.mv (.const (.int .i64 0))) none []]
def l107r3:List AOper :=
  [.mk (some 5) (.mv (.tmp 4)) none [],.mk (some 6) (.mv (.tmp 0)) none [],.mk (some 7) (.len (.tmp 6)) none [1],.mk (some 8) (.bin .lss (.tmp 5) (.tmp 7)) none [0,2]]
def l107r4:List AOper :=
  [.mk (some 11) (.mv (.tmp 3)) none [],.mk (some 12) (.mv (.tmp 0)) none [],.mk (some 13) (.mv (.tmp 4)) none [],.mk (some 14) (.idxA 1 (.tmp 12) (.tmp 13)) none [1,2],.mk (some 15) (.load false 1 (.tmp 14)) none [3],.mk (some 16) (.bin .mul (.tmp 11) (.tmp 15)) none [0,4],.mk (some 3) (.mv (.tmp 16)) none [5,0,1,2,3,4,5]]
def l107r5:List AOper :=
  [.mk (some 9) (.mv (.tmp 4)) none [],.mk (some 10) (.bin .add (.tmp 9) (.const (.int .i64 1))) none [0],.mk (some 4) (.mv (.tmp 10)) none [1,0,1]]
def l107r6:List AOper :=
  [.mk (some 17) (.mv (.tmp 3)) none [],.mk (some 2) (.mv (.tmp 17)) none [0,0]]
def l107:AFn :=
  (AFn.mk 18 1 (.seq (.reg l107r0) (.seq (.reg l107r1) (.seq (.seq (.reg l107r2) (.block 0 (.loop (.seq (.seq (.reg l107r3) (.cond (.tmp 8) .skip (.exit 0))) (.seq (.block 1 (.reg l107r4)) (.reg l107r5)))))) (.seq (.reg l107r6) .ret)))) [.tmp 2])
theorem l107_eq:lowFn Try.prog 107=some l107:=by kernel_rfl
def l108r0:List AOper :=
  [.mk (some 4) (.mv (.const (.bool false))) none []]
def l108r1:List AOper :=
  [.mk (some 5) (.mv (.tmp 1)) none [],.mk (some 6) (.un .neg (.tmp 5)) none [0],.mk (some 7) (.mv (.tmp 0)) none [],.mk (some 8) (.bin .leq (.tmp 6) (.tmp 7)) none [1,2],.mk (some 9) (.mv (.tmp 8)) none [3],.mk (some 10) (.mv (.tmp 0)) (some (9,true)) [4],.mk (some 11) (.mv (.tmp 1)) (some (9,true)) [4],.mk (some 12) (.bin .leq (.tmp 10) (.tmp 11)) (some (9,true)) [5,6,4],.mk (some 13) (.pick (.tmp 9) (.tmp 12) (.const (.bool false))) none [4,7],.mk (some 4) (.mv (.tmp 13)) none [8,4,0,1,2,3,4,5,6,7,8]]
def l108:AFn :=
  (AFn.mk 14 2 (.seq (.reg l108r0) (.seq (.reg l108r1) .ret)) [.tmp 4])
theorem l108_eq:lowFn Try.prog 108=some l108:=by kernel_rfl
def l110r0:List AOper :=
  [.mk (some 1) (.box (.tmp 0)) none [],.mk (some 2) (.mv (.const (.slice none 0 0))) none []]
def l110r1:List AOper :=
  [.mk (some 5) (.bslice 1 [.int .i64 0] [] 0) none [],.mk (some 3) (.mv (.tmp 5)) none [0,0]]
def l110r2:List AOper :=
  [.mk (some 6) (.fld 0 (.tmp 1)) none [],.mk (some 7) (.load false 1 (.tmp 6)) none [0],.mk (some 4) (.mv (.tmp 7)) none [1,0,1]]
def l110r3:List AOper :=
  [.mk (some 8) (.fld 2 (.tmp 1)) none [],.mk (some 9) (.load false 1 (.tmp 8)) none [0],.mk (some 10) (.bin .gtr (.tmp 9) (.const (.int .i64 0))) none [1],.mk (some 11) (.mv (.tmp 10)) none [2],.mk (some 12) (.mv (.tmp 4)) (some (11,true)) [3],.mk (some 13) (.fld 1 (.tmp 1)) (some (11,true)) [3],.mk (some 14) (.load false 1 (.tmp 13)) (some (11,true)) [5,3],.mk (some 15) (.bin .lss (.tmp 12) (.tmp 14)) (some (11,true)) [4,6,3],.mk (some 16) (.pick (.tmp 11) (.tmp 15) (.const (.bool false))) none [3,7],.mk (some 17) (.mv (.tmp 16)) none [8,3],.mk (some 18) (.fld 2 (.tmp 1)) (some (17,false)) [9],.mk (some 19) (.load false 1 (.tmp 18)) (some (17,false)) [10,9],.mk (some 20) (.bin .lss (.tmp 19) (.const (.int .i64 0))) (some (17,false)) [11,9],.mk (some 21) (.mv (.tmp 20)) (some (17,false)) [12,9,9],.mk (some 22) (.mv (.tmp 4)) (some (21,true)) [13],.mk (some 23) (.fld 1 (.tmp 1)) (some (21,true)) [13],.mk (some 24) (.load false 1 (.tmp 23)) (some (21,true)) [15,13],.mk (some 25) (.bin .gtr (.tmp 22) (.tmp 24)) (some (21,true)) [14,16,13],.mk (some 26) (.pick (.tmp 21) (.tmp 25) (.const (.bool false))) (some (17,false)) [13,17,9],.mk (some 27) (.pick (.tmp 17) (.const (.bool true)) (.tmp 26)) none [9,18]]
def l110r4:List AOper :=
  [.mk (some 32) (.mv (.tmp 3)) none [],.mk (some 33) (.mv (.tmp 4)) none [],.mk (some 34) (.bslice 1 [.int .i64 0] [(0,.tmp 33)] 1) none [1],.mk (some 35) (.append 1 (.tmp 32) (.tmp 34)) none [0,2],.mk (some 3) (.mv (.tmp 35)) none [3,3,0,1,2,3]]
def l110r5:List AOper :=
  [.mk (some 28) (.mv (.tmp 4)) none [],.mk (some 29) (.fld 2 (.tmp 1)) none [],.mk (some 30) (.load false 1 (.tmp 29)) none [1],.mk (some 31) (.bin .add (.tmp 28) (.tmp 30)) none [0,2],.mk (some 4) (.mv (.tmp 31)) none [3,0,1,2,3]]
def l110r6:List AOper :=
  [.mk (some 36) (.mv (.tmp 3)) none [],.mk (some 2) (.mv (.tmp 36)) none [0,0]]
def l110:AFn :=
  (AFn.mk 37 1 (.seq (.reg l110r0) (.seq (.reg l110r1) (.seq (.seq (.reg l110r2) (.block 0 (.loop (.seq (.seq (.reg l110r3) (.cond (.tmp 27) .skip (.exit 0))) (.seq (.block 1 (.reg l110r4)) (.reg l110r5)))))) (.seq (.reg l110r6) .ret)))) [.tmp 2])
theorem l110_eq:lowFn Try.prog 110=some l110:=by kernel_rfl
def l112r0:List AOper :=
  [.mk (some 2) (.box (.tmp 0)) none [],.mk (some 4) (.mv (.const (.int .i64 0))) none []]
def l112r1:List AOper :=
  [.mk (some 7) (.fld 0 (.tmp 2)) none [],.mk (some 8) (.load false 1 (.tmp 7)) none [0],.mk (some 5) (.mv (.tmp 8)) none [1,0,1]]
def l112r2:List AOper :=
  [.mk (some 6) (.mv (.const (.int .i64 0))) none []]
def l112r3:List AOper :=
  [.mk (some 9) (.mv (.tmp 6)) none [],.mk (some 10) (.mv (.tmp 1)) none [],.mk (some 11) (.len (.tmp 10)) none [1],.mk (some 12) (.bin .lss (.tmp 9) (.tmp 11)) none [0,2]]
def l112r4a:List AOper :=
  [.mk (some 15) (.mv (.tmp 5)) none [],.mk (some 16) (.mv (.tmp 1)) none [],.mk (some 17) (.mv (.tmp 6)) none [],.mk (some 18) (.idxA 1 (.tmp 16) (.tmp 17)) none [1,2],.mk (some 19) (.load false 1 (.tmp 18)) none [3],.mk (some 20) (.fld 2 (.tmp 2)) none [],.mk (some 21) (.load false 1 (.tmp 20)) none [5],.mk (some 22) (.mv (.tmp 6)) none [],.mk (some 23) (.idxA 1 (.tmp 21) (.tmp 22)) none [6,7],.mk (some 24) (.load false 1 (.tmp 23)) none [8],.mk (some 25) (.bin .mul (.tmp 19) (.tmp 24)) none [4,9]]
def l112r4b:List AOper :=
  [.mk (some 26) (.bin .add (.tmp 15) (.tmp 25)) none [0,10],.mk (some 5) (.mv (.tmp 26)) none [11,0,1,2,3,4,5,6,7,8,9,10,11]]
def l112r4:List AOper:=l112r4a ++ l112r4b
def l112r5:List AOper :=
  [.mk (some 13) (.mv (.tmp 6)) none [],.mk (some 14) (.bin .add (.tmp 13) (.const (.int .i64 1))) none [0],.mk (some 6) (.mv (.tmp 14)) none [1,0,1]]
def l112r6:List AOper :=
  [.mk (some 27) (.mv (.tmp 5)) none [],.mk (some 4) (.mv (.tmp 27)) none [0,0]]
def l112:AFn :=
  (AFn.mk 28 2 (.seq (.reg l112r0) (.seq (.reg l112r1) (.seq (.seq (.reg l112r2) (.block 0 (.loop (.seq (.seq (.reg l112r3) (.cond (.tmp 12) .skip (.exit 0))) (.seq (.block 1 (.draw l112r4)) (.reg l112r5)))))) (.seq (.reg l112r6) .ret)))) [.tmp 4])
theorem l112_eq:lowFn Try.prog 112=some l112:=by kernel_rfl
def l113r0:List AOper :=
  [.mk (some 4) (.mv (.const (.slice none 0 0))) none []]
def l113r1:List AOper :=
  [.mk (some 7) (.mv (.tmp 0)) none [],.mk (some 8) (.len (.tmp 7)) none [0],.mk (some 9) (.mkslice 1 [.int .i64 0] (.tmp 8) (.tmp 8)) none [1,1],.mk (some 5) (.mv (.tmp 9)) none [2,0,1,2]]
def l113r2:List AOper :=
  [.mk (some 10) (.mv (.tmp 0)) none [],.mk (some 11) (.len (.tmp 10)) none [0],.mk (some 12) (.bin .sub (.tmp 11) (.const (.int .i64 1))) none [1],.mk (some 6) (.mv (.tmp 12)) none [2,0,1,2]]
def l113r3:List AOper :=
  [.mk (some 13) (.mv (.tmp 6)) none [],.mk (some 14) (.bin .geq (.tmp 13) (.const (.int .i64 0))) none [0]]
def l113r4:List AOper :=
  [.mk (some 17) (.mv (.tmp 5)) none [],.mk (some 18) (.mv (.tmp 6)) none [],.mk (some 19) (.mv (.tmp 1)) none [],.mk (some 20) (.mv (.tmp 0)) none [],.mk (some 21) (.mv (.tmp 6)) none [],.mk (some 22) (.idxA 1 (.tmp 20) (.tmp 21)) none [3,4],.mk (some 23) (.load false 1 (.tmp 22)) none [5],.mk (some 24) (.bin .rem (.tmp 19) (.tmp 23)) none [2,6],.mk (some 25) (.idxA 1 (.tmp 17) (.tmp 18)) none [0,1,0,1,2,3,4,5,6,7],.mk none (.store 1 (.tmp 25) (.tmp 24)) none [8,7,0,1,2,3,4,5,6,7]]
def l113r5:List AOper :=
  [.mk (some 26) (.mv (.tmp 1)) none [],.mk (some 27) (.mv (.tmp 0)) none [],.mk (some 28) (.mv (.tmp 6)) none [],.mk (some 29) (.idxA 1 (.tmp 27) (.tmp 28)) none [1,2],.mk (some 30) (.load false 1 (.tmp 29)) none [3],.mk (some 31) (.bin .quo (.tmp 26) (.tmp 30)) none [0,4],.mk (some 1) (.mv (.tmp 31)) none [5,0,1,2,3,4,5]]
def l113r6:List AOper :=
  [.mk (some 15) (.mv (.tmp 6)) none [],.mk (some 16) (.bin .sub (.tmp 15) (.const (.int .i64 1))) none [0],.mk (some 6) (.mv (.tmp 16)) none [1,0,1]]
def l113r7:List AOper :=
  [.mk (some 32) (.mv (.tmp 5)) none [],.mk (some 4) (.mv (.tmp 32)) none [0,0]]
def l113:AFn :=
  (AFn.mk 33 2 (.seq (.reg l113r0) (.seq (.reg l113r1) (.seq (.seq (.reg l113r2) (.block 0 (.loop (.seq (.seq (.reg l113r3) (.cond (.tmp 14) .skip (.exit 0))) (.seq (.block 1 (.seq (.reg l113r4) (.reg l113r5))) (.reg l113r6)))))) (.seq (.reg l113r7) .ret)))) [.tmp 4])
theorem l113_eq:lowFn Try.prog 113=some l113:=by kernel_rfl
def l115r0:List AOper :=
  [.mk (some 2) (.mv (.const (.slice none 0 0))) none []]
def l115r1:List AOper :=
  [.mk (some 3) (.bslice 1 [.int .i64 0] [] 0) none [],.mk (some 4) (.mv (.tmp 0)) none [],.mk (some 5) (.append 1 (.tmp 3) (.tmp 4)) none [0,1],.mk (some 2) (.mv (.tmp 5)) none [2,2,0,1,2]]
def l115:AFn :=
  (AFn.mk 6 1 (.seq (.reg l115r0) (.seq (.reg l115r1) .ret)) [.tmp 2])
theorem l115_eq:lowFn Try.prog 115=some l115:=by kernel_rfl
def l116r0:List AOper :=
  [.mk (some 2) (.mv (.const (.slice none 0 0))) none []]
def l116r1:List AOper :=
  [.mk (some 6) (.mv (.tmp 0)) none [],.mk (some 7) (.len (.tmp 6)) none [0],.mk (some 8) (.mkslice 1 [.int .i64 0] (.tmp 7) (.tmp 7)) none [1,1],.mk (some 3) (.mv (.tmp 8)) none [2,0,1,2]]
def l116r2:List AOper :=
  [.mk (some 4) (.mv (.const (.int .i64 1))) none []]
def l116r3:List AOper :=
  [.mk (some 9) (.mv (.tmp 0)) none [],.mk (some 10) (.len (.tmp 9)) none [0],.mk (some 11) (.bin .sub (.tmp 10) (.const (.int .i64 1))) none [1],.mk (some 5) (.mv (.tmp 11)) none [2,0,1,2]]
def l116r4:List AOper :=
  [.mk (some 12) (.mv (.tmp 5)) none [],.mk (some 13) (.bin .geq (.tmp 12) (.const (.int .i64 0))) none [0]]
def l116r5:List AOper :=
  [.mk (some 16) (.mv (.tmp 3)) none [],.mk (some 17) (.mv (.tmp 5)) none [],.mk (some 18) (.mv (.tmp 4)) none [],.mk (some 19) (.idxA 1 (.tmp 16) (.tmp 17)) none [0,1,0,1,2],.mk none (.store 1 (.tmp 19) (.tmp 18)) none [3,2,0,1,2]]
def l116r6:List AOper :=
  [.mk (some 20) (.mv (.tmp 4)) none [],.mk (some 21) (.mv (.tmp 0)) none [],.mk (some 22) (.mv (.tmp 5)) none [],.mk (some 23) (.idxA 1 (.tmp 21) (.tmp 22)) none [1,2],.mk (some 24) (.load false 1 (.tmp 23)) none [3],.mk (some 25) (.bin .mul (.tmp 20) (.tmp 24)) none [0,4],.mk (some 4) (.mv (.tmp 25)) none [5,0,1,2,3,4,5]]
def l116r7:List AOper :=
  [.mk (some 14) (.mv (.tmp 5)) none [],.mk (some 15) (.bin .sub (.tmp 14) (.const (.int .i64 1))) none [0],.mk (some 5) (.mv (.tmp 15)) none [1,0,1]]
def l116r8:List AOper :=
  [.mk (some 26) (.mv (.tmp 3)) none [],.mk (some 2) (.mv (.tmp 26)) none [0,0]]
def l116:AFn :=
  (AFn.mk 27 1 (.seq (.reg l116r0) (.seq (.reg l116r1) (.seq (.reg l116r2) (.seq (.seq (.reg l116r3) (.block 0 (.loop (.seq (.seq (.reg l116r4) (.cond (.tmp 13) .skip (.exit 0))) (.seq (.block 1 (.seq (.reg l116r5) (.reg l116r6))) (.reg l116r7)))))) (.seq (.reg l116r8) .ret))))) [.tmp 2])
theorem l116_eq:lowFn Try.prog 116=some l116:=by kernel_rfl
def l117r0:List AOper :=
  [.mk (some 1) (.box (.tmp 0)) none [],.mk (some 2) (.alloc [.int .i64 0,.slice none 0 0,.slice none 0 0]) none []]
def l117r1:List AOper :=
  [.mk (some 6) (.fld 0 (.tmp 1)) none [],.mk (some 7) (.load true 3 (.tmp 6)) none [0],.mk (some 8) (.fld 3 (.tmp 1)) none [],.mk (some 9) (.load true 4 (.tmp 8)) none [2],.mk (some 10) (.call 93 [.tmp 7,.tmp 9]) none [1,3],.mk (some 11) (.build [.int .i64 0,.slice none 0 0,.slice none 0 0] [(0,1,.tmp 10)]) none [4],.mk (some 3) (.alloc [.int .i64 0,.slice none 0 0,.slice none 0 0]) none [],.mk none (.store 3 (.tmp 3) (.tmp 11)) none [6,5,4,0,1,2,3,4,5,6]]
def l117r2:List AOper :=
  [.mk (some 12) (.fld 7 (.tmp 1)) none [],.mk (some 13) (.load false 1 (.tmp 12)) none [0],.mk (some 14) (.len (.tmp 13)) none [1],.mk (some 15) (.mv (.const (.int .i64 0))) none []]
def l117r3:List AOper :=
  [.mk (some 16) (.bin .lss (.tmp 15) (.tmp 14)) none []]
def l117r4:List AOper :=
  [.mk (some 17) (.idxA 2 (.tmp 13) (.tmp 15)) none [],.mk (some 18) (.load true 2 (.tmp 17)) none [0],.mk (some 5) (.alloc [.int .i64 0,.int .i64 0]) none [],.mk none (.store 2 (.tmp 5) (.tmp 18)) none [2,1,0,1,2]]
def l117r5:List AOper :=
  [.mk (some 19) (.fld 1 (.tmp 3)) none [],.mk (some 20) (.load false 1 (.tmp 19)) none [0],.mk (some 21) (.fld 0 (.tmp 5)) none [],.mk (some 22) (.load false 1 (.tmp 21)) none [2],.mk (some 23) (.bslice 1 [.int .i64 0] [(0,.tmp 22)] 1) none [3],.mk (some 24) (.append 1 (.tmp 20) (.tmp 23)) none [1,4],.mk (some 25) (.fld 1 (.tmp 3)) none [0,1,2,3,4,5],.mk none (.store 1 (.tmp 25) (.tmp 24)) none [6,5,5,0,1,2,3,4,5]]
def l117r6:List AOper :=
  [.mk (some 26) (.fld 2 (.tmp 3)) none [],.mk (some 27) (.load false 1 (.tmp 26)) none [0],.mk (some 28) (.fld 1 (.tmp 5)) none [],.mk (some 29) (.load false 1 (.tmp 28)) none [2],.mk (some 30) (.bslice 1 [.int .i64 0] [(0,.tmp 29)] 1) none [3],.mk (some 31) (.append 1 (.tmp 27) (.tmp 30)) none [1,4],.mk (some 32) (.fld 2 (.tmp 3)) none [0,1,2,3,4,5],.mk none (.store 1 (.tmp 32) (.tmp 31)) none [6,5,5,0,1,2,3,4,5]]
def l117r7:List AOper :=
  [.mk (some 33) (.bin .add (.tmp 15) (.const (.int .i64 1))) none [],.mk (some 15) (.mv (.tmp 33)) none [0]]
def l117r8:List AOper :=
  [.mk (some 34) (.load true 3 (.tmp 3)) none [],.mk none (.store 3 (.tmp 2) (.tmp 34)) none [0,0]]
def l117:AFn :=
  (AFn.mk 35 1 (.seq (.reg l117r0) (.seq (.reg l117r1) (.seq (.seq (.reg l117r2) (.block 0 (.loop (.seq (.reg l117r3) (.seq (.cond (.tmp 16) .skip (.exit 0)) (.seq (.block 1 (.seq (.reg l117r4) (.seq (.reg l117r5) (.reg l117r6)))) (.reg l117r7))))))) (.seq (.reg l117r8) .ret)))) [.cell 2 true 3])
theorem l117_eq:lowFn Try.prog 117=some l117:=by kernel_rfl
def l118r0:List AOper :=
  [.mk (some 2) (.box (.tmp 0)) none [],.mk (some 4) (.mv (.const (.int .i64 0))) none []]
def l118r1:List AOper :=
  [.mk (some 5) (.mv (.const (.int .i64 0))) none []]
def l118r2:List AOper :=
  [.mk (some 8) (.mv (.tmp 1)) none [],.mk (some 9) (.len (.tmp 8)) none [0],.mk (some 10) (.mv (.const (.int .i64 0))) none []]
def l118r3:List AOper :=
  [.mk (some 11) (.bin .lss (.tmp 10) (.tmp 9)) none []]
def l118r4:List AOper :=
  [.mk (some 12) (.mv (.tmp 10)) none [],.mk (some 13) (.idxA 1 (.tmp 8) (.tmp 10)) none [],.mk (some 14) (.load false 1 (.tmp 13)) none [1],.mk (some 6) (.mv (.tmp 12)) none [0,0,1,2],.mk (some 7) (.mv (.tmp 14)) none [2,3,0,1,2,3]]
def l118r5:List AOper :=
  [.mk (some 15) (.mv (.tmp 5)) none [],.mk (some 16) (.mv (.tmp 6)) none [],.mk (some 17) (.idxP 1 4 (.tmp 2) (.tmp 16)) none [1],.mk (some 18) (.load false 1 (.tmp 17)) none [2],.mk (some 19) (.mv (.tmp 7)) none [],.mk (some 20) (.bin .mul (.tmp 18) (.tmp 19)) none [3,4],.mk (some 21) (.bin .add (.tmp 15) (.tmp 20)) none [0,5],.mk (some 5) (.mv (.tmp 21)) none [6,0,1,2,3,4,5,6]]
def l118r6:List AOper :=
  [.mk (some 22) (.bin .add (.tmp 10) (.const (.int .i64 1))) none [],.mk (some 10) (.mv (.tmp 22)) none [0]]
def l118r7:List AOper :=
  [.mk (some 23) (.mv (.tmp 5)) none [],.mk (some 4) (.mv (.tmp 23)) none [0,0]]
def l118:AFn :=
  (AFn.mk 24 2 (.seq (.reg l118r0) (.seq (.reg l118r1) (.seq (.seq (.reg l118r2) (.block 0 (.loop (.seq (.reg l118r3) (.seq (.cond (.tmp 11) .skip (.exit 0)) (.seq (.block 1 (.seq (.reg l118r4) (.reg l118r5))) (.reg l118r6))))))) (.seq (.reg l118r7) .ret)))) [.tmp 4])
theorem l118_eq:lowFn Try.prog 118=some l118:=by kernel_rfl
def l124r0:List AOper :=
  [.mk (some 2) (.mv (.const (.slice none 0 0))) none []]
def l124r1:List AOper :=
  [.mk (some 6) (.bslice 1 [.int .i64 0] [] 0) none [],.mk (some 3) (.mv (.tmp 6)) none [0,0]]
def l124r2:List AOper :=
  [.mk (some 7) (.mv (.tmp 0)) none [],.mk (some 8) (.bslice 1 [.int .i64 0] [(0,.const (.int .i64 2)),(1,.const (.int .i64 1)),(2,.const (.int .i64 3)),(3,.const (.int .i64 2)),(4,.const (.int .i64 0)),(5,.const (.int .i64 4))] 6) none [],.mk (some 9) (.call 74 [.tmp 7,.tmp 8]) none [0,1],.mk (some 4) (.mv (.tmp 9)) none [2,2,0,1,2]]
def l124r3:List AOper :=
  [.mk (some 10) (.mv (.tmp 4)) none [],.mk (some 11) (.bin .gtr (.tmp 10) (.const (.int .i64 0))) none [0]]
def l124r4:List AOper :=
  [.mk (some 14) (.mv (.tmp 0)) none [],.mk (some 15) (.bslice 1 [.int .i64 0] [(0,.const (.int .i64 2)),(1,.const (.int .i64 3)),(2,.const (.int .i64 1)),(3,.const (.int .i64 4)),(4,.const (.int .i64 2)),(5,.const (.int .i64 3)),(6,.const (.int .i64 5)),(7,.const (.int .i64 0))] 8) none [],.mk (some 16) (.call 74 [.tmp 14,.tmp 15]) none [0,1],.mk (some 5) (.mv (.tmp 16)) none [2,2,0,1,2]]
def l124r5:List AOper :=
  [.mk (some 17) (.mv (.tmp 3)) none [],.mk (some 18) (.call 107 [.tmp 17]) none [0],.mk (some 19) (.mv (.tmp 5)) none [],.mk (some 20) (.bin .mul (.tmp 18) (.tmp 19)) none [1,2],.mk (some 21) (.bin .leq (.tmp 20) (.const (.int .i64 60))) none [3]]
def l124r6:List AOper :=
  [.mk (some 22) (.mv (.tmp 3)) none [],.mk (some 23) (.mv (.tmp 5)) none [],.mk (some 24) (.bslice 1 [.int .i64 0] [(0,.tmp 23)] 1) none [1],.mk (some 25) (.append 1 (.tmp 22) (.tmp 24)) none [0,2],.mk (some 3) (.mv (.tmp 25)) none [3,3,0,1,2,3]]
def l124r7:List AOper :=
  [.mk (some 12) (.mv (.tmp 4)) none [],.mk (some 13) (.bin .sub (.tmp 12) (.const (.int .i64 1))) none [0],.mk (some 4) (.mv (.tmp 13)) none [1,0,1]]
def l124r8:List AOper :=
  [.mk (some 26) (.mv (.tmp 3)) none [],.mk (some 2) (.mv (.tmp 26)) none [0,0]]
def l124:AFn :=
  (AFn.mk 27 1 (.seq (.reg l124r0) (.seq (.reg l124r1) (.seq (.seq (.reg l124r2) (.block 0 (.loop (.seq (.seq (.reg l124r3) (.cond (.tmp 11) .skip (.exit 0))) (.seq (.block 1 (.seq (.reg l124r4) (.seq (.reg l124r5) (.cond (.tmp 21) (.reg l124r6) .skip)))) (.reg l124r7)))))) (.seq (.reg l124r8) .ret)))) [.tmp 2])
theorem l124_eq:lowFn Try.prog 124=some l124:=by kernel_rfl
def l125r0:List AOper :=
  [.mk (some 3) (.box (.tmp 0)) none [],.mk (some 5) (.box (.tmp 2)) none [],.mk (some 6) (.alloc [.int .i64 0,.slice none 0 0,.slice none 0 0]) none [],.mk (some 7) (.mv (.const (.bool false))) none []]
def l125r1:List AOper :=
  [.mk (some 8) (.load true 3 (.tmp 3)) none [],.mk (some 9) (.call 52 [.tmp 8]) none [0],.mk (some 10) (.un .not (.tmp 9)) none [1],.mk (some 11) (.mv (.tmp 10)) none [2,1],.mk (some 12) (.load true 3 (.tmp 3)) (some (11,false)) [3],.mk (some 13) (.mv (.tmp 1)) (some (11,false)) [3],.mk (some 14) (.call 84 [.tmp 12,.tmp 13]) (some (11,false)) [4,5,3,3],.mk (some 15) (.un .not (.tmp 14)) (some (11,false)) [6,3],.mk (some 16) (.pick (.tmp 11) (.const (.bool true)) (.tmp 15)) none [3,7],.mk (some 17) (.mv (.tmp 16)) none [8,6],.mk (some 18) (.load true 5 (.tmp 5)) (some (17,false)) [9],.mk (some 19) (.call 140 [.tmp 18]) (some (17,false)) [10,9,9],.mk (some 20) (.un .not (.tmp 19)) (some (17,false)) [11,9],.mk (some 21) (.pick (.tmp 17) (.const (.bool true)) (.tmp 20)) none [9,12]]
def l125r2:List AOper :=
  [.mk (some 22) (.build [.int .i64 0,.slice none 0 0,.slice none 0 0] []) none [],.mk none (.store 3 (.tmp 6) (.tmp 22)) none [0,0],.mk (some 7) (.mv (.const (.bool false))) none [1,0,1]]
def l125r3:List AOper :=
  [.mk (some 23) (.load true 3 (.tmp 3)) none [],.mk (some 24) (.mv (.tmp 1)) none [],.mk (some 25) (.load true 5 (.tmp 5)) none [],.mk (some 26) (.call 141 [.tmp 23,.tmp 24,.tmp 25]) none [0,1,2],.mk (some 27) (.call 87 [.tmp 26]) none [3,3],.mk (some 28) (.extract (.tmp 27) 0) none [4],.mk (some 29) (.extract (.tmp 27) 1) none [4],.mk none (.store 3 (.tmp 6) (.tmp 28)) none [5,4,0,1,2,3,4,5,6],.mk (some 7) (.mv (.tmp 29)) none [6,7,0,1,2,3,4,5,6,7]]
def l125:AFn :=
  (AFn.mk 30 3 (.seq (.reg l125r0) (.seq (.seq (.reg l125r1) (.cond (.tmp 21) (.seq (.reg l125r2) .ret) .skip)) (.seq (.reg l125r3) .ret))) [.cell 6 true 3,.tmp 7])
theorem l125_eq:lowFn Try.prog 125=some l125:=by kernel_rfl
def l126r0:List AOper :=
  [.mk (some 2) (.alloc [.int .i64 0,.int .i64 0,.int .i64 0,.bool false,.bool false]) none []]
def l126r1:List AOper :=
  [.mk (some 4) (.mv (.tmp 0)) none [],.mk (some 5) (.bslice 1 [.int .i64 0] [(0,.const (.int .i64 1)),(1,.const (.int .i64 2)),(2,.const (.int .i64 (-1))),(3,.const (.int .i64 3)),(4,.const (.int .i64 (-2))),(5,.const (.int .i64 1)),(6,.const (.int .i64 5))] 7) none [],.mk (some 6) (.call 74 [.tmp 4,.tmp 5]) none [0,1],.mk (some 7) (.build [.int .i64 0,.int .i64 0,.int .i64 0,.bool false,.bool false] [(2,1,.tmp 6)]) none [2],.mk (some 3) (.alloc [.int .i64 0,.int .i64 0,.int .i64 0,.bool false,.bool false]) none [],.mk none (.store 5 (.tmp 3) (.tmp 7)) none [4,3,2,0,1,2,3,4]]
def l126r2:List AOper :=
  [.mk (some 8) (.mv (.tmp 0)) none [],.mk (some 9) (.call 75 [.tmp 8,.const (.int .i64 2)]) none [0],.mk (some 10) (.bin .eql (.tmp 9) (.const (.int .i64 0))) none [1]]
def l126r3:List AOper :=
  [.mk (some 11) (.fld 3 (.tmp 3)) none [],.mk none (.store 1 (.tmp 11) (.const (.bool true))) none [0]]
def l126r4:List AOper :=
  [.mk (some 12) (.mv (.tmp 0)) none [],.mk (some 13) (.mv (.tmp 0)) none [],.mk (some 14) (.call 75 [.tmp 13,.const (.int .i64 12)]) none [1],.mk (some 15) (.bslice 1 [.int .i64 0] [(0,.const (.int .i64 1)),(1,.const (.int .i64 2)),(2,.const (.int .i64 0)),(3,.const (.int .i64 (-1))),(4,.const (.int .i64 (-3))),(5,.tmp 14),(6,.const (.int .i64 30)),(7,.const (.int .i64 (-30)))] 8) none [2],.mk (some 16) (.call 74 [.tmp 12,.tmp 15]) none [0,3,2],.mk (some 17) (.fld 0 (.tmp 3)) none [0,1,2,3,4],.mk none (.store 1 (.tmp 17) (.tmp 16)) none [5,4,4,0,1,2,3,4]]
def l126r5:List AOper :=
  [.mk (some 18) (.mv (.tmp 0)) none [],.mk (some 19) (.call 75 [.tmp 18,.const (.int .i64 2)]) none [0],.mk (some 20) (.bin .eql (.tmp 19) (.const (.int .i64 0))) none [1]]
def l126r6:List AOper :=
  [.mk (some 21) (.fld 4 (.tmp 3)) none [],.mk none (.store 1 (.tmp 21) (.const (.bool true))) none [0]]
def l126r7:List AOper :=
  [.mk (some 22) (.mv (.tmp 0)) none [],.mk (some 23) (.mv (.tmp 0)) none [],.mk (some 24) (.call 75 [.tmp 23,.const (.int .i64 12)]) none [1],.mk (some 25) (.bslice 1 [.int .i64 0] [(0,.const (.int .i64 4)),(1,.const (.int .i64 3)),(2,.const (.int .i64 (-1))),(3,.const (.int .i64 (-2))),(4,.const (.int .i64 0)),(5,.tmp 24),(6,.const (.int .i64 30)),(7,.const (.int .i64 (-30)))] 8) none [2],.mk (some 26) (.call 74 [.tmp 22,.tmp 25]) none [0,3,2],.mk (some 27) (.fld 1 (.tmp 3)) none [0,1,2,3,4],.mk none (.store 1 (.tmp 27) (.tmp 26)) none [5,4,4,0,1,2,3,4]]
def l126r8:List AOper :=
  [.mk (some 28) (.mv (.tmp 0)) none [],.mk (some 29) (.call 75 [.tmp 28,.const (.int .i64 24)]) none [0]]
def l126r9:List AOper :=
  [.mk (some 31) (.bin .eql (.tmp 29) (.const (.int .i64 0))) none [],.mk (some 30) (.mv (.tmp 31)) none [0]]
def l126r10:List AOper :=
  [.mk (some 32) (.mv (.tmp 0)) none [],.mk (some 33) (.bslice 1 [.int .i64 0] [(0,.const (.int .i64 0)),(1,.const (.int .i64 201))] 2) none [],.mk (some 34) (.call 74 [.tmp 32,.tmp 33]) none [0,1],.mk (some 35) (.fld 2 (.tmp 3)) none [0,1,2],.mk none (.store 1 (.tmp 35) (.tmp 34)) none [3,2,2,0,1,2]]
def l126r11:List AOper :=
  [.mk (some 37) (.bin .eql (.tmp 29) (.const (.int .i64 1))) none [],.mk (some 36) (.mv (.tmp 37)) none [0]]
def l126r12:List AOper :=
  [.mk (some 38) (.fld 0 (.tmp 3)) none [],.mk none (.store 1 (.tmp 38) (.const (.int .i64 101))) none [0]]
def l126r13:List AOper :=
  [.mk (some 40) (.bin .eql (.tmp 29) (.const (.int .i64 2))) none [],.mk (some 39) (.mv (.tmp 40)) none [0]]
def l126r14:List AOper :=
  [.mk (some 41) (.mv (.tmp 0)) none [],.mk (some 42) (.bslice 1 [.int .i64 0] [(0,.const (.int .i64 1)),(1,.const (.int .i64 (-101)))] 2) none [],.mk (some 43) (.call 74 [.tmp 41,.tmp 42]) none [0,1],.mk (some 44) (.fld 1 (.tmp 3)) none [0,1,2],.mk none (.store 1 (.tmp 44) (.tmp 43)) none [3,2,2,0,1,2]]
def l126r15:List AOper :=
  [.mk (some 45) (.load true 5 (.tmp 3)) none [],.mk none (.store 5 (.tmp 2) (.tmp 45)) none [0,0]]
def l126:AFn :=
  (AFn.mk 46 1 (.seq (.reg l126r0) (.seq (.reg l126r1) (.seq (.seq (.reg l126r2) (.cond (.tmp 10) (.seq (.reg l126r3) (.reg l126r4)) .skip)) (.seq (.seq (.reg l126r5) (.cond (.tmp 20) (.seq (.reg l126r6) (.reg l126r7)) .skip)) (.seq (.seq (.reg l126r8) (.block 0 (.seq (.reg l126r9) (.cond (.tmp 30) (.reg l126r10) (.seq (.reg l126r11) (.cond (.tmp 36) (.reg l126r12) (.seq (.reg l126r13) (.cond (.tmp 39) (.reg l126r14) .skip)))))))) (.seq (.reg l126r15) .ret)))))) [.cell 2 true 5])
theorem l126_eq:lowFn Try.prog 126=some l126:=by kernel_rfl
def l127r0:List AOper :=
  [.mk (some 2) (.box (.tmp 0)) none [],.mk (some 4) (.alloc [.int .i64 0,.slice none 0 0,.slice none 0 0]) none [],.mk (some 5) (.mv (.const (.bool false))) none []]
def l127r1:List AOper :=
  [.mk (some 6) (.load true 3 (.tmp 2)) none [],.mk (some 7) (.mv (.tmp 1)) none [],.mk (some 8) (.build [.int .i64 0,.int .i64 0,.int .i64 0,.bool false,.bool false] [(2,1,.const (.int .i64 (-1)))]) none [],.mk (some 9) (.call 125 [.tmp 6,.tmp 7,.tmp 8]) none [0,1,2],.mk (some 10) (.extract (.tmp 9) 0) none [3],.mk (some 11) (.extract (.tmp 9) 1) none [3],.mk none (.store 3 (.tmp 4) (.tmp 10)) none [4,3,0,1,2,3,4,5],.mk (some 5) (.mv (.tmp 11)) none [5,6,0,1,2,3,4,5,6]]
def l127:AFn :=
  (AFn.mk 12 2 (.seq (.reg l127r0) (.seq (.reg l127r1) .ret)) [.cell 4 true 3,.tmp 5])
theorem l127_eq:lowFn Try.prog 127=some l127:=by kernel_rfl
def l128r0:List AOper :=
  [.mk (some 2) (.box (.tmp 0)) none [],.mk (some 4) (.alloc [.int .i64 0,.slice none 0 0,.slice none 0 0]) none [],.mk (some 5) (.mv (.const (.bool false))) none []]
def l128r1:List AOper :=
  [.mk (some 6) (.load true 3 (.tmp 2)) none [],.mk (some 7) (.call 52 [.tmp 6]) none [0],.mk (some 8) (.un .not (.tmp 7)) none [1],.mk (some 9) (.mv (.tmp 8)) none [2,1],.mk (some 10) (.mv (.tmp 1)) (some (9,false)) [3],.mk (some 11) (.fld 1 (.tmp 2)) (some (9,false)) [3],.mk (some 12) (.load false 1 (.tmp 11)) (some (9,false)) [5,3],.mk (some 13) (.len (.tmp 12)) (some (9,false)) [6,3],.mk (some 14) (.call 142 [.tmp 10,.tmp 13]) (some (9,false)) [4,7,3,3],.mk (some 15) (.un .not (.tmp 14)) (some (9,false)) [8,3],.mk (some 16) (.pick (.tmp 9) (.const (.bool true)) (.tmp 15)) none [3,9]]
def l128r2:List AOper :=
  [.mk (some 17) (.build [.int .i64 0,.slice none 0 0,.slice none 0 0] []) none [],.mk none (.store 3 (.tmp 4) (.tmp 17)) none [0,0],.mk (some 5) (.mv (.const (.bool false))) none [1,0,1]]
def l128r3:List AOper :=
  [.mk (some 18) (.load true 3 (.tmp 2)) none [],.mk (some 19) (.mv (.tmp 1)) none [],.mk (some 20) (.call 143 [.tmp 18,.tmp 19]) none [0,1],.mk (some 21) (.call 87 [.tmp 20]) none [2,2],.mk (some 22) (.extract (.tmp 21) 0) none [3],.mk (some 23) (.extract (.tmp 21) 1) none [3],.mk none (.store 3 (.tmp 4) (.tmp 22)) none [4,3,0,1,2,3,4,5],.mk (some 5) (.mv (.tmp 23)) none [5,6,0,1,2,3,4,5,6]]
def l128:AFn :=
  (AFn.mk 24 2 (.seq (.reg l128r0) (.seq (.seq (.reg l128r1) (.cond (.tmp 16) (.seq (.reg l128r2) .ret) .skip)) (.seq (.reg l128r3) .ret))) [.cell 4 true 3,.tmp 5])
theorem l128_eq:lowFn Try.prog 128=some l128:=by kernel_rfl
def l129r0:List AOper :=
  [.mk (some 2) (.mv (.const (.slice none 0 0))) none []]
def l129r1:List AOper :=
  [.mk (some 5) (.bslice 1 [.int .i64 0] [] 0) none [],.mk (some 3) (.mv (.tmp 5)) none [0,0]]
def l129r2:List AOper :=
  [.mk (some 6) (.mv (.tmp 0)) none [],.mk (some 7) (.len (.tmp 6)) none [0],.mk (some 8) (.bin .sub (.tmp 7) (.const (.int .i64 1))) none [1],.mk (some 4) (.mv (.tmp 8)) none [2,0,1,2]]
def l129r3:List AOper :=
  [.mk (some 9) (.mv (.tmp 4)) none [],.mk (some 10) (.bin .geq (.tmp 9) (.const (.int .i64 0))) none [0]]
def l129r4:List AOper :=
  [.mk (some 13) (.mv (.tmp 3)) none [],.mk (some 14) (.mv (.tmp 0)) none [],.mk (some 15) (.mv (.tmp 4)) none [],.mk (some 16) (.idxA 1 (.tmp 14) (.tmp 15)) none [1,2],.mk (some 17) (.load false 1 (.tmp 16)) none [3],.mk (some 18) (.bslice 1 [.int .i64 0] [(0,.tmp 17)] 1) none [4],.mk (some 19) (.append 1 (.tmp 13) (.tmp 18)) none [0,5],.mk (some 3) (.mv (.tmp 19)) none [6,6,0,1,2,3,4,5,6]]
def l129r5:List AOper :=
  [.mk (some 11) (.mv (.tmp 4)) none [],.mk (some 12) (.bin .sub (.tmp 11) (.const (.int .i64 1))) none [0],.mk (some 4) (.mv (.tmp 12)) none [1,0,1]]
def l129r6:List AOper :=
  [.mk (some 20) (.mv (.tmp 3)) none [],.mk (some 2) (.mv (.tmp 20)) none [0,0]]
def l129:AFn :=
  (AFn.mk 21 1 (.seq (.reg l129r0) (.seq (.reg l129r1) (.seq (.seq (.reg l129r2) (.block 0 (.loop (.seq (.seq (.reg l129r3) (.cond (.tmp 10) .skip (.exit 0))) (.seq (.block 1 (.reg l129r4)) (.reg l129r5)))))) (.seq (.reg l129r6) .ret)))) [.tmp 2])
theorem l129_eq:lowFn Try.prog 129=some l129:=by kernel_rfl
def l130r0:List AOper :=
  [.mk (some 2) (.mv (.const (.slice none 0 0))) none []]
def l130r1:List AOper :=
  [.mk (some 5) (.bslice 1 [.int .i64 0] [] 0) none [],.mk (some 3) (.mv (.tmp 5)) none [0,0]]
def l130r2:List AOper :=
  [.mk (some 4) (.mv (.const (.int .i64 0))) none []]
def l130r3:List AOper :=
  [.mk (some 6) (.mv (.tmp 4)) none [],.mk (some 7) (.mv (.tmp 0)) none [],.mk (some 8) (.bin .lss (.tmp 6) (.tmp 7)) none [0,1]]
def l130r4:List AOper :=
  [.mk (some 11) (.mv (.tmp 3)) none [],.mk (some 12) (.mv (.tmp 4)) none [],.mk (some 13) (.bslice 1 [.int .i64 0] [(0,.tmp 12)] 1) none [1],.mk (some 14) (.append 1 (.tmp 11) (.tmp 13)) none [0,2],.mk (some 3) (.mv (.tmp 14)) none [3,3,0,1,2,3]]
def l130r5:List AOper :=
  [.mk (some 9) (.mv (.tmp 4)) none [],.mk (some 10) (.bin .add (.tmp 9) (.const (.int .i64 1))) none [0],.mk (some 4) (.mv (.tmp 10)) none [1,0,1]]
def l130r6:List AOper :=
  [.mk (some 15) (.mv (.tmp 3)) none [],.mk (some 2) (.mv (.tmp 15)) none [0,0]]
def l130:AFn :=
  (AFn.mk 16 1 (.seq (.reg l130r0) (.seq (.reg l130r1) (.seq (.seq (.reg l130r2) (.block 0 (.loop (.seq (.seq (.reg l130r3) (.cond (.tmp 8) .skip (.exit 0))) (.seq (.block 1 (.reg l130r4)) (.reg l130r5)))))) (.seq (.reg l130r6) .ret)))) [.tmp 2])
theorem l130_eq:lowFn Try.prog 130=some l130:=by kernel_rfl
def l131r0:List AOper :=
  [.mk (some 3) (.box (.tmp 0)) none [],.mk (some 6) (.alloc [.int .i64 0,.slice none 0 0,.slice none 0 0]) none [],.mk (some 7) (.mv (.const (.bool false))) none []]
def l131r1:List AOper :=
  [.mk (some 9) (.load true 3 (.tmp 3)) none [],.mk (some 10) (.call 52 [.tmp 9]) none [0],.mk (some 11) (.un .not (.tmp 10)) none [1],.mk (some 12) (.mv (.tmp 11)) none [2,1],.mk (some 13) (.load true 3 (.tmp 3)) (some (12,false)) [3],.mk (some 14) (.mv (.tmp 1)) (some (12,false)) [3],.mk (some 15) (.call 84 [.tmp 13,.tmp 14]) (some (12,false)) [4,5,3,3],.mk (some 16) (.un .not (.tmp 15)) (some (12,false)) [6,3],.mk (some 17) (.pick (.tmp 12) (.const (.bool true)) (.tmp 16)) none [3,7],.mk (some 18) (.mv (.tmp 17)) none [8,6],.mk (some 19) (.mv (.tmp 2)) (some (18,false)) [9],.mk (some 20) (.fld 1 (.tmp 3)) (some (18,false)) [9],.mk (some 21) (.load false 1 (.tmp 20)) (some (18,false)) [11,9],.mk (some 22) (.mv (.tmp 1)) (some (18,false)) [9],.mk (some 23) (.idxA 1 (.tmp 21) (.tmp 22)) (some (18,false)) [12,13,9],.mk (some 24) (.load false 1 (.tmp 23)) (some (18,false)) [14,9],.mk (some 25) (.call 67 [.tmp 19,.const (.int .i64 1),.tmp 24]) (some (18,false)) [10,15,9,9],.mk (some 26) (.un .not (.tmp 25)) (some (18,false)) [16,9],.mk (some 27) (.pick (.tmp 18) (.const (.bool true)) (.tmp 26)) none [9,17]]
def l131r2:List AOper :=
  [.mk (some 28) (.build [.int .i64 0,.slice none 0 0,.slice none 0 0] []) none [],.mk none (.store 3 (.tmp 6) (.tmp 28)) none [0,0],.mk (some 7) (.mv (.const (.bool false))) none [1,0,1]]
def l131r3:List AOper :=
  [.mk (some 29) (.load true 3 (.tmp 3)) none [],.mk (some 30) (.call 85 [.tmp 29]) none [0],.mk (some 8) (.alloc [.int .i64 0,.slice none 0 0,.slice none 0 0]) none [],.mk none (.store 3 (.tmp 8) (.tmp 30)) none [2,1,1,0,1,2]]
def l131r4a:List AOper :=
  [.mk (some 31) (.fld 1 (.tmp 8)) none [],.mk (some 32) (.load false 1 (.tmp 31)) none [0],.mk (some 33) (.mv (.tmp 1)) none [],.mk (some 34) (.fld 1 (.tmp 3)) none [],.mk (some 35) (.load false 1 (.tmp 34)) none [3],.mk (some 36) (.mv (.tmp 1)) none [],.mk (some 37) (.idxA 1 (.tmp 35) (.tmp 36)) none [4,5],.mk (some 38) (.load false 1 (.tmp 37)) none [6],.mk (some 39) (.mv (.tmp 2)) none [],.mk (some 40) (.bin .sub (.tmp 38) (.tmp 39)) none [7,8],.mk (some 41) (.bin .add (.tmp 40) (.const (.int .i64 1))) none [9]]
def l131r4b:List AOper :=
  [.mk (some 42) (.idxA 1 (.tmp 32) (.tmp 33)) none [1,2,0,1,2,3,4,5,6,7,8,9,10],.mk none (.store 1 (.tmp 42) (.tmp 41)) none [11,10,0,1,2,3,4,5,6,7,8,9,10]]
def l131r4:List AOper:=l131r4a ++ l131r4b
def l131r5:List AOper :=
  [.mk (some 43) (.fld 1 (.tmp 8)) none [],.mk (some 44) (.load false 1 (.tmp 43)) none [0],.mk (some 45) (.mv (.tmp 2)) none [],.mk (some 46) (.bslice 1 [.int .i64 0] [(0,.tmp 45)] 1) none [2],.mk (some 47) (.append 1 (.tmp 44) (.tmp 46)) none [1,3],.mk (some 48) (.fld 1 (.tmp 8)) none [0,1,2,3,4],.mk none (.store 1 (.tmp 48) (.tmp 47)) none [5,4,4,0,1,2,3,4]]
def l131r6a:List AOper :=
  [.mk (some 49) (.fld 2 (.tmp 8)) none [],.mk (some 50) (.load false 1 (.tmp 49)) none [0],.mk (some 51) (.fld 2 (.tmp 3)) none [],.mk (some 52) (.load false 1 (.tmp 51)) none [2],.mk (some 53) (.mv (.tmp 1)) none [],.mk (some 54) (.idxA 1 (.tmp 52) (.tmp 53)) none [3,4],.mk (some 55) (.load false 1 (.tmp 54)) none [5],.mk (some 56) (.bslice 1 [.int .i64 0] [(0,.tmp 55)] 1) none [6]]
def l131r6b:List AOper :=
  [.mk (some 57) (.append 1 (.tmp 50) (.tmp 56)) none [1,7],.mk (some 58) (.fld 2 (.tmp 8)) none [0,1,2,3,4,5,6,7,8],.mk none (.store 1 (.tmp 58) (.tmp 57)) none [9,8,8,0,1,2,3,4,5,6,7,8]]
def l131r6:List AOper:=l131r6a ++ l131r6b
def l131r7:List AOper :=
  [.mk (some 59) (.load true 3 (.tmp 8)) none [],.mk (some 60) (.call 87 [.tmp 59]) none [0],.mk (some 61) (.extract (.tmp 60) 0) none [1],.mk (some 62) (.extract (.tmp 60) 1) none [1],.mk none (.store 3 (.tmp 6) (.tmp 61)) none [2,1,0,1,2,3],.mk (some 7) (.mv (.tmp 62)) none [3,4,0,1,2,3,4]]
def l131:AFn :=
  (AFn.mk 63 3 (.seq (.reg l131r0) (.seq (.seq (.reg l131r1) (.cond (.tmp 27) (.seq (.reg l131r2) .ret) .skip)) (.seq (.reg l131r3) (.seq (.draw l131r4) (.seq (.reg l131r5) (.seq (.draw l131r6) (.seq (.reg l131r7) .ret))))))) [.cell 6 true 3,.tmp 7])
theorem l131_eq:lowFn Try.prog 131=some l131:=by kernel_rfl
def l132r0:List AOper :=
  [.mk (some 2) (.box (.tmp 0)) none [],.mk (some 4) (.alloc [.int .i64 0,.slice none 0 0,.slice none 0 0]) none [],.mk (some 5) (.mv (.const (.bool false))) none []]
def l132r1:List AOper :=
  [.mk (some 6) (.load true 3 (.tmp 2)) none [],.mk (some 7) (.call 52 [.tmp 6]) none [0],.mk (some 8) (.un .not (.tmp 7)) none [1],.mk (some 9) (.mv (.tmp 8)) none [2,1],.mk (some 10) (.mv (.tmp 1)) (some (9,false)) [3],.mk (some 11) (.fld 1 (.tmp 2)) (some (9,false)) [3],.mk (some 12) (.load false 1 (.tmp 11)) (some (9,false)) [5,3],.mk (some 13) (.len (.tmp 12)) (some (9,false)) [6,3],.mk (some 14) (.call 67 [.tmp 10,.const (.int .i64 0),.tmp 13]) (some (9,false)) [4,7,3,3],.mk (some 15) (.un .not (.tmp 14)) (some (9,false)) [8,3],.mk (some 16) (.pick (.tmp 9) (.const (.bool true)) (.tmp 15)) none [3,9],.mk (some 17) (.mv (.tmp 16)) none [10,8],.mk (some 18) (.fld 1 (.tmp 2)) (some (17,false)) [11],.mk (some 19) (.load false 1 (.tmp 18)) (some (17,false)) [12,11],.mk (some 20) (.len (.tmp 19)) (some (17,false)) [13,11],.mk (some 21) (.bin .eql (.tmp 20) (.const (.int .i64 4))) (some (17,false)) [14,11],.mk (some 22) (.pick (.tmp 17) (.const (.bool true)) (.tmp 21)) none [11,15]]
def l132r2:List AOper :=
  [.mk (some 23) (.build [.int .i64 0,.slice none 0 0,.slice none 0 0] []) none [],.mk none (.store 3 (.tmp 4) (.tmp 23)) none [0,0],.mk (some 5) (.mv (.const (.bool false))) none [1,0,1]]
def l132r3a:List AOper :=
  [.mk (some 24) (.fld 0 (.tmp 2)) none [],.mk (some 25) (.load false 1 (.tmp 24)) none [0],.mk (some 26) (.fld 1 (.tmp 2)) none [],.mk (some 27) (.load false 1 (.tmp 26)) none [2],.mk (some 28) (.mv (.tmp 1)) none [],.mk (some 29) (.call 144 [.tmp 27,.tmp 28,.const (.int .i64 1)]) none [3,4],.mk (some 30) (.fld 2 (.tmp 2)) none [],.mk (some 31) (.load false 1 (.tmp 30)) none [6],.mk (some 32) (.mv (.tmp 1)) none [],.mk (some 33) (.call 144 [.tmp 31,.tmp 32,.const (.int .i64 0)]) none [7,8,5],.mk (some 34) (.build [.int .i64 0,.slice none 0 0,.slice none 0 0] [(0,1,.tmp 25),(1,1,.tmp 29),(2,1,.tmp 33)]) none [1,5,9],.mk (some 35) (.call 87 [.tmp 34]) none [10,9],.mk (some 36) (.extract (.tmp 35) 0) none [11],.mk (some 37) (.extract (.tmp 35) 1) none [11]]
def l132r3b:List AOper :=
  [.mk none (.store 3 (.tmp 4) (.tmp 36)) none [12,11,0,1,2,3,4,5,6,7,8,9,10,11,12,13],.mk (some 5) (.mv (.tmp 37)) none [13,14,0,1,2,3,4,5,6,7,8,9,10,11,12,13,14]]
def l132r3:List AOper:=l132r3a ++ l132r3b
def l132:AFn :=
  (AFn.mk 38 2 (.seq (.reg l132r0) (.seq (.seq (.reg l132r1) (.cond (.tmp 22) (.seq (.reg l132r2) .ret) .skip)) (.seq (.draw l132r3) .ret))) [.cell 4 true 3,.tmp 5])
theorem l132_eq:lowFn Try.prog 132=some l132:=by kernel_rfl
def l134r0:List AOper :=
  [.mk (some 2) (.alloc [.int .i64 0,.int .i64 0,.int .i64 0]) none []]
def l134r1:List AOper :=
  [.mk (some 5) (.mv (.tmp 0)) none [],.mk (some 6) (.len (.tmp 5)) none [0]]
def l134r2:List AOper :=
  [.mk (some 8) (.bin .eql (.tmp 6) (.const (.int .i64 0))) none [],.mk (some 7) (.mv (.tmp 8)) none [0]]
def l134r3:List AOper :=
  [.mk (some 9) (.build [.int .i64 0,.int .i64 0,.int .i64 0] [(0,1,.const (.int .i64 0)),(1,1,.const (.int .i64 0)),(2,1,.const (.int .i64 1))]) none [],.mk none (.store 3 (.tmp 2) (.tmp 9)) none [0,0]]
def l134r4:List AOper :=
  [.mk (some 11) (.bin .eql (.tmp 6) (.const (.int .i64 1))) none [],.mk (some 10) (.mv (.tmp 11)) none [0]]
def l134r5a:List AOper :=
  [.mk (some 12) (.mv (.tmp 0)) none [],.mk (some 13) (.idxA 1 (.tmp 12) (.const (.int .i64 0))) none [0],.mk (some 14) (.load false 1 (.tmp 13)) none [1],.mk (some 15) (.mv (.tmp 0)) none [],.mk (some 16) (.idxA 1 (.tmp 15) (.const (.int .i64 0))) none [3],.mk (some 17) (.load false 1 (.tmp 16)) none [4],.mk (some 18) (.bin .add (.tmp 17) (.const (.int .i64 1))) none [5]]
def l134r5b:List AOper :=
  [.mk (some 19) (.build [.int .i64 0,.int .i64 0,.int .i64 0] [(0,1,.tmp 14),(1,1,.tmp 18),(2,1,.const (.int .i64 1))]) none [2,6],.mk none (.store 3 (.tmp 2) (.tmp 19)) none [7,0,1,2,3,4,5,6,7]]
def l134r5:List AOper:=l134r5a ++ l134r5b
def l134r6a:List AOper :=
  [.mk (some 20) (.mv (.tmp 0)) none [],.mk (some 21) (.idxA 1 (.tmp 20) (.const (.int .i64 1))) none [0],.mk (some 22) (.load false 1 (.tmp 21)) none [1],.mk (some 23) (.mv (.tmp 0)) none [],.mk (some 24) (.idxA 1 (.tmp 23) (.const (.int .i64 0))) none [3],.mk (some 25) (.load false 1 (.tmp 24)) none [4]]
def l134r6b:List AOper :=
  [.mk (some 26) (.bin .sub (.tmp 22) (.tmp 25)) none [2,5],.mk (some 3) (.mv (.tmp 26)) none [6,0,1,2,3,4,5,6]]
def l134r6:List AOper:=l134r6a ++ l134r6b
def l134r7:List AOper :=
  [.mk (some 27) (.mv (.tmp 0)) none [],.mk (some 28) (.mv (.tmp 0)) none [],.mk (some 29) (.len (.tmp 28)) none [1],.mk (some 30) (.bin .sub (.tmp 29) (.const (.int .i64 1))) none [2],.mk (some 31) (.idxA 1 (.tmp 27) (.tmp 30)) none [0,3],.mk (some 32) (.load false 1 (.tmp 31)) none [4],.mk (some 33) (.bin .add (.tmp 32) (.const (.int .i64 1))) none [5],.mk (some 4) (.mv (.tmp 33)) none [6,0,1,2,3,4,5,6]]
def l134r8:List AOper :=
  [.mk (some 34) (.mv (.tmp 3)) none [],.mk (some 35) (.bin .lss (.tmp 34) (.const (.int .i64 0))) none [0]]
def l134r9:List AOper :=
  [.mk (some 36) (.mv (.tmp 0)) none [],.mk (some 37) (.mv (.tmp 0)) none [],.mk (some 38) (.len (.tmp 37)) none [1],.mk (some 39) (.bin .sub (.tmp 38) (.const (.int .i64 1))) none [2],.mk (some 40) (.idxA 1 (.tmp 36) (.tmp 39)) none [0,3],.mk (some 41) (.load false 1 (.tmp 40)) none [4],.mk (some 42) (.bin .sub (.tmp 41) (.const (.int .i64 1))) none [5],.mk (some 4) (.mv (.tmp 42)) none [6,0,1,2,3,4,5,6]]
def l134r10:List AOper :=
  [.mk (some 43) (.mv (.tmp 0)) none [],.mk (some 44) (.idxA 1 (.tmp 43) (.const (.int .i64 0))) none [0],.mk (some 45) (.load false 1 (.tmp 44)) none [1],.mk (some 46) (.mv (.tmp 4)) none [],.mk (some 47) (.mv (.tmp 3)) none [],.mk (some 48) (.build [.int .i64 0,.int .i64 0,.int .i64 0] [(0,1,.tmp 45),(1,1,.tmp 46),(2,1,.tmp 47)]) none [2,3,4],.mk none (.store 3 (.tmp 2) (.tmp 48)) none [5,0,1,2,3,4,5]]
def l134:AFn :=
  (AFn.mk 49 1 (.seq (.reg l134r0) (.seq (.seq (.reg l134r1) (.block 0 (.seq (.reg l134r2) (.cond (.tmp 7) (.seq (.reg l134r3) .ret) (.seq (.reg l134r4) (.cond (.tmp 10) (.seq (.draw l134r5) .ret) .skip)))))) (.seq (.draw l134r6) (.seq (.reg l134r7) (.seq (.seq (.reg l134r8) (.cond (.tmp 35) (.reg l134r9) .skip)) (.seq (.reg l134r10) .ret)))))) [.cell 2 true 3])
theorem l134_eq:lowFn Try.prog 134=some l134:=by kernel_rfl
def l140r0:List AOper :=
  [.mk (some 1) (.box (.tmp 0)) none [],.mk (some 2) (.mv (.const (.bool false))) none []]
def l140r1:List AOper :=
  [.mk (some 3) (.fld 0 (.tmp 1)) none [],.mk (some 4) (.load false 1 (.tmp 3)) none [0],.mk (some 5) (.call 67 [.tmp 4,.const (.int .i64 (-100)),.const (.int .i64 100)]) none [1],.mk (some 6) (.mv (.tmp 5)) none [2,2],.mk (some 7) (.fld 1 (.tmp 1)) (some (6,true)) [3],.mk (some 8) (.load false 1 (.tmp 7)) (some (6,true)) [4,3],.mk (some 9) (.call 67 [.tmp 8,.const (.int .i64 (-100)),.const (.int .i64 100)]) (some (6,true)) [5,3,3],.mk (some 10) (.pick (.tmp 6) (.tmp 9) (.const (.bool false))) none [3,6],.mk (some 11) (.mv (.tmp 10)) none [7,6],.mk (some 12) (.fld 2 (.tmp 1)) (some (11,true)) [8],.mk (some 13) (.load false 1 (.tmp 12)) (some (11,true)) [9,8],.mk (some 14) (.call 67 [.tmp 13,.const (.int .i64 (-200)),.const (.int .i64 200)]) (some (11,true)) [10,8,8],.mk (some 15) (.pick (.tmp 11) (.tmp 14) (.const (.bool false))) none [8,11],.mk (some 16) (.mv (.tmp 15)) none [12,11],.mk (some 17) (.fld 2 (.tmp 1)) (some (16,true)) [13],.mk (some 18) (.load false 1 (.tmp 17)) (some (16,true)) [14,13],.mk (some 19) (.bin .neq (.tmp 18) (.const (.int .i64 0))) (some (16,true)) [15,13],.mk (some 20) (.pick (.tmp 16) (.tmp 19) (.const (.bool false))) none [13,16],.mk (some 21) (.mv (.tmp 20)) none [17,13],.mk (some 22) (.fld 3 (.tmp 1)) (some (21,true)) [18],.mk (some 23) (.load false 1 (.tmp 22)) (some (21,true)) [19,18],.mk (some 24) (.mv (.tmp 23)) (some (21,true)) [20,18,18],.mk (some 25) (.fld 0 (.tmp 1)) (some (24,false)) [21],.mk (some 26) (.load false 1 (.tmp 25)) (some (24,false)) [22,21],.mk (some 27) (.bin .eql (.tmp 26) (.const (.int .i64 0))) (some (24,false)) [23,21],.mk (some 28) (.pick (.tmp 24) (.const (.bool true)) (.tmp 27)) (some (21,true)) [21,24,18],.mk (some 29) (.pick (.tmp 21) (.tmp 28) (.const (.bool false))) none [18,25],.mk (some 30) (.mv (.tmp 29)) none [26,21],.mk (some 31) (.fld 4 (.tmp 1)) (some (30,true)) [27],.mk (some 32) (.load false 1 (.tmp 31)) (some (30,true)) [28,27],.mk (some 33) (.mv (.tmp 32)) (some (30,true)) [29,27,27],.mk (some 34) (.fld 1 (.tmp 1)) (some (33,false)) [30],.mk (some 35) (.load false 1 (.tmp 34)) (some (33,false)) [31,30],.mk (some 36) (.bin .eql (.tmp 35) (.const (.int .i64 0))) (some (33,false)) [32,30],.mk (some 37) (.pick (.tmp 33) (.const (.bool true)) (.tmp 36)) (some (30,true)) [30,33,27],.mk (some 38) (.pick (.tmp 30) (.tmp 37) (.const (.bool false))) none [27,34],.mk (some 2) (.mv (.tmp 38)) none [35,30,0,1,2,3,4,5,6,7,8,9,10,11,12,13,14,15,16,17,18,19,20,21,22,23,24,25,26,27,28,29,30,31,32,33,34,35]]
def l140:AFn :=
  (AFn.mk 39 1 (.seq (.reg l140r0) (.seq (.reg l140r1) .ret)) [.tmp 2])
theorem l140_eq:lowFn Try.prog 140=some l140:=by kernel_rfl
def l141r0:List AOper :=
  [.mk (some 3) (.box (.tmp 0)) none [],.mk (some 5) (.box (.tmp 2)) none [],.mk (some 6) (.alloc [.int .i64 0,.slice none 0 0,.slice none 0 0]) none []]
def l141r1:List AOper :=
  [.mk (some 10) (.load true 3 (.tmp 3)) none [],.mk (some 11) (.call 85 [.tmp 10]) none [0],.mk (some 7) (.alloc [.int .i64 0,.slice none 0 0,.slice none 0 0]) none [],.mk none (.store 3 (.tmp 7) (.tmp 11)) none [2,1,1,0,1,2]]
def l141r2a:List AOper :=
  [.mk (some 12) (.fld 1 (.tmp 3)) none [],.mk (some 13) (.load false 1 (.tmp 12)) none [0],.mk (some 14) (.mv (.tmp 1)) none [],.mk (some 15) (.idxA 1 (.tmp 13) (.tmp 14)) none [1,2],.mk (some 16) (.load false 1 (.tmp 15)) none [3],.mk (some 17) (.load true 5 (.tmp 5)) none [],.mk (some 18) (.call 157 [.tmp 16,.tmp 17]) none [4,5],.mk (some 19) (.call 134 [.tmp 18]) none [6,6],.mk (some 8) (.alloc [.int .i64 0,.int .i64 0,.int .i64 0]) none []]
def l141r2b:List AOper :=
  [.mk none (.store 3 (.tmp 8) (.tmp 19)) none [8,7,7,0,1,2,3,4,5,6,7,8]]
def l141r2:List AOper:=l141r2a ++ l141r2b
def l141r3:List AOper :=
  [.mk (some 20) (.load true 3 (.tmp 8)) none [],.mk (some 21) (.call 110 [.tmp 20]) none [0],.mk (some 9) (.mv (.tmp 21)) none [1,1,0,1]]
def l141r4:List AOper :=
  [.mk (some 22) (.fld 1 (.tmp 7)) none [],.mk (some 23) (.load false 1 (.tmp 22)) none [0],.mk (some 24) (.mv (.tmp 1)) none [],.mk (some 25) (.mv (.tmp 9)) none [],.mk (some 26) (.len (.tmp 25)) none [3],.mk (some 27) (.idxA 1 (.tmp 23) (.tmp 24)) none [1,2,0,1,2,3,4],.mk none (.store 1 (.tmp 27) (.tmp 26)) none [5,4,0,1,2,3,4]]
def l141r5a:List AOper :=
  [.mk (some 28) (.fld 0 (.tmp 3)) none [],.mk (some 29) (.load false 1 (.tmp 28)) none [0],.mk (some 30) (.fld 0 (.tmp 8)) none [],.mk (some 31) (.load false 1 (.tmp 30)) none [2],.mk (some 32) (.fld 2 (.tmp 3)) none [],.mk (some 33) (.load false 1 (.tmp 32)) none [4],.mk (some 34) (.mv (.tmp 1)) none [],.mk (some 35) (.idxA 1 (.tmp 33) (.tmp 34)) none [5,6],.mk (some 36) (.load false 1 (.tmp 35)) none [7],.mk (some 37) (.bin .mul (.tmp 31) (.tmp 36)) none [3,8]]
def l141r5b:List AOper :=
  [.mk (some 38) (.bin .add (.tmp 29) (.tmp 37)) none [1,9],.mk (some 39) (.fld 0 (.tmp 7)) none [0,1,2,3,4,5,6,7,8,9,10],.mk none (.store 1 (.tmp 39) (.tmp 38)) none [11,10,0,1,2,3,4,5,6,7,8,9,10]]
def l141r5:List AOper:=l141r5a ++ l141r5b
def l141r6a:List AOper :=
  [.mk (some 40) (.fld 2 (.tmp 7)) none [],.mk (some 41) (.load false 1 (.tmp 40)) none [0],.mk (some 42) (.mv (.tmp 1)) none [],.mk (some 43) (.fld 2 (.tmp 8)) none [],.mk (some 44) (.load false 1 (.tmp 43)) none [3],.mk (some 45) (.fld 2 (.tmp 3)) none [],.mk (some 46) (.load false 1 (.tmp 45)) none [5],.mk (some 47) (.mv (.tmp 1)) none [],.mk (some 48) (.idxA 1 (.tmp 46) (.tmp 47)) none [6,7],.mk (some 49) (.load false 1 (.tmp 48)) none [8],.mk (some 50) (.bin .mul (.tmp 44) (.tmp 49)) none [4,9]]
def l141r6b:List AOper :=
  [.mk (some 51) (.idxA 1 (.tmp 41) (.tmp 42)) none [1,2,0,1,2,3,4,5,6,7,8,9,10],.mk none (.store 1 (.tmp 51) (.tmp 50)) none [11,10,0,1,2,3,4,5,6,7,8,9,10]]
def l141r6:List AOper:=l141r6a ++ l141r6b
def l141r7:List AOper :=
  [.mk (some 52) (.mv (.tmp 9)) none [],.mk (some 53) (.len (.tmp 52)) none [0],.mk (some 54) (.bin .leq (.tmp 53) (.const (.int .i64 1))) none [1]]
def l141r8:List AOper :=
  [.mk (some 55) (.fld 2 (.tmp 7)) none [],.mk (some 56) (.load false 1 (.tmp 55)) none [0],.mk (some 57) (.mv (.tmp 1)) none [],.mk (some 58) (.idxA 1 (.tmp 56) (.tmp 57)) none [1,2,0,1,2],.mk none (.store 1 (.tmp 58) (.const (.int .i64 0))) none [3,0,1,2]]
def l141r9:List AOper :=
  [.mk (some 59) (.load true 3 (.tmp 7)) none [],.mk (some 60) (.call 88 [.tmp 59]) none [0],.mk none (.store 3 (.tmp 6) (.tmp 60)) none [1,1,0,1]]
def l141:AFn :=
  (AFn.mk 61 3 (.seq (.reg l141r0) (.seq (.reg l141r1) (.seq (.draw l141r2) (.seq (.reg l141r3) (.seq (.reg l141r4) (.seq (.draw l141r5) (.seq (.draw l141r6) (.seq (.seq (.reg l141r7) (.cond (.tmp 54) (.reg l141r8) .skip)) (.seq (.reg l141r9) .ret))))))))) [.cell 6 true 3])
theorem l141_eq:lowFn Try.prog 141=some l141:=by kernel_rfl
def l142r0:List AOper :=
  [.mk (some 4) (.mv (.const (.bool false))) none []]
def l142r1:List AOper :=
  [.mk (some 5) (.mv (.tmp 0)) none [],.mk (some 6) (.len (.tmp 5)) none [0],.mk (some 7) (.mv (.tmp 1)) none [],.mk (some 8) (.bin .eql (.tmp 6) (.tmp 7)) none [1,2],.mk (some 9) (.mv (.tmp 8)) none [3],.mk (some 10) (.mv (.tmp 0)) (some (9,true)) [4],.mk (some 11) (.mv (.tmp 1)) (some (9,true)) [4],.mk (some 12) (.bin .sub (.tmp 11) (.const (.int .i64 1))) (some (9,true)) [6,4],.mk (some 13) (.call 70 [.tmp 10,.const (.int .i64 0),.tmp 12]) (some (9,true)) [5,7,4,4],.mk (some 14) (.pick (.tmp 9) (.tmp 13) (.const (.bool false))) none [4,8],.mk (some 15) (.mv (.tmp 14)) none [9,8],.mk (some 16) (.mv (.tmp 0)) (some (15,true)) [10],.mk (some 17) (.call 69 [.tmp 16]) (some (15,true)) [11,10,10],.mk (some 18) (.pick (.tmp 15) (.tmp 17) (.const (.bool false))) none [10,12],.mk (some 4) (.mv (.tmp 18)) none [13,12,0,1,2,3,4,5,6,7,8,9,10,11,12,13]]
def l142:AFn :=
  (AFn.mk 19 2 (.seq (.reg l142r0) (.seq (.reg l142r1) .ret)) [.tmp 4])
theorem l142_eq:lowFn Try.prog 142=some l142:=by kernel_rfl
def l143r0:List AOper :=
  [.mk (some 2) (.box (.tmp 0)) none [],.mk (some 4) (.alloc [.int .i64 0,.slice none 0 0,.slice none 0 0]) none []]
def l143r1:List AOper :=
  [.mk (some 7) (.fld 0 (.tmp 2)) none [],.mk (some 8) (.load false 1 (.tmp 7)) none [0],.mk (some 9) (.build [.int .i64 0,.slice none 0 0,.slice none 0 0] [(0,1,.tmp 8)]) none [1],.mk (some 5) (.alloc [.int .i64 0,.slice none 0 0,.slice none 0 0]) none [],.mk none (.store 3 (.tmp 5) (.tmp 9)) none [3,2,0,1,2,3]]
def l143r2:List AOper :=
  [.mk (some 6) (.mv (.const (.int .i64 0))) none []]
def l143r3:List AOper :=
  [.mk (some 10) (.mv (.tmp 6)) none [],.mk (some 11) (.mv (.tmp 1)) none [],.mk (some 12) (.len (.tmp 11)) none [1],.mk (some 13) (.bin .lss (.tmp 10) (.tmp 12)) none [0,2]]
def l143r4a:List AOper :=
  [.mk (some 16) (.fld 1 (.tmp 5)) none [],.mk (some 17) (.load false 1 (.tmp 16)) none [0],.mk (some 18) (.fld 1 (.tmp 2)) none [],.mk (some 19) (.load false 1 (.tmp 18)) none [2],.mk (some 20) (.mv (.tmp 1)) none [],.mk (some 21) (.mv (.tmp 6)) none [],.mk (some 22) (.idxA 1 (.tmp 20) (.tmp 21)) none [4,5],.mk (some 23) (.load false 1 (.tmp 22)) none [6],.mk (some 24) (.idxA 1 (.tmp 19) (.tmp 23)) none [3,7],.mk (some 25) (.load false 1 (.tmp 24)) none [8],.mk (some 26) (.bslice 1 [.int .i64 0] [(0,.tmp 25)] 1) none [9]]
def l143r4b:List AOper :=
  [.mk (some 27) (.append 1 (.tmp 17) (.tmp 26)) none [1,10],.mk (some 28) (.fld 1 (.tmp 5)) none [0,1,2,3,4,5,6,7,8,9,10,11],.mk none (.store 1 (.tmp 28) (.tmp 27)) none [12,11,11,0,1,2,3,4,5,6,7,8,9,10,11]]
def l143r4:List AOper:=l143r4a ++ l143r4b
def l143r5a:List AOper :=
  [.mk (some 29) (.fld 2 (.tmp 5)) none [],.mk (some 30) (.load false 1 (.tmp 29)) none [0],.mk (some 31) (.fld 2 (.tmp 2)) none [],.mk (some 32) (.load false 1 (.tmp 31)) none [2],.mk (some 33) (.mv (.tmp 1)) none [],.mk (some 34) (.mv (.tmp 6)) none [],.mk (some 35) (.idxA 1 (.tmp 33) (.tmp 34)) none [4,5],.mk (some 36) (.load false 1 (.tmp 35)) none [6],.mk (some 37) (.idxA 1 (.tmp 32) (.tmp 36)) none [3,7],.mk (some 38) (.load false 1 (.tmp 37)) none [8],.mk (some 39) (.bslice 1 [.int .i64 0] [(0,.tmp 38)] 1) none [9]]
def l143r5b:List AOper :=
  [.mk (some 40) (.append 1 (.tmp 30) (.tmp 39)) none [1,10],.mk (some 41) (.fld 2 (.tmp 5)) none [0,1,2,3,4,5,6,7,8,9,10,11],.mk none (.store 1 (.tmp 41) (.tmp 40)) none [12,11,11,0,1,2,3,4,5,6,7,8,9,10,11]]
def l143r5:List AOper:=l143r5a ++ l143r5b
def l143r6:List AOper :=
  [.mk (some 14) (.mv (.tmp 6)) none [],.mk (some 15) (.bin .add (.tmp 14) (.const (.int .i64 1))) none [0],.mk (some 6) (.mv (.tmp 15)) none [1,0,1]]
def l143r7:List AOper :=
  [.mk (some 42) (.load true 3 (.tmp 5)) none [],.mk none (.store 3 (.tmp 4) (.tmp 42)) none [0,0]]
def l143:AFn :=
  (AFn.mk 43 2 (.seq (.reg l143r0) (.seq (.reg l143r1) (.seq (.seq (.reg l143r2) (.block 0 (.loop (.seq (.seq (.reg l143r3) (.cond (.tmp 13) .skip (.exit 0))) (.seq (.block 1 (.seq (.draw l143r4) (.draw l143r5))) (.reg l143r6)))))) (.seq (.reg l143r7) .ret)))) [.cell 4 true 3])
theorem l143_eq:lowFn Try.prog 143=some l143:=by kernel_rfl
def l144r0:List AOper :=
  [.mk (some 6) (.mv (.const (.slice none 0 0))) none []]
def l144r1a:List AOper :=
  [.mk (some 7) (.bslice 1 [.int .i64 0] [] 0) none [],.mk (some 8) (.mv (.tmp 0)) none [],.mk (some 9) (.mv (.tmp 1)) none [],.mk (some 10) (.slice 1 (.tmp 8) none (some (.tmp 9))) none [1,2],.mk (some 11) (.append 1 (.tmp 7) (.tmp 10)) none [0,3],.mk (some 12) (.mv (.tmp 2)) none [],.mk (some 13) (.bslice 1 [.int .i64 0] [(0,.tmp 12)] 1) none [5],.mk (some 14) (.append 1 (.tmp 11) (.tmp 13)) none [4,6,4],.mk (some 15) (.mv (.tmp 0)) none [],.mk (some 16) (.mv (.tmp 1)) none [],.mk (some 17) (.slice 1 (.tmp 15) (some (.tmp 16)) none) none [8,9]]
def l144r1b:List AOper :=
  [.mk (some 18) (.append 1 (.tmp 14) (.tmp 17)) none [7,10,7],.mk (some 6) (.mv (.tmp 18)) none [11,11,0,1,2,3,4,5,6,7,8,9,10,11]]
def l144r1:List AOper:=l144r1a ++ l144r1b
def l144:AFn :=
  (AFn.mk 19 3 (.seq (.reg l144r0) (.seq (.draw l144r1) .ret)) [.tmp 6])
theorem l144_eq:lowFn Try.prog 144=some l144:=by kernel_rfl
def l157r0:List AOper :=
  [.mk (some 3) (.box (.tmp 1)) none [],.mk (some 4) (.mv (.const (.slice none 0 0))) none []]
def l157r1:List AOper :=
  [.mk (some 5) (.mv (.const (.int .i64 0))) none []]
def l157r2:List AOper :=
  [.mk (some 7) (.mv (.tmp 0)) none [],.mk (some 6) (.mv (.tmp 7)) none [0,0]]
def l157r3:List AOper :=
  [.mk (some 8) (.fld 2 (.tmp 3)) none [],.mk (some 9) (.load false 1 (.tmp 8)) none [0],.mk (some 10) (.bin .lss (.tmp 9) (.const (.int .i64 0))) none [1]]
def l157r4:List AOper :=
  [.mk (some 11) (.mv (.tmp 0)) none [],.mk (some 12) (.bin .sub (.tmp 11) (.const (.int .i64 1))) none [0],.mk (some 5) (.mv (.tmp 12)) none [1,0,1]]
def l157r5:List AOper :=
  [.mk (some 6) (.mv (.const (.int .i64 (-1)))) none []]
def l157r6:List AOper :=
  [.mk (some 13) (.fld 3 (.tmp 3)) none [],.mk (some 14) (.load false 1 (.tmp 13)) none [0]]
def l157r7:List AOper :=
  [.mk (some 15) (.mv (.tmp 0)) none [],.mk (some 16) (.fld 0 (.tmp 3)) none [],.mk (some 17) (.load false 1 (.tmp 16)) none [1],.mk (some 18) (.fld 2 (.tmp 3)) none [],.mk (some 19) (.load false 1 (.tmp 18)) none [3],.mk (some 20) (.call 164 [.tmp 15,.tmp 17,.tmp 19]) none [0,2,4],.mk (some 5) (.mv (.tmp 20)) none [5,5,0,1,2,3,4,5]]
def l157r8:List AOper :=
  [.mk (some 21) (.fld 4 (.tmp 3)) none [],.mk (some 22) (.load false 1 (.tmp 21)) none [0]]
def l157r9:List AOper :=
  [.mk (some 23) (.mv (.tmp 0)) none [],.mk (some 24) (.fld 1 (.tmp 3)) none [],.mk (some 25) (.load false 1 (.tmp 24)) none [1],.mk (some 26) (.fld 2 (.tmp 3)) none [],.mk (some 27) (.load false 1 (.tmp 26)) none [3],.mk (some 28) (.call 164 [.tmp 23,.tmp 25,.tmp 27]) none [0,2,4],.mk (some 6) (.mv (.tmp 28)) none [5,5,0,1,2,3,4,5]]
def l157r10:List AOper :=
  [.mk (some 29) (.mv (.tmp 5)) none [],.mk (some 30) (.mv (.tmp 6)) none [],.mk (some 31) (.fld 2 (.tmp 3)) none [],.mk (some 32) (.load false 1 (.tmp 31)) none [2],.mk (some 33) (.build [.int .i64 0,.int .i64 0,.int .i64 0] [(0,1,.tmp 29),(1,1,.tmp 30),(2,1,.tmp 32)]) none [0,1,3],.mk (some 34) (.call 110 [.tmp 33]) none [4],.mk (some 4) (.mv (.tmp 34)) none [5,5,0,1,2,3,4,5]]
def l157:AFn :=
  (AFn.mk 35 2 (.seq (.reg l157r0) (.seq (.reg l157r1) (.seq (.reg l157r2) (.seq (.seq (.reg l157r3) (.cond (.tmp 10) (.seq (.reg l157r4) (.reg l157r5)) .skip)) (.seq (.seq (.reg l157r6) (.cond (.tmp 14) (.reg l157r7) .skip)) (.seq (.seq (.reg l157r8) (.cond (.tmp 22) (.reg l157r9) .skip)) (.seq (.reg l157r10) .ret))))))) [.tmp 4])
theorem l157_eq:lowFn Try.prog 157=some l157:=by kernel_rfl
def l164r0:List AOper :=
  [.mk (some 6) (.mv (.const (.int .i64 0))) none []]
def l164r1:List AOper :=
  [.mk (some 7) (.mv (.const (.int .i64 0))) none []]
def l164r2:List AOper :=
  [.mk (some 9) (.mv (.tmp 0)) none [],.mk (some 8) (.mv (.tmp 9)) none [0,0]]
def l164r3:List AOper :=
  [.mk (some 10) (.mv (.tmp 2)) none [],.mk (some 11) (.bin .lss (.tmp 10) (.const (.int .i64 0))) none [0]]
def l164r4:List AOper :=
  [.mk (some 7) (.mv (.const (.int .i64 (-1)))) none []]
def l164r5:List AOper :=
  [.mk (some 12) (.mv (.tmp 0)) none [],.mk (some 13) (.bin .sub (.tmp 12) (.const (.int .i64 1))) none [0],.mk (some 8) (.mv (.tmp 13)) none [1,0,1]]
def l164r6:List AOper :=
  [.mk (some 14) (.mv (.tmp 1)) none [],.mk (some 15) (.bin .lss (.tmp 14) (.const (.int .i64 0))) none [0]]
def l164r7:List AOper :=
  [.mk (some 16) (.mv (.tmp 1)) none [],.mk (some 17) (.mv (.tmp 0)) none [],.mk (some 18) (.bin .add (.tmp 16) (.tmp 17)) none [0,1],.mk (some 1) (.mv (.tmp 18)) none [2,0,1,2]]
def l164r8:List AOper :=
  [.mk (some 19) (.mv (.tmp 8)) none [],.mk (some 20) (.mv (.tmp 7)) none [],.mk (some 21) (.mv (.tmp 1)) none [],.mk (some 22) (.minmax true (.tmp 20) (.tmp 21)) none [1,2],.mk (some 23) (.minmax false (.tmp 19) (.tmp 22)) none [0,3],.mk (some 6) (.mv (.tmp 23)) none [4,0,1,2,3,4]]
def l164:AFn :=
  (AFn.mk 24 3 (.seq (.reg l164r0) (.seq (.reg l164r1) (.seq (.reg l164r2) (.seq (.seq (.reg l164r3) (.cond (.tmp 11) (.seq (.reg l164r4) (.reg l164r5)) .skip)) (.seq (.seq (.reg l164r6) (.cond (.tmp 15) (.reg l164r7) .skip)) (.seq (.reg l164r8) .ret)))))) [.tmp 6])
theorem l164_eq:lowFn Try.prog 164=some l164:=by kernel_rfl
end Go.Proofs.Ytceopplkfomalaa
