import Derived.Test.YtkpcjppnjmhanaaGreatDoorCW3
import Derived.Test.YtkpcjppnjmhanaaGreatDoorProg
import Derived.KernelRfl
set_option maxRecDepth 100000
namespace Go.Proofs.YtkpcjppnjmhanaaGreatDoor
open Vw Go
/-- Where the sentinel error lies. -/
class SentA where
  a:Addr
instance globs [SentA]:Inhabited GlobT:=⟨⟨[(0,[.iface 200 (.pointer (some SentA.a))])]⟩⟩
attribute [push_cast] Bool.false_eq_true List.length_replicate
attribute [bitvec_to_nat] decide_eq_true_eq decide_eq_false_iff_not Bool.not_eq_true' Bool.not_eq_false' Bool.and_eq_true Bool.or_eq_true Bool.and_eq_false_iff Bool.or_eq_false_iff Int.not_le Int.not_lt bne_iff_ne ne_eq beq_iff_eq Bool.not_eq_true Bool.not_eq_false
theorem sd {P:Prop} (h:P:=by first|assumption|rfl|omega|(simp<;>omega)|(simp_all<;>omega)):P:=h
def l3r0:List AOper :=
  [.mk (some 2) (.mv (.const (.bool false))) none []]
def l3r1:List AOper :=
  [.mk (some 11) (.mv (.tmp 0)) none [],.mk (some 12) (.len (.tmp 11)) none [0],.mk (some 13) (.bin .gtr (.tmp 12) (.const (.int .i64 1048576))) none [1]]
def l3r2:List AOper :=
  [.mk (some 2) (.mv (.const (.bool true))) none []]
def l3r3:List AOper :=
  [.mk (some 15) (.mv (.tmp 0)) none [],.mk (some 16) (.call 9 [.tmp 15]) none [0],.mk (some 14) (.mv (.tmp 16)) none [1],.mk (some 17) (.extract (.tmp 14) 0) none [2],.mk (some 18) (.extract (.tmp 14) 1) none [2],.mk (some 3) (.alloc [.slice none 0 0,.slice none 0 0]) none [],.mk none (.store 2 (.tmp 3) (.tmp 17)) none [5,3,1,0,1,2,3,5],.mk (some 4) (.mv (.tmp 18)) none [4,6,0,1,2,3,4,5,6]]
def l3r4:List AOper :=
  [.mk (some 20) (.load true 2 (.tmp 3)) none [],.mk (some 21) (.mv (.tmp 4)) none [],.mk (some 22) (.call 10 [.tmp 20,.tmp 21]) none [0,1],.mk (some 19) (.mv (.tmp 22)) none [2],.mk (some 23) (.extract (.tmp 19) 0) none [3],.mk (some 24) (.extract (.tmp 19) 1) none [3],.mk (some 5) (.alloc [.slice none 0 0,.slice none 0 0]) none [],.mk none (.store 2 (.tmp 5) (.tmp 23)) none [6,4,2,0,1,2,3,4,6],.mk (some 6) (.mv (.tmp 24)) none [5,7,0,1,2,3,4,5,6,7]]
def l3r5:List AOper :=
  [.mk (some 26) (.load true 2 (.tmp 3)) none [],.mk (some 27) (.mv (.tmp 4)) none [],.mk (some 28) (.call 11 [.tmp 26,.tmp 27]) none [0,1],.mk (some 25) (.mv (.tmp 28)) none [2],.mk (some 29) (.extract (.tmp 25) 0) none [3],.mk (some 30) (.extract (.tmp 25) 1) none [3],.mk (some 7) (.alloc [.slice none 0 0,.slice none 0 0]) none [],.mk none (.store 2 (.tmp 7) (.tmp 29)) none [6,4,2,0,1,2,3,4,6],.mk (some 8) (.mv (.tmp 30)) none [5,7,0,1,2,3,4,5,6,7]]
def l3r6:List AOper :=
  [.mk (some 31) (.load true 2 (.tmp 5)) none [],.mk (some 32) (.load true 2 (.tmp 7)) none [],.mk (some 33) (.call 12 [.tmp 31,.tmp 32]) none [0,1],.mk (some 34) (.un .not (.tmp 33)) none [2],.mk (some 35) (.mv (.tmp 34)) none [3,2],.mk (some 36) (.mv (.tmp 6)) (some (35,false)) [4],.mk (some 37) (.mv (.tmp 8)) (some (35,false)) [4],.mk (some 38) (.binB .neq (.tmp 36) (.tmp 37)) (some (35,false)) [5,6,4],.mk (some 39) (.pick (.tmp 35) (.const (.bool true)) (.tmp 38)) none [4,7],.mk (some 40) (.mv (.tmp 39)) none [8,4],.mk (some 41) (.mv (.tmp 6)) (some (40,false)) [9],.mk (some 42) (.un .not (.tmp 41)) (some (40,false)) [10,9],.mk (some 43) (.pick (.tmp 40) (.const (.bool true)) (.tmp 42)) none [9,11]]
def l3r7:List AOper :=
  [.mk (some 44) (.load true 2 (.tmp 5)) none [],.mk (some 45) (.load true 2 (.tmp 7)) none [],.mk (some 46) (.call 12 [.tmp 44,.tmp 45]) none [0,1],.mk (some 47) (.mv (.tmp 46)) none [2,2],.mk (some 48) (.mv (.tmp 6)) (some (47,true)) [3],.mk (some 49) (.mv (.tmp 8)) (some (47,true)) [3],.mk (some 50) (.binB .eql (.tmp 48) (.tmp 49)) (some (47,true)) [4,5,3],.mk (some 51) (.pick (.tmp 47) (.tmp 50) (.const (.bool false))) none [3,6],.mk (some 2) (.mv (.tmp 51)) none [7,3,0,1,2,3,4,5,6,7]]
def l3r8:List AOper :=
  [.mk (some 53) (.load true 2 (.tmp 5)) none [],.mk (some 54) (.mv (.tmp 4)) none [],.mk (some 55) (.call 10 [.tmp 53,.tmp 54]) none [0,1],.mk (some 52) (.mv (.tmp 55)) none [2],.mk (some 56) (.extract (.tmp 52) 0) none [3],.mk (some 57) (.extract (.tmp 52) 1) none [3],.mk (some 9) (.alloc [.slice none 0 0,.slice none 0 0]) none [],.mk none (.store 2 (.tmp 9) (.tmp 56)) none [6,4,2,0,1,2,3,4,6],.mk (some 10) (.mv (.tmp 57)) none [5,7,0,1,2,3,4,5,6,7]]
def l3r9a:List AOper :=
  [.mk (some 58) (.mv (.tmp 10)) none [],.mk (some 59) (.un .not (.tmp 58)) none [0],.mk (some 60) (.mv (.tmp 59)) none [1],.mk (some 61) (.load true 2 (.tmp 5)) (some (60,true)) [2],.mk (some 62) (.call 14 [.tmp 61]) (some (60,true)) [3,2,2],.mk (some 63) (.mv (.tmp 4)) (some (60,true)) [2],.mk (some 64) (.call 13 [.tmp 62,.tmp 63]) (some (60,true)) [4,5,4,2],.mk (some 65) (.un .not (.tmp 64)) (some (60,true)) [6,2],.mk (some 66) (.pick (.tmp 60) (.tmp 65) (.const (.bool false))) none [2,7],.mk (some 67) (.mv (.tmp 66)) none [8,6],.mk (some 68) (.load true 2 (.tmp 5)) (some (67,true)) [9],.mk (some 69) (.call 14 [.tmp 68]) (some (67,true)) [10,9,9],.mk (some 70) (.len (.tmp 69)) (some (67,true)) [11,9],.mk (some 71) (.load true 2 (.tmp 3)) (some (67,true)) [9],.mk (some 72) (.call 14 [.tmp 71]) (some (67,true)) [13,11,9],.mk (some 73) (.len (.tmp 72)) (some (67,true)) [14,9],.mk (some 74) (.bin .sub (.tmp 73) (.const (.int .i64 1))) (some (67,true)) [15,9],.mk (some 75) (.bin .eql (.tmp 70) (.tmp 74)) (some (67,true)) [12,16,9],.mk (some 76) (.pick (.tmp 67) (.tmp 75) (.const (.bool false))) none [9,17],.mk (some 77) (.mv (.tmp 76)) none [18,14],.mk (some 78) (.fld 0 (.tmp 5)) (some (77,true)) [19],.mk (some 79) (.load false 1 (.tmp 78)) (some (77,true)) [20,19],.mk (some 80) (.fld 0 (.tmp 3)) (some (77,true)) [19],.mk (some 81) (.load false 1 (.tmp 80)) (some (77,true)) [22,19],.mk (some 82) (.call 15 [.tmp 79,.tmp 81]) (some (77,true)) [21,23,19,19],.mk (some 83) (.pick (.tmp 77) (.tmp 82) (.const (.bool false))) none [19,24],.mk (some 84) (.mv (.tmp 83)) none [25,24],.mk (some 85) (.load true 2 (.tmp 5)) (some (84,true)) [26],.mk (some 86) (.mv (.tmp 4)) (some (84,true)) [26]]
def l3r9b:List AOper :=
  [.mk (some 87) (.call 16 [.tmp 85,.tmp 86]) (some (84,true)) [27,28,26,26],.mk (some 88) (.len (.tmp 87)) (some (84,true)) [29,26],.mk (some 89) (.bin .eql (.tmp 88) (.const (.int .i64 0))) (some (84,true)) [30,26],.mk (some 90) (.pick (.tmp 84) (.tmp 89) (.const (.bool false))) none [26,31],.mk (some 2) (.mv (.tmp 90)) none [32,29,0,1,2,3,4,5,6,7,8,9,10,11,12,13,14,15,16,17,18,19,20,21,22,23,24,25,26,27,28,29,30,31,32]]
def l3r9:List AOper:=l3r9a ++ l3r9b
def l3:AFn :=
  (AFn.mk 91 1 (.seq (.reg l3r0) (.seq (.seq (.reg l3r1) (.cond (.tmp 13) (.seq (.reg l3r2) .ret) .skip)) (.seq (.reg l3r3) (.seq (.reg l3r4) (.seq (.reg l3r5) (.seq (.seq (.reg l3r6) (.cond (.tmp 43) (.seq (.reg l3r7) .ret) .skip)) (.seq (.reg l3r8) (.seq (.draw l3r9) .ret)))))))) [.tmp 2])
theorem l3_eq:lowFn Tryz.prog 3=some l3:=by kernel_rfl
def l9r0:List AOper :=
  [.mk (some 2) (.alloc [.slice none 0 0,.slice none 0 0]) none [],.mk (some 3) (.mv (.const (.int .i64 0))) none []]
def l9r1:List AOper :=
  [.mk (some 4) (.mv (.tmp 0)) none [],.mk (some 5) (.call 41 [.tmp 4]) none [0],.mk (some 6) (.call 40 [.tmp 5]) none [1,1],.mk (some 7) (.extract (.tmp 6) 0) none [2],.mk (some 8) (.extract (.tmp 6) 1) none [2],.mk none (.store 2 (.tmp 2) (.tmp 7)) none [3,2,0,1,2,3,4],.mk (some 3) (.mv (.tmp 8)) none [4,5,0,1,2,3,4,5]]
def l9:AFn :=
  (AFn.mk 9 1 (.seq (.reg l9r0) (.seq (.reg l9r1) .ret)) [.cell 2 true 2,.tmp 3])
theorem l9_eq:lowFn Tryz.prog 9=some l9:=by kernel_rfl
def l10r0:List AOper :=
  [.mk (some 2) (.box (.tmp 0)) none [],.mk (some 4) (.alloc [.slice none 0 0,.slice none 0 0]) none [],.mk (some 5) (.mv (.const (.bool false))) none []]
def l10r1a:List AOper :=
  [.mk (some 7) (.load true 2 (.tmp 2)) none [],.mk (some 8) (.mv (.tmp 1)) none [],.mk (some 9) (.call 42 [.tmp 7,.tmp 8]) none [0,1],.mk (some 10) (.un .not (.tmp 9)) none [2],.mk (some 11) (.mv (.tmp 10)) none [3,2],.mk (some 12) (.load true 2 (.tmp 2)) (some (11,false)) [4],.mk (some 13) (.mv (.tmp 1)) (some (11,false)) [4],.mk (some 14) (.call 44 [.tmp 12,.tmp 13]) (some (11,false)) [5,6,4,4],.mk (some 15) (.call 45 [.tmp 14]) (some (11,false)) [7,7,4],.mk (some 16) (.load false 1 (.global 0)) (some (11,false)) [4]]
def l10r1b:List AOper :=
  [.mk (some 17) (.call 43 [.tmp 15,.tmp 16]) (some (11,false)) [8,9,8,4],.mk (some 18) (.pick (.tmp 11) (.const (.bool true)) (.tmp 17)) none [4,10]]
def l10r1:List AOper:=l10r1a ++ l10r1b
def l10r2:List AOper :=
  [.mk (some 19) (.build [.slice none 0 0,.slice none 0 0] []) none [],.mk none (.store 2 (.tmp 4) (.tmp 19)) none [0,0],.mk (some 5) (.mv (.const (.bool false))) none [1,0,1]]
def l10r3:List AOper :=
  [.mk (some 20) (.load true 2 (.tmp 2)) none [],.mk (some 21) (.call 46 [.tmp 20]) none [0],.mk (some 6) (.alloc [.slice none 0 0,.slice none 0 0]) none [],.mk none (.store 2 (.tmp 6) (.tmp 21)) none [2,1,1,0,1,2]]
def l10r4:List AOper :=
  [.mk (some 22) (.fld 1 (.tmp 6)) none [],.mk (some 23) (.load false 1 (.tmp 22)) none [0],.mk (some 24) (.mv (.tmp 1)) none [],.mk (some 25) (.idxA 5 (.tmp 23) (.tmp 24)) none [1,2,0,1,2],.mk (some 26) (.fld 4 (.tmp 25)) none [3,0,1,2],.mk none (.store 1 (.tmp 26) (.const (.bool false))) none [4,0,1,2]]
def l10r5:List AOper :=
  [.mk (some 27) (.load true 2 (.tmp 6)) none [],.mk none (.store 2 (.tmp 4) (.tmp 27)) none [0,0],.mk (some 5) (.mv (.const (.bool true))) none [1,0,1]]
def l10:AFn :=
  (AFn.mk 28 2 (.seq (.reg l10r0) (.seq (.seq (.draw l10r1) (.cond (.tmp 18) (.seq (.reg l10r2) .ret) .skip)) (.seq (.reg l10r3) (.seq (.reg l10r4) (.seq (.reg l10r5) .ret))))) [.cell 4 true 2,.tmp 5])
theorem l10_eq:lowFn Tryz.prog 10=some l10:=by kernel_rfl
def l11r0:List AOper :=
  [.mk (some 2) (.box (.tmp 0)) none [],.mk (some 4) (.alloc [.slice none 0 0,.slice none 0 0]) none [],.mk (some 5) (.mv (.const (.bool false))) none []]
def l11r1:List AOper :=
  [.mk (some 7) (.load true 2 (.tmp 2)) none [],.mk (some 8) (.call 47 [.tmp 7]) none [0],.mk (some 9) (.un .not (.tmp 8)) none [1],.mk (some 10) (.mv (.tmp 9)) none [2,1],.mk (some 11) (.load true 2 (.tmp 2)) (some (10,false)) [3],.mk (some 12) (.mv (.tmp 1)) (some (10,false)) [3],.mk (some 13) (.call 48 [.tmp 11,.tmp 12]) (some (10,false)) [4,5,3,3],.mk (some 14) (.un .not (.tmp 13)) (some (10,false)) [6,3],.mk (some 15) (.pick (.tmp 10) (.const (.bool true)) (.tmp 14)) none [3,7],.mk (some 16) (.mv (.tmp 15)) none [8,6],.mk (some 17) (.load true 2 (.tmp 2)) (some (16,false)) [9],.mk (some 18) (.mv (.tmp 1)) (some (16,false)) [9],.mk (some 19) (.call 49 [.tmp 17,.tmp 18]) (some (16,false)) [10,11,9,9],.mk (some 20) (.len (.tmp 19)) (some (16,false)) [12,9],.mk (some 21) (.bin .gtr (.tmp 20) (.const (.int .i64 0))) (some (16,false)) [13,9],.mk (some 22) (.pick (.tmp 16) (.const (.bool true)) (.tmp 21)) none [9,14]]
def l11r2:List AOper :=
  [.mk (some 23) (.build [.slice none 0 0,.slice none 0 0] []) none [],.mk none (.store 2 (.tmp 4) (.tmp 23)) none [0,0],.mk (some 5) (.mv (.const (.bool false))) none [1,0,1]]
def l11r3:List AOper :=
  [.mk (some 24) (.load true 2 (.tmp 2)) none [],.mk (some 25) (.call 50 [.tmp 24]) none [0],.mk (some 6) (.alloc [.slice none 0 0,.slice none 0 0]) none [],.mk none (.store 2 (.tmp 6) (.tmp 25)) none [2,1,1,0,1,2]]
def l11r4:List AOper :=
  [.mk (some 26) (.fld 1 (.tmp 6)) none [],.mk (some 27) (.load false 1 (.tmp 26)) none [0],.mk (some 28) (.mv (.tmp 1)) none [],.mk (some 29) (.idxA 5 (.tmp 27) (.tmp 28)) none [1,2,0,1,2],.mk (some 30) (.fld 4 (.tmp 29)) none [3,0,1,2],.mk none (.store 1 (.tmp 30) (.const (.bool false))) none [4,0,1,2]]
def l11r5:List AOper :=
  [.mk (some 31) (.load true 2 (.tmp 6)) none [],.mk none (.store 2 (.tmp 4) (.tmp 31)) none [0,0],.mk (some 5) (.mv (.const (.bool true))) none [1,0,1]]
def l11:AFn :=
  (AFn.mk 32 2 (.seq (.reg l11r0) (.seq (.seq (.reg l11r1) (.cond (.tmp 22) (.seq (.reg l11r2) .ret) .skip)) (.seq (.reg l11r3) (.seq (.reg l11r4) (.seq (.reg l11r5) .ret))))) [.cell 4 true 2,.tmp 5])
theorem l11_eq:lowFn Tryz.prog 11=some l11:=by kernel_rfl
def l12r0:List AOper :=
  [.mk (some 2) (.box (.tmp 0)) none [],.mk (some 3) (.box (.tmp 1)) none [],.mk (some 4) (.mv (.const (.bool false))) none []]
def l12r1:List AOper :=
  [.mk (some 8) (.fld 0 (.tmp 2)) none [],.mk (some 9) (.load false 1 (.tmp 8)) none [0],.mk (some 10) (.fld 0 (.tmp 3)) none [],.mk (some 11) (.load false 1 (.tmp 10)) none [2],.mk (some 12) (.call 15 [.tmp 9,.tmp 11]) none [1,3],.mk (some 13) (.un .not (.tmp 12)) none [4],.mk (some 14) (.mv (.tmp 13)) none [5,4],.mk (some 15) (.fld 1 (.tmp 2)) (some (14,false)) [6],.mk (some 16) (.load false 1 (.tmp 15)) (some (14,false)) [7,6],.mk (some 17) (.len (.tmp 16)) (some (14,false)) [8,6],.mk (some 18) (.fld 1 (.tmp 3)) (some (14,false)) [6],.mk (some 19) (.load false 1 (.tmp 18)) (some (14,false)) [10,6],.mk (some 20) (.len (.tmp 19)) (some (14,false)) [11,6],.mk (some 21) (.bin .neq (.tmp 17) (.tmp 20)) (some (14,false)) [9,12,6],.mk (some 22) (.pick (.tmp 14) (.const (.bool true)) (.tmp 21)) none [6,13]]
def l12r2:List AOper :=
  [.mk (some 4) (.mv (.const (.bool false))) none []]
def l12r3:List AOper :=
  [.mk (some 5) (.mv (.const (.int .i64 0))) none []]
def l12r4:List AOper :=
  [.mk (some 23) (.mv (.tmp 5)) none [],.mk (some 24) (.fld 1 (.tmp 2)) none [],.mk (some 25) (.load false 1 (.tmp 24)) none [1],.mk (some 26) (.len (.tmp 25)) none [2],.mk (some 27) (.bin .lss (.tmp 23) (.tmp 26)) none [0,3]]
def l12r5:List AOper :=
  [.mk (some 30) (.fld 1 (.tmp 2)) none [],.mk (some 31) (.load false 1 (.tmp 30)) none [0],.mk (some 32) (.mv (.tmp 5)) none [],.mk (some 33) (.idxA 5 (.tmp 31) (.tmp 32)) none [1,2],.mk (some 34) (.load true 5 (.tmp 33)) none [3],.mk (some 6) (.alloc [.int .i64 0,.int .i64 0,.slice none 0 0,.slice none 0 0,.bool false]) none [],.mk none (.store 5 (.tmp 6) (.tmp 34)) none [5,4,0,1,2,3,4,5]]
def l12r6:List AOper :=
  [.mk (some 35) (.fld 1 (.tmp 3)) none [],.mk (some 36) (.load false 1 (.tmp 35)) none [0],.mk (some 37) (.mv (.tmp 5)) none [],.mk (some 38) (.idxA 5 (.tmp 36) (.tmp 37)) none [1,2],.mk (some 39) (.load true 5 (.tmp 38)) none [3],.mk (some 7) (.alloc [.int .i64 0,.int .i64 0,.slice none 0 0,.slice none 0 0,.bool false]) none [],.mk none (.store 5 (.tmp 7) (.tmp 39)) none [5,4,0,1,2,3,4,5]]
def l12r7:List AOper :=
  [.mk (some 40) (.fld 0 (.tmp 6)) none [],.mk (some 41) (.load false 1 (.tmp 40)) none [0],.mk (some 42) (.fld 0 (.tmp 7)) none [],.mk (some 43) (.load false 1 (.tmp 42)) none [2],.mk (some 44) (.bin .neq (.tmp 41) (.tmp 43)) none [1,3],.mk (some 45) (.mv (.tmp 44)) none [4],.mk (some 46) (.fld 4 (.tmp 6)) (some (45,false)) [5],.mk (some 47) (.load false 1 (.tmp 46)) (some (45,false)) [6,5],.mk (some 48) (.fld 4 (.tmp 7)) (some (45,false)) [5],.mk (some 49) (.load false 1 (.tmp 48)) (some (45,false)) [8,5],.mk (some 50) (.binB .neq (.tmp 47) (.tmp 49)) (some (45,false)) [7,9,5],.mk (some 51) (.pick (.tmp 45) (.const (.bool true)) (.tmp 50)) none [5,10],.mk (some 52) (.mv (.tmp 51)) none [11,5],.mk (some 53) (.fld 1 (.tmp 6)) (some (52,false)) [12],.mk (some 54) (.load true 3 (.tmp 53)) (some (52,false)) [13,12],.mk (some 55) (.fld 1 (.tmp 7)) (some (52,false)) [12],.mk (some 56) (.load true 3 (.tmp 55)) (some (52,false)) [15,12],.mk (some 57) (.call 51 [.tmp 54,.tmp 56]) (some (52,false)) [14,16,12,12],.mk (some 58) (.un .not (.tmp 57)) (some (52,false)) [17,12],.mk (some 59) (.pick (.tmp 52) (.const (.bool true)) (.tmp 58)) none [12,18]]
def l12r8:List AOper :=
  [.mk (some 4) (.mv (.const (.bool false))) none []]
def l12r9:List AOper :=
  [.mk (some 28) (.mv (.tmp 5)) none [],.mk (some 29) (.bin .add (.tmp 28) (.const (.int .i64 1))) none [0],.mk (some 5) (.mv (.tmp 29)) none [1,0,1]]
def l12r10:List AOper :=
  [.mk (some 4) (.mv (.const (.bool true))) none []]
def l12:AFn :=
  (AFn.mk 60 2 (.seq (.reg l12r0) (.seq (.seq (.reg l12r1) (.cond (.tmp 22) (.seq (.reg l12r2) .ret) .skip)) (.seq (.seq (.reg l12r3) (.block 0 (.loop (.seq (.seq (.reg l12r4) (.cond (.tmp 27) .skip (.exit 0))) (.seq (.block 1 (.seq (.reg l12r5) (.seq (.reg l12r6) (.seq (.reg l12r7) (.cond (.tmp 59) (.seq (.reg l12r8) .ret) .skip))))) (.reg l12r9)))))) (.seq (.reg l12r10) .ret)))) [.tmp 4])
theorem l12_eq:lowFn Tryz.prog 12=some l12:=by kernel_rfl
def l13r0:List AOper :=
  [.mk (some 4) (.mv (.const (.bool false))) none []]
def l13r1:List AOper :=
  [.mk (some 5) (.mv (.const (.int .i64 0))) none []]
def l13r2:List AOper :=
  [.mk (some 6) (.mv (.tmp 5)) none [],.mk (some 7) (.mv (.tmp 0)) none [],.mk (some 8) (.len (.tmp 7)) none [1],.mk (some 9) (.bin .lss (.tmp 6) (.tmp 8)) none [0,2]]
def l13r3:List AOper :=
  [.mk (some 12) (.mv (.tmp 0)) none [],.mk (some 13) (.mv (.tmp 5)) none [],.mk (some 14) (.idxA 1 (.tmp 12) (.tmp 13)) none [0,1],.mk (some 15) (.load false 1 (.tmp 14)) none [2],.mk (some 16) (.mv (.tmp 1)) none [],.mk (some 17) (.bin .eql (.tmp 15) (.tmp 16)) none [3,4]]
def l13r4:List AOper :=
  [.mk (some 4) (.mv (.const (.bool true))) none []]
def l13r5:List AOper :=
  [.mk (some 10) (.mv (.tmp 5)) none [],.mk (some 11) (.bin .add (.tmp 10) (.const (.int .i64 1))) none [0],.mk (some 5) (.mv (.tmp 11)) none [1,0,1]]
def l13r6:List AOper :=
  [.mk (some 4) (.mv (.const (.bool false))) none []]
def l13:AFn :=
  (AFn.mk 18 2 (.seq (.reg l13r0) (.seq (.seq (.reg l13r1) (.block 0 (.loop (.seq (.seq (.reg l13r2) (.cond (.tmp 9) .skip (.exit 0))) (.seq (.block 1 (.seq (.reg l13r3) (.cond (.tmp 17) (.seq (.reg l13r4) .ret) .skip))) (.reg l13r5)))))) (.seq (.reg l13r6) .ret))) [.tmp 4])
theorem l13_eq:lowFn Tryz.prog 13=some l13:=by kernel_rfl
def l14r0:List AOper :=
  [.mk (some 1) (.box (.tmp 0)) none [],.mk (some 2) (.mv (.const (.slice none 0 0))) none []]
def l14r1:List AOper :=
  [.mk (some 6) (.load true 2 (.tmp 1)) none [],.mk (some 7) (.call 19 [.tmp 6]) none [0],.mk (some 8) (.un .not (.tmp 7)) none [1]]
def l14r2:List AOper :=
  [.mk (some 2) (.mv (.const (.slice none 0 0))) none []]
def l14r3:List AOper :=
  [.mk (some 3) (.mv (.const (.slice none 0 0))) none []]
def l14r4:List AOper :=
  [.mk (some 9) (.fld 1 (.tmp 1)) none [],.mk (some 10) (.load false 1 (.tmp 9)) none [0],.mk (some 11) (.len (.tmp 10)) none [1],.mk (some 12) (.mv (.const (.int .i64 0))) none []]
def l14r5:List AOper :=
  [.mk (some 13) (.bin .lss (.tmp 12) (.tmp 11)) none []]
def l14r6:List AOper :=
  [.mk (some 14) (.mv (.tmp 12)) none [],.mk (some 15) (.idxA 5 (.tmp 10) (.tmp 12)) none [],.mk (some 16) (.load true 5 (.tmp 15)) none [1],.mk (some 5) (.alloc [.int .i64 0,.int .i64 0,.slice none 0 0,.slice none 0 0,.bool false]) none [],.mk (some 4) (.mv (.tmp 14)) none [0,0,1,2,3],.mk none (.store 5 (.tmp 5) (.tmp 16)) none [3,2,4,0,1,2,3,4]]
def l14r7:List AOper :=
  [.mk (some 17) (.fld 4 (.tmp 5)) none [],.mk (some 18) (.load false 1 (.tmp 17)) none [0]]
def l14r8:List AOper :=
  [.mk (some 19) (.mv (.tmp 3)) none [],.mk (some 20) (.mv (.tmp 4)) none [],.mk (some 21) (.bslice 1 [.int .i64 0] [(0,.tmp 20)] 1) none [1],.mk (some 22) (.append 1 (.tmp 19) (.tmp 21)) none [0,2],.mk (some 3) (.mv (.tmp 22)) none [3,3,0,1,2,3]]
def l14r9:List AOper :=
  [.mk (some 23) (.bin .add (.tmp 12) (.const (.int .i64 1))) none [],.mk (some 12) (.mv (.tmp 23)) none [0]]
def l14r10:List AOper :=
  [.mk (some 24) (.mv (.tmp 3)) none [],.mk (some 2) (.mv (.tmp 24)) none [0,0]]
def l14:AFn :=
  (AFn.mk 25 1 (.seq (.reg l14r0) (.seq (.seq (.reg l14r1) (.cond (.tmp 8) (.seq (.reg l14r2) .ret) .skip)) (.seq (.reg l14r3) (.seq (.seq (.reg l14r4) (.block 0 (.loop (.seq (.reg l14r5) (.seq (.cond (.tmp 13) .skip (.exit 0)) (.seq (.block 1 (.seq (.reg l14r6) (.seq (.reg l14r7) (.cond (.tmp 18) (.reg l14r8) .skip)))) (.reg l14r9))))))) (.seq (.reg l14r10) .ret))))) [.tmp 2])
theorem l14_eq:lowFn Tryz.prog 14=some l14:=by kernel_rfl
def l15r0:List AOper :=
  [.mk (some 4) (.mv (.const (.bool false))) none []]
def l15r1:List AOper :=
  [.mk (some 6) (.mv (.tmp 0)) none [],.mk (some 7) (.len (.tmp 6)) none [0],.mk (some 8) (.mv (.tmp 1)) none [],.mk (some 9) (.len (.tmp 8)) none [2],.mk (some 10) (.bin .neq (.tmp 7) (.tmp 9)) none [1,3]]
def l15r2:List AOper :=
  [.mk (some 4) (.mv (.const (.bool false))) none []]
def l15r3:List AOper :=
  [.mk (some 5) (.mv (.const (.int .i64 0))) none []]
def l15r4:List AOper :=
  [.mk (some 11) (.mv (.tmp 5)) none [],.mk (some 12) (.mv (.tmp 0)) none [],.mk (some 13) (.len (.tmp 12)) none [1],.mk (some 14) (.bin .lss (.tmp 11) (.tmp 13)) none [0,2]]
def l15r5a:List AOper :=
  [.mk (some 17) (.mv (.tmp 0)) none [],.mk (some 18) (.mv (.tmp 5)) none [],.mk (some 19) (.idxA 1 (.tmp 17) (.tmp 18)) none [0,1],.mk (some 20) (.load false 1 (.tmp 19)) none [2],.mk (some 21) (.mv (.tmp 1)) none [],.mk (some 22) (.mv (.tmp 5)) none [],.mk (some 23) (.idxA 1 (.tmp 21) (.tmp 22)) none [4,5],.mk (some 24) (.load false 1 (.tmp 23)) none [6]]
def l15r5b:List AOper :=
  [.mk (some 25) (.bin .neq (.tmp 20) (.tmp 24)) none [3,7]]
def l15r5:List AOper:=l15r5a ++ l15r5b
def l15r6:List AOper :=
  [.mk (some 4) (.mv (.const (.bool false))) none []]
def l15r7:List AOper :=
  [.mk (some 15) (.mv (.tmp 5)) none [],.mk (some 16) (.bin .add (.tmp 15) (.const (.int .i64 1))) none [0],.mk (some 5) (.mv (.tmp 16)) none [1,0,1]]
def l15r8:List AOper :=
  [.mk (some 4) (.mv (.const (.bool true))) none []]
def l15:AFn :=
  (AFn.mk 26 2 (.seq (.reg l15r0) (.seq (.seq (.reg l15r1) (.cond (.tmp 10) (.seq (.reg l15r2) .ret) .skip)) (.seq (.seq (.reg l15r3) (.block 0 (.loop (.seq (.seq (.reg l15r4) (.cond (.tmp 14) .skip (.exit 0))) (.seq (.block 1 (.seq (.draw l15r5) (.cond (.tmp 25) (.seq (.reg l15r6) .ret) .skip))) (.reg l15r7)))))) (.seq (.reg l15r8) .ret)))) [.tmp 4])
theorem l15_eq:lowFn Tryz.prog 15=some l15:=by kernel_rfl
def l16r0:List AOper :=
  [.mk (some 2) (.box (.tmp 0)) none [],.mk (some 4) (.mv (.const (.slice none 0 0))) none []]
def l16r1:List AOper :=
  [.mk (some 5) (.load true 2 (.tmp 2)) none [],.mk (some 6) (.mv (.tmp 1)) none [],.mk (some 7) (.call 42 [.tmp 5,.tmp 6]) none [0,1],.mk (some 8) (.un .not (.tmp 7)) none [2]]
def l16r2:List AOper :=
  [.mk (some 4) (.mv (.const (.slice none 0 0))) none []]
def l16r3a:List AOper :=
  [.mk (some 9) (.fld 0 (.tmp 2)) none [],.mk (some 10) (.load false 1 (.tmp 9)) none [0],.mk (some 11) (.fld 1 (.tmp 2)) none [],.mk (some 12) (.load false 1 (.tmp 11)) none [2],.mk (some 13) (.mv (.tmp 1)) none [],.mk (some 14) (.idxA 5 (.tmp 12) (.tmp 13)) none [3,4],.mk (some 15) (.fld 1 (.tmp 14)) none [5],.mk (some 16) (.load true 3 (.tmp 15)) none [6]]
def l16r3b:List AOper :=
  [.mk (some 17) (.call 20 [.tmp 10,.tmp 16]) none [1,7],.mk (some 4) (.mv (.tmp 17)) none [8,8,0,1,2,3,4,5,6,7,8]]
def l16r3:List AOper:=l16r3a ++ l16r3b
def l16:AFn :=
  (AFn.mk 18 2 (.seq (.reg l16r0) (.seq (.seq (.reg l16r1) (.cond (.tmp 8) (.seq (.reg l16r2) .ret) .skip)) (.seq (.draw l16r3) .ret))) [.tmp 4])
theorem l16_eq:lowFn Tryz.prog 16=some l16:=by kernel_rfl
def l19r0:List AOper :=
  [.mk (some 1) (.box (.tmp 0)) none [],.mk (some 2) (.mv (.const (.bool false))) none []]
def l19r1:List AOper :=
  [.mk (some 7) (.fld 0 (.tmp 1)) none [],.mk (some 8) (.load false 1 (.tmp 7)) none [0],.mk (some 9) (.call 53 [.tmp 8]) none [1],.mk (some 10) (.un .not (.tmp 9)) none [2],.mk (some 11) (.mv (.tmp 10)) none [3,2],.mk (some 12) (.fld 1 (.tmp 1)) (some (11,false)) [4],.mk (some 13) (.load false 1 (.tmp 12)) (some (11,false)) [5,4],.mk (some 14) (.len (.tmp 13)) (some (11,false)) [6,4],.mk (some 15) (.bin .gtr (.tmp 14) (.const (.int .i64 8))) (some (11,false)) [7,4],.mk (some 16) (.pick (.tmp 11) (.const (.bool true)) (.tmp 15)) none [4,8]]
def l19r2:List AOper :=
  [.mk (some 2) (.mv (.const (.bool false))) none []]
def l19r3:List AOper :=
  [.mk (some 17) (.fld 1 (.tmp 1)) none [],.mk (some 18) (.load false 1 (.tmp 17)) none [0],.mk (some 19) (.len (.tmp 18)) none [1],.mk (some 20) (.mv (.const (.int .i64 0))) none []]
def l19r4:List AOper :=
  [.mk (some 21) (.bin .lss (.tmp 20) (.tmp 19)) none []]
def l19r5:List AOper :=
  [.mk (some 22) (.mv (.tmp 20)) none [],.mk (some 23) (.idxA 5 (.tmp 18) (.tmp 20)) none [],.mk (some 24) (.load true 5 (.tmp 23)) none [1],.mk (some 4) (.alloc [.int .i64 0,.int .i64 0,.slice none 0 0,.slice none 0 0,.bool false]) none [],.mk (some 3) (.mv (.tmp 22)) none [0,0,1,2,3],.mk none (.store 5 (.tmp 4) (.tmp 24)) none [3,2,4,0,1,2,3,4]]
def l19r6:List AOper :=
  [.mk (some 25) (.load true 5 (.tmp 4)) none [],.mk (some 26) (.mv (.tmp 3)) none [],.mk (some 27) (.fld 0 (.tmp 1)) none [],.mk (some 28) (.load false 1 (.tmp 27)) none [2],.mk (some 29) (.len (.tmp 28)) none [3],.mk (some 30) (.call 54 [.tmp 25,.tmp 26,.tmp 29]) none [0,1,4],.mk (some 31) (.un .not (.tmp 30)) none [5]]
def l19r7:List AOper :=
  [.mk (some 2) (.mv (.const (.bool false))) none []]
def l19r8:List AOper :=
  [.mk (some 32) (.bin .add (.tmp 20) (.const (.int .i64 1))) none [],.mk (some 20) (.mv (.tmp 32)) none [0]]
def l19r9:List AOper :=
  [.mk (some 33) (.fld 1 (.tmp 1)) none [],.mk (some 34) (.load false 1 (.tmp 33)) none [0],.mk (some 35) (.len (.tmp 34)) none [1],.mk (some 36) (.mv (.const (.int .i64 0))) none []]
def l19r10:List AOper :=
  [.mk (some 37) (.bin .lss (.tmp 36) (.tmp 35)) none []]
def l19r11:List AOper :=
  [.mk (some 38) (.mv (.tmp 36)) none [],.mk (some 39) (.idxA 5 (.tmp 34) (.tmp 36)) none [],.mk (some 40) (.load true 5 (.tmp 39)) none [1],.mk (some 6) (.alloc [.int .i64 0,.int .i64 0,.slice none 0 0,.slice none 0 0,.bool false]) none [],.mk (some 5) (.mv (.tmp 38)) none [0,0,1,2,3],.mk none (.store 5 (.tmp 6) (.tmp 40)) none [3,2,4,0,1,2,3,4]]
def l19r12a:List AOper :=
  [.mk (some 41) (.fld 4 (.tmp 6)) none [],.mk (some 42) (.load false 1 (.tmp 41)) none [0],.mk (some 43) (.un .not (.tmp 42)) none [1],.mk (some 44) (.mv (.tmp 43)) none [2],.mk (some 45) (.load true 2 (.tmp 1)) (some (44,true)) [3],.mk (some 46) (.mv (.tmp 5)) (some (44,true)) [3],.mk (some 47) (.call 44 [.tmp 45,.tmp 46]) (some (44,true)) [4,5,3,3],.mk (some 48) (.call 45 [.tmp 47]) (some (44,true)) [6,6,3],.mk (some 49) (.load false 1 (.global 0)) (some (44,true)) [3]]
def l19r12b:List AOper :=
  [.mk (some 50) (.call 43 [.tmp 48,.tmp 49]) (some (44,true)) [7,8,7,3],.mk (some 51) (.pick (.tmp 44) (.tmp 50) (.const (.bool false))) none [3,9]]
def l19r12:List AOper:=l19r12a ++ l19r12b
def l19r13:List AOper :=
  [.mk (some 2) (.mv (.const (.bool false))) none []]
def l19r14:List AOper :=
  [.mk (some 52) (.bin .add (.tmp 36) (.const (.int .i64 1))) none [],.mk (some 36) (.mv (.tmp 52)) none [0]]
def l19r15:List AOper :=
  [.mk (some 2) (.mv (.const (.bool true))) none []]
def l19:AFn :=
  (AFn.mk 53 1 (.seq (.reg l19r0) (.seq (.seq (.reg l19r1) (.cond (.tmp 16) (.seq (.reg l19r2) .ret) .skip)) (.seq (.seq (.reg l19r3) (.block 0 (.loop (.seq (.reg l19r4) (.seq (.cond (.tmp 21) .skip (.exit 0)) (.seq (.block 1 (.seq (.reg l19r5) (.seq (.reg l19r6) (.cond (.tmp 31) (.seq (.reg l19r7) .ret) .skip)))) (.reg l19r8))))))) (.seq (.seq (.reg l19r9) (.block 2 (.loop (.seq (.reg l19r10) (.seq (.cond (.tmp 37) .skip (.exit 2)) (.seq (.block 3 (.seq (.reg l19r11) (.seq (.draw l19r12) (.cond (.tmp 51) (.seq (.reg l19r13) .ret) .skip)))) (.reg l19r14))))))) (.seq (.reg l19r15) .ret))))) [.tmp 2])
theorem l19_eq:lowFn Tryz.prog 19=some l19:=by kernel_rfl
def l23r0:List AOper :=
  [.mk (some 3) (.box (.tmp 0)) none [],.mk (some 6) (.alloc [.slice none 0 0,.slice none 0 0]) none [],.mk (some 7) (.mv (.const (.bool false))) none []]
def l23r1:List AOper :=
  [.mk (some 9) (.load true 2 (.tmp 3)) none [],.mk (some 10) (.call 47 [.tmp 9]) none [0],.mk (some 11) (.un .not (.tmp 10)) none [1],.mk (some 12) (.mv (.tmp 11)) none [2,1],.mk (some 13) (.load true 2 (.tmp 3)) (some (12,false)) [3],.mk (some 14) (.mv (.tmp 1)) (some (12,false)) [3],.mk (some 15) (.call 48 [.tmp 13,.tmp 14]) (some (12,false)) [4,5,3,3],.mk (some 16) (.un .not (.tmp 15)) (some (12,false)) [6,3],.mk (some 17) (.pick (.tmp 12) (.const (.bool true)) (.tmp 16)) none [3,7],.mk (some 18) (.mv (.tmp 17)) none [8,6],.mk (some 19) (.mv (.tmp 2)) (some (18,false)) [9],.mk (some 20) (.call 60 [.tmp 19,.const (.int .i64 0),.const (.int .i64 255)]) (some (18,false)) [10,9,9],.mk (some 21) (.un .not (.tmp 20)) (some (18,false)) [11,9],.mk (some 22) (.pick (.tmp 18) (.const (.bool true)) (.tmp 21)) none [9,12]]
def l23r2:List AOper :=
  [.mk (some 23) (.build [.slice none 0 0,.slice none 0 0] []) none [],.mk none (.store 2 (.tmp 6) (.tmp 23)) none [0,0],.mk (some 7) (.mv (.const (.bool false))) none [1,0,1]]
def l23r3:List AOper :=
  [.mk (some 24) (.load true 2 (.tmp 3)) none [],.mk (some 25) (.call 50 [.tmp 24]) none [0],.mk (some 8) (.alloc [.slice none 0 0,.slice none 0 0]) none [],.mk none (.store 2 (.tmp 8) (.tmp 25)) none [2,1,1,0,1,2]]
def l23r4a:List AOper :=
  [.mk (some 27) (.fld 0 (.tmp 3)) none [],.mk (some 28) (.load false 1 (.tmp 27)) none [0],.mk (some 29) (.fld 1 (.tmp 3)) none [],.mk (some 30) (.load false 1 (.tmp 29)) none [2],.mk (some 31) (.mv (.tmp 1)) none [],.mk (some 32) (.idxA 5 (.tmp 30) (.tmp 31)) none [3,4],.mk (some 33) (.fld 1 (.tmp 32)) none [5],.mk (some 34) (.load true 3 (.tmp 33)) none [6],.mk (some 35) (.mv (.tmp 2)) none [],.mk (some 36) (.call 61 [.tmp 28,.tmp 34,.tmp 35]) none [1,7,8],.mk (some 26) (.mv (.tmp 36)) none [9],.mk (some 37) (.extract (.tmp 26) 0) none [10],.mk (some 38) (.extract (.tmp 26) 1) none [10],.mk (some 39) (.fld 0 (.tmp 8)) none [0,1,2,3,4,5,6,7,8,9,10,11],.mk none (.store 1 (.tmp 39) (.tmp 37)) none [13,11,9,0,1,2,3,4,5,6,7,8,9,10,11]]
def l23r4b:List AOper :=
  []
def l23r4:List AOper:=l23r4a ++ l23r4b
def l23r5:List AOper :=
  [.mk (some 40) (.load true 2 (.tmp 8)) none [],.mk none (.store 2 (.tmp 6) (.tmp 40)) none [0,0],.mk (some 7) (.mv (.const (.bool true))) none [1,0,1]]
def l23:AFn :=
  (AFn.mk 41 3 (.seq (.reg l23r0) (.seq (.seq (.reg l23r1) (.cond (.tmp 22) (.seq (.reg l23r2) .ret) .skip)) (.seq (.reg l23r3) (.seq (.draw l23r4) (.seq (.reg l23r5) .ret))))) [.cell 6 true 2,.tmp 7])
theorem l23_eq:lowFn Tryz.prog 23=some l23:=by kernel_rfl
def l28r0:List AOper :=
  [.mk (some 3) (.box (.tmp 0)) none [],.mk (some 6) (.alloc [.slice none 0 0,.slice none 0 0]) none [],.mk (some 7) (.mv (.const (.bool false))) none []]
def l28r1:List AOper :=
  [.mk (some 11) (.load true 2 (.tmp 3)) none [],.mk (some 12) (.call 47 [.tmp 11]) none [0],.mk (some 13) (.un .not (.tmp 12)) none [1],.mk (some 14) (.mv (.tmp 13)) none [2,1],.mk (some 15) (.load true 2 (.tmp 3)) (some (14,false)) [3],.mk (some 16) (.mv (.tmp 1)) (some (14,false)) [3],.mk (some 17) (.call 48 [.tmp 15,.tmp 16]) (some (14,false)) [4,5,3,3],.mk (some 18) (.un .not (.tmp 17)) (some (14,false)) [6,3],.mk (some 19) (.pick (.tmp 14) (.const (.bool true)) (.tmp 18)) none [3,7],.mk (some 20) (.mv (.tmp 19)) none [8,6],.mk (some 21) (.load true 2 (.tmp 3)) (some (20,false)) [9],.mk (some 22) (.mv (.tmp 2)) (some (20,false)) [9],.mk (some 23) (.call 48 [.tmp 21,.tmp 22]) (some (20,false)) [10,11,9,9],.mk (some 24) (.un .not (.tmp 23)) (some (20,false)) [12,9],.mk (some 25) (.pick (.tmp 20) (.const (.bool true)) (.tmp 24)) none [9,13]]
def l28r2:List AOper :=
  [.mk (some 26) (.build [.slice none 0 0,.slice none 0 0] []) none [],.mk none (.store 2 (.tmp 6) (.tmp 26)) none [0,0],.mk (some 7) (.mv (.const (.bool false))) none [1,0,1]]
def l28r3a:List AOper :=
  [.mk (some 28) (.fld 0 (.tmp 3)) none [],.mk (some 29) (.load false 1 (.tmp 28)) none [0],.mk (some 30) (.fld 1 (.tmp 3)) none [],.mk (some 31) (.load false 1 (.tmp 30)) none [2],.mk (some 32) (.mv (.tmp 1)) none [],.mk (some 33) (.idxA 5 (.tmp 31) (.tmp 32)) none [3,4],.mk (some 34) (.fld 1 (.tmp 33)) none [5],.mk (some 35) (.load true 3 (.tmp 34)) none [6],.mk (some 36) (.fld 1 (.tmp 3)) none [],.mk (some 37) (.load false 1 (.tmp 36)) none [8],.mk (some 38) (.mv (.tmp 2)) none [],.mk (some 39) (.idxA 5 (.tmp 37) (.tmp 38)) none [9,10],.mk (some 40) (.fld 1 (.tmp 39)) none [11],.mk (some 41) (.load true 3 (.tmp 40)) none [12],.mk (some 42) (.call 67 [.tmp 29,.tmp 35,.tmp 41]) none [1,7,13],.mk (some 27) (.mv (.tmp 42)) none [14],.mk (some 43) (.extract (.tmp 27) 0) none [15],.mk (some 44) (.extract (.tmp 27) 1) none [15],.mk (some 8) (.mv (.tmp 43)) none [16,14,0,1,2,3,4,5,6,7,8,9,10,11,12,13,14,15,16]]
def l28r3b:List AOper :=
  [.mk (some 9) (.mv (.tmp 44)) none [17,18,0,1,2,3,4,5,6,7,8,9,10,11,12,13,14,15,16,17,18]]
def l28r3:List AOper:=l28r3a ++ l28r3b
def l28r4:List AOper :=
  [.mk (some 45) (.mv (.tmp 9)) none [],.mk (some 46) (.un .not (.tmp 45)) none [0]]
def l28r5:List AOper :=
  [.mk (some 47) (.build [.slice none 0 0,.slice none 0 0] []) none [],.mk none (.store 2 (.tmp 6) (.tmp 47)) none [0,0],.mk (some 7) (.mv (.const (.bool false))) none [1,0,1]]
def l28r6:List AOper :=
  [.mk (some 48) (.load true 2 (.tmp 3)) none [],.mk (some 49) (.call 50 [.tmp 48]) none [0],.mk (some 10) (.alloc [.slice none 0 0,.slice none 0 0]) none [],.mk none (.store 2 (.tmp 10) (.tmp 49)) none [2,1,1,0,1,2]]
def l28r7:List AOper :=
  [.mk (some 50) (.mv (.tmp 8)) none [],.mk (some 51) (.fld 0 (.tmp 10)) none [0],.mk none (.store 1 (.tmp 51) (.tmp 50)) none [1,0,0]]
def l28r8:List AOper :=
  [.mk (some 52) (.load true 2 (.tmp 10)) none [],.mk none (.store 2 (.tmp 6) (.tmp 52)) none [0,0],.mk (some 7) (.mv (.const (.bool true))) none [1,0,1]]
def l28:AFn :=
  (AFn.mk 53 3 (.seq (.reg l28r0) (.seq (.seq (.reg l28r1) (.cond (.tmp 25) (.seq (.reg l28r2) .ret) .skip)) (.seq (.draw l28r3) (.seq (.seq (.reg l28r4) (.cond (.tmp 46) (.seq (.reg l28r5) .ret) .skip)) (.seq (.reg l28r6) (.seq (.reg l28r7) (.seq (.reg l28r8) .ret))))))) [.cell 6 true 2,.tmp 7])
theorem l28_eq:lowFn Tryz.prog 28=some l28:=by kernel_rfl
def l34r0:List AOper :=
  [.mk (some 2) (.box (.tmp 0)) none [],.mk (some 3) (.box (.tmp 1)) none [],.mk (some 4) (.alloc [.slice none 0 0,.slice none 0 0]) none [],.mk (some 5) (.mv (.const (.bool false))) none []]
def l34r1:List AOper :=
  [.mk (some 6) (.load true 2 (.tmp 2)) none [],.mk (some 7) (.call 47 [.tmp 6]) none [0],.mk (some 8) (.un .not (.tmp 7)) none [1],.mk (some 9) (.mv (.tmp 8)) none [2,1],.mk (some 10) (.load true 3 (.tmp 3)) (some (9,false)) [3],.mk (some 11) (.call 72 [.tmp 10]) (some (9,false)) [4,3,3],.mk (some 12) (.un .not (.tmp 11)) (some (9,false)) [5,3],.mk (some 13) (.pick (.tmp 9) (.const (.bool true)) (.tmp 12)) none [3,6],.mk (some 14) (.mv (.tmp 13)) none [7,5],.mk (some 15) (.load true 3 (.tmp 3)) (some (14,false)) [8],.mk (some 16) (.fld 0 (.tmp 2)) (some (14,false)) [8],.mk (some 17) (.load false 1 (.tmp 16)) (some (14,false)) [10,8],.mk (some 18) (.len (.tmp 17)) (some (14,false)) [11,8],.mk (some 19) (.call 73 [.tmp 15,.tmp 18]) (some (14,false)) [9,12,8,8],.mk (some 20) (.un .not (.tmp 19)) (some (14,false)) [13,8],.mk (some 21) (.pick (.tmp 14) (.const (.bool true)) (.tmp 20)) none [8,14],.mk (some 22) (.mv (.tmp 21)) none [15,13],.mk (some 23) (.fld 1 (.tmp 2)) (some (22,false)) [16],.mk (some 24) (.load false 1 (.tmp 23)) (some (22,false)) [17,16],.mk (some 25) (.len (.tmp 24)) (some (22,false)) [18,16],.mk (some 26) (.bin .eql (.tmp 25) (.const (.int .i64 8))) (some (22,false)) [19,16],.mk (some 27) (.pick (.tmp 22) (.const (.bool true)) (.tmp 26)) none [16,20]]
def l34r2:List AOper :=
  [.mk (some 28) (.build [.slice none 0 0,.slice none 0 0] []) none [],.mk none (.store 2 (.tmp 4) (.tmp 28)) none [0,0],.mk (some 5) (.mv (.const (.bool false))) none [1,0,1]]
def l34r3:List AOper :=
  [.mk (some 29) (.load true 2 (.tmp 2)) none [],.mk (some 30) (.load true 3 (.tmp 3)) none [],.mk (some 31) (.call 74 [.tmp 29,.const (.int .i64 (-1)),.tmp 30]) none [0,1],.mk none (.store 2 (.tmp 4) (.tmp 31)) none [2,2,0,1,2],.mk (some 5) (.mv (.const (.bool true))) none [3,0,1,2,3]]
def l34:AFn :=
  (AFn.mk 32 2 (.seq (.reg l34r0) (.seq (.seq (.reg l34r1) (.cond (.tmp 27) (.seq (.reg l34r2) .ret) .skip)) (.seq (.reg l34r3) .ret))) [.cell 4 true 2,.tmp 5])
theorem l34_eq:lowFn Tryz.prog 34=some l34:=by kernel_rfl
def l37r0:List AOper :=
  [.mk (some 4) (.box (.tmp 0)) none [],.mk (some 7) (.box (.tmp 3)) none [],.mk (some 8) (.alloc [.slice none 0 0,.slice none 0 0]) none [],.mk (some 9) (.mv (.const (.bool false))) none []]
def l37r1:List AOper :=
  [.mk (some 12) (.load true 2 (.tmp 4)) none [],.mk (some 13) (.call 47 [.tmp 12]) none [0],.mk (some 14) (.un .not (.tmp 13)) none [1],.mk (some 15) (.mv (.tmp 14)) none [2,1],.mk (some 16) (.load true 2 (.tmp 4)) (some (15,false)) [3],.mk (some 17) (.mv (.tmp 1)) (some (15,false)) [3],.mk (some 18) (.call 48 [.tmp 16,.tmp 17]) (some (15,false)) [4,5,3,3],.mk (some 19) (.un .not (.tmp 18)) (some (15,false)) [6,3],.mk (some 20) (.pick (.tmp 15) (.const (.bool true)) (.tmp 19)) none [3,7],.mk (some 21) (.mv (.tmp 20)) none [8,6],.mk (some 22) (.fld 1 (.tmp 4)) (some (21,false)) [9],.mk (some 23) (.load false 1 (.tmp 22)) (some (21,false)) [10,9],.mk (some 24) (.len (.tmp 23)) (some (21,false)) [11,9],.mk (some 25) (.bin .eql (.tmp 24) (.const (.int .i64 8))) (some (21,false)) [12,9],.mk (some 26) (.pick (.tmp 21) (.const (.bool true)) (.tmp 25)) none [9,13]]
def l37r2:List AOper :=
  [.mk (some 27) (.build [.slice none 0 0,.slice none 0 0] []) none [],.mk none (.store 2 (.tmp 8) (.tmp 27)) none [0,0],.mk (some 9) (.mv (.const (.bool false))) none [1,0,1]]
def l37r3a:List AOper :=
  [.mk (some 29) (.fld 1 (.tmp 4)) none [],.mk (some 30) (.load false 1 (.tmp 29)) none [0],.mk (some 31) (.mv (.tmp 1)) none [],.mk (some 32) (.idxA 5 (.tmp 30) (.tmp 31)) none [1,2],.mk (some 33) (.fld 1 (.tmp 32)) none [3],.mk (some 34) (.load true 3 (.tmp 33)) none [4],.mk (some 35) (.mv (.tmp 2)) none [],.mk (some 36) (.load true 5 (.tmp 7)) none [],.mk (some 37) (.call 77 [.tmp 34,.tmp 35,.tmp 36]) none [5,6,7],.mk (some 28) (.mv (.tmp 37)) none [8],.mk (some 38) (.extract (.tmp 28) 0) none [9],.mk (some 39) (.extract (.tmp 28) 1) none [9],.mk (some 10) (.alloc [.int .i64 0,.slice none 0 0,.slice none 0 0]) none [],.mk none (.store 3 (.tmp 10) (.tmp 38)) none [12,10,8,0,1,2,3,4,5,6,7,8,9,10,12]]
def l37r3b:List AOper :=
  [.mk (some 11) (.mv (.tmp 39)) none [11,13,0,1,2,3,4,5,6,7,8,9,10,11,12,13]]
def l37r3:List AOper:=l37r3a ++ l37r3b
def l37r4:List AOper :=
  [.mk (some 40) (.mv (.tmp 11)) none [],.mk (some 41) (.un .not (.tmp 40)) none [0]]
def l37r5:List AOper :=
  [.mk (some 42) (.build [.slice none 0 0,.slice none 0 0] []) none [],.mk none (.store 2 (.tmp 8) (.tmp 42)) none [0,0],.mk (some 9) (.mv (.const (.bool false))) none [1,0,1]]
def l37r6:List AOper :=
  [.mk (some 43) (.load true 2 (.tmp 4)) none [],.mk (some 44) (.mv (.tmp 1)) none [],.mk (some 45) (.load true 3 (.tmp 10)) none [],.mk (some 46) (.call 74 [.tmp 43,.tmp 44,.tmp 45]) none [0,1,2],.mk none (.store 2 (.tmp 8) (.tmp 46)) none [3,3,0,1,2,3],.mk (some 9) (.mv (.const (.bool true))) none [4,0,1,2,3,4]]
def l37:AFn :=
  (AFn.mk 47 4 (.seq (.reg l37r0) (.seq (.seq (.reg l37r1) (.cond (.tmp 26) (.seq (.reg l37r2) .ret) .skip)) (.seq (.draw l37r3) (.seq (.seq (.reg l37r4) (.cond (.tmp 41) (.seq (.reg l37r5) .ret) .skip)) (.seq (.reg l37r6) .ret))))) [.cell 8 true 2,.tmp 9])
theorem l37_eq:lowFn Tryz.prog 37=some l37:=by kernel_rfl
def l40r0:List AOper :=
  [.mk (some 2) (.alloc [.slice none 0 0,.slice none 0 0]) none [],.mk (some 3) (.mv (.const (.int .i64 0))) none []]
def l40r1:List AOper :=
  [.mk (some 7) (.mv (.tmp 0)) none [],.mk (some 8) (.call 68 [.tmp 7]) none [0],.mk (some 4) (.alloc [.slice none 0 0,.slice none 0 0]) none [],.mk none (.store 2 (.tmp 4) (.tmp 8)) none [2,1,1,0,1,2]]
def l40r2:List AOper :=
  [.mk (some 9) (.bslice 1 [.int .i64 0] [] 0) none [],.mk (some 5) (.mv (.tmp 9)) none [0,0]]
def l40r3:List AOper :=
  [.mk (some 6) (.mv (.const (.int .i64 0))) none []]
def l40r4:List AOper :=
  [.mk (some 10) (.mv (.tmp 6)) none [],.mk (some 11) (.fld 1 (.tmp 4)) none [],.mk (some 12) (.load false 1 (.tmp 11)) none [1],.mk (some 13) (.len (.tmp 12)) none [2],.mk (some 14) (.bin .lss (.tmp 10) (.tmp 13)) none [0,3]]
def l40r5:List AOper :=
  [.mk (some 17) (.fld 1 (.tmp 4)) none [],.mk (some 18) (.load false 1 (.tmp 17)) none [0],.mk (some 19) (.mv (.tmp 6)) none [],.mk (some 20) (.idxA 5 (.tmp 18) (.tmp 19)) none [1,2],.mk (some 21) (.fld 4 (.tmp 20)) none [3],.mk (some 22) (.load false 1 (.tmp 21)) none [4]]
def l40r6:List AOper :=
  [.mk (some 23) (.mv (.tmp 5)) none [],.mk (some 24) (.mv (.tmp 6)) none [],.mk (some 25) (.bslice 1 [.int .i64 0] [(0,.tmp 24)] 1) none [1],.mk (some 26) (.append 1 (.tmp 23) (.tmp 25)) none [0,2],.mk (some 5) (.mv (.tmp 26)) none [3,3,0,1,2,3]]
def l40r7:List AOper :=
  [.mk (some 15) (.mv (.tmp 6)) none [],.mk (some 16) (.bin .add (.tmp 15) (.const (.int .i64 1))) none [0],.mk (some 6) (.mv (.tmp 16)) none [1,0,1]]
def l40r8:List AOper :=
  [.mk (some 27) (.mv (.tmp 5)) none [],.mk (some 28) (.len (.tmp 27)) none [0],.mk (some 29) (.bin .gtr (.tmp 28) (.const (.int .i64 0))) none [1],.mk (some 30) (.mv (.tmp 29)) none [2],.mk (some 31) (.mv (.tmp 0)) (some (30,true)) [3],.mk (some 32) (.call 65 [.tmp 31,.const (.int .i64 4)]) (some (30,true)) [4,3,3],.mk (some 33) (.bin .gtr (.tmp 32) (.const (.int .i64 0))) (some (30,true)) [5,3],.mk (some 34) (.pick (.tmp 30) (.tmp 33) (.const (.bool false))) none [3,6]]
def l40r9a:List AOper :=
  [.mk (some 35) (.load true 2 (.tmp 4)) none [],.mk (some 36) (.mv (.tmp 5)) none [],.mk (some 37) (.mv (.tmp 0)) none [],.mk (some 38) (.mv (.tmp 5)) none [],.mk (some 39) (.len (.tmp 38)) none [3],.mk (some 40) (.call 65 [.tmp 37,.tmp 39]) none [2,4],.mk (some 41) (.idxA 1 (.tmp 36) (.tmp 40)) none [1,5],.mk (some 42) (.load false 1 (.tmp 41)) none [6],.mk none (.store 2 (.tmp 2) (.tmp 35)) none [0,5,0]]
def l40r9b:List AOper :=
  [.mk (some 3) (.mv (.tmp 42)) none [7,8,0,1,2,3,4,5,6,7,8]]
def l40r9:List AOper:=l40r9a ++ l40r9b
def l40r10a:List AOper :=
  [.mk (some 43) (.load true 2 (.tmp 4)) none [],.mk (some 44) (.mv (.tmp 0)) none [],.mk (some 45) (.mv (.tmp 0)) none [],.mk (some 46) (.fld 1 (.tmp 4)) none [],.mk (some 47) (.load false 1 (.tmp 46)) none [3],.mk (some 48) (.len (.tmp 47)) none [4],.mk (some 49) (.bin .add (.tmp 48) (.const (.int .i64 1))) none [5],.mk (some 50) (.call 65 [.tmp 45,.tmp 49]) none [2,6],.mk (some 51) (.bslice 1 [.int .i64 0] [(0,.tmp 50),(1,.const (.int .i64 (-1)))] 2) none [7],.mk (some 52) (.call 57 [.tmp 44,.tmp 51]) none [1,8,7]]
def l40r10b:List AOper :=
  [.mk none (.store 2 (.tmp 2) (.tmp 43)) none [0,9,0],.mk (some 3) (.mv (.tmp 52)) none [9,10,0,1,2,3,4,5,6,7,8,9,10]]
def l40r10:List AOper:=l40r10a ++ l40r10b
def l40:AFn :=
  (AFn.mk 53 1 (.seq (.reg l40r0) (.seq (.reg l40r1) (.seq (.reg l40r2) (.seq (.seq (.reg l40r3) (.block 0 (.loop (.seq (.seq (.reg l40r4) (.cond (.tmp 14) .skip (.exit 0))) (.seq (.block 1 (.seq (.reg l40r5) (.cond (.tmp 22) (.reg l40r6) .skip))) (.reg l40r7)))))) (.seq (.seq (.reg l40r8) (.cond (.tmp 34) (.seq (.draw l40r9) .ret) .skip)) (.seq (.draw l40r10) .ret)))))) [.cell 2 true 2,.tmp 3])
theorem l40_eq:lowFn Tryz.prog 40=some l40:=by kernel_rfl
def l41r0:List AOper :=
  [.mk (some 2) (.mv (.const (.pointer none))) none []]
def l41r1:List AOper :=
  [.mk (some 3) (.mv (.tmp 0)) none [],.mk (some 4) (.len (.tmp 3)) none [0],.mk (some 5) (.bin .gtr (.tmp 4) (.const (.int .i64 2000))) none [1]]
def l41r2:List AOper :=
  [.mk (some 6) (.mv (.tmp 0)) none [],.mk (some 7) (.slice 1 (.tmp 6) none (some (.const (.int .i64 2000)))) none [0],.mk (some 0) (.mv (.tmp 7)) none [1,0,1]]
def l41r3:List AOper :=
  [.mk (some 8) (.mv (.tmp 0)) none [],.mk (some 9) (.build [.slice none 0 0,.int .i64 0] [(0,1,.tmp 8)]) none [0],.mk (some 10) (.box (.tmp 9)) none [1],.mk (some 2) (.mv (.tmp 10)) none [2,0,1,2]]
def l41:AFn :=
  (AFn.mk 11 1 (.seq (.reg l41r0) (.seq (.seq (.reg l41r1) (.cond (.tmp 5) (.reg l41r2) .skip)) (.seq (.reg l41r3) .ret))) [.tmp 2])
theorem l41_eq:lowFn Tryz.prog 41=some l41:=by kernel_rfl
def l42r0:List AOper :=
  [.mk (some 2) (.box (.tmp 0)) none [],.mk (some 4) (.mv (.const (.bool false))) none []]
def l42r1:List AOper :=
  [.mk (some 5) (.load true 2 (.tmp 2)) none [],.mk (some 6) (.call 19 [.tmp 5]) none [0],.mk (some 7) (.mv (.tmp 6)) none [1,1],.mk (some 8) (.mv (.tmp 1)) (some (7,true)) [2],.mk (some 9) (.fld 1 (.tmp 2)) (some (7,true)) [2],.mk (some 10) (.load false 1 (.tmp 9)) (some (7,true)) [4,2],.mk (some 11) (.len (.tmp 10)) (some (7,true)) [5,2],.mk (some 12) (.bin .sub (.tmp 11) (.const (.int .i64 1))) (some (7,true)) [6,2],.mk (some 13) (.call 80 [.tmp 8,.tmp 12]) (some (7,true)) [3,7,2,2],.mk (some 14) (.pick (.tmp 7) (.tmp 13) (.const (.bool false))) none [2,8],.mk (some 15) (.mv (.tmp 14)) none [9,8],.mk (some 16) (.fld 1 (.tmp 2)) (some (15,true)) [10],.mk (some 17) (.load false 1 (.tmp 16)) (some (15,true)) [11,10],.mk (some 18) (.mv (.tmp 1)) (some (15,true)) [10],.mk (some 19) (.idxA 5 (.tmp 17) (.tmp 18)) (some (15,true)) [12,13,10],.mk (some 20) (.fld 4 (.tmp 19)) (some (15,true)) [14,10],.mk (some 21) (.load false 1 (.tmp 20)) (some (15,true)) [15,10],.mk (some 22) (.pick (.tmp 15) (.tmp 21) (.const (.bool false))) none [10,16],.mk (some 4) (.mv (.tmp 22)) none [17,10,0,1,2,3,4,5,6,7,8,9,10,11,12,13,14,15,16,17]]
def l42:AFn :=
  (AFn.mk 23 2 (.seq (.reg l42r0) (.seq (.reg l42r1) .ret)) [.tmp 4])
theorem l42_eq:lowFn Tryz.prog 42=some l42:=by kernel_rfl
def l44r0:List AOper :=
  [.mk (some 2) (.box (.tmp 0)) none [],.mk (some 4) (.mv (.const (.pointer none))) none []]
def l44r1:List AOper :=
  [.mk (some 10) (.build [.slice none 0 0] []) none [],.mk (some 11) (.box (.tmp 10)) none [0],.mk (some 5) (.mv (.tmp 11)) none [1,0,1]]
def l44r2:List AOper :=
  [.mk (some 6) (.mv (.const (.slice none 0 0))) none []]
def l44r3:List AOper :=
  [.mk (some 12) (.fld 1 (.tmp 2)) none [],.mk (some 13) (.load false 1 (.tmp 12)) none [0],.mk (some 14) (.len (.tmp 13)) none [1],.mk (some 15) (.mv (.const (.int .i64 0))) none []]
def l44r4:List AOper :=
  [.mk (some 16) (.bin .lss (.tmp 15) (.tmp 14)) none []]
def l44r5:List AOper :=
  [.mk (some 17) (.mv (.tmp 15)) none [],.mk (some 18) (.idxA 5 (.tmp 13) (.tmp 15)) none [],.mk (some 19) (.load true 5 (.tmp 18)) none [1],.mk (some 8) (.alloc [.int .i64 0,.int .i64 0,.slice none 0 0,.slice none 0 0,.bool false]) none [],.mk (some 7) (.mv (.tmp 17)) none [0,0,1,2,3],.mk none (.store 5 (.tmp 8) (.tmp 19)) none [3,2,4,0,1,2,3,4]]
def l44r6:List AOper :=
  [.mk (some 20) (.mv (.tmp 5)) none [],.mk (some 9) (.mv (.tmp 20)) none [0,0]]
def l44r7:List AOper :=
  [.mk (some 21) (.fld 0 (.tmp 8)) none [],.mk (some 22) (.load false 1 (.tmp 21)) none [0],.mk (some 23) (.bin .neq (.tmp 22) (.const (.int .i64 (-1)))) none [1]]
def l44r8:List AOper :=
  [.mk (some 24) (.mv (.tmp 6)) none [],.mk (some 25) (.fld 0 (.tmp 8)) none [],.mk (some 26) (.load false 1 (.tmp 25)) none [1],.mk (some 27) (.idxA 1 (.tmp 24) (.tmp 26)) none [0,2],.mk (some 28) (.load false 1 (.tmp 27)) none [3],.mk (some 9) (.mv (.tmp 28)) none [4,0,1,2,3,4]]
def l44r9:List AOper :=
  [.mk (some 29) (.mv (.tmp 6)) none [],.mk (some 30) (.mv (.tmp 9)) none [],.mk (some 31) (.mv (.tmp 7)) none [],.mk (some 32) (.fld 4 (.tmp 8)) none [],.mk (some 33) (.load false 1 (.tmp 32)) none [3],.mk (some 34) (.call 83 [.tmp 30,.tmp 31,.tmp 33]) none [1,2,4],.mk (some 35) (.bslice 1 [.pointer none] [(0,.tmp 34)] 1) none [5],.mk (some 36) (.append 1 (.tmp 29) (.tmp 35)) none [0,6,5],.mk (some 6) (.mv (.tmp 36)) none [7,7,0,1,2,3,4,5,6,7]]
def l44r10:List AOper :=
  [.mk (some 37) (.bin .add (.tmp 15) (.const (.int .i64 1))) none [],.mk (some 15) (.mv (.tmp 37)) none [0]]
def l44r11:List AOper :=
  [.mk (some 38) (.mv (.tmp 1)) none [],.mk (some 39) (.bin .eql (.tmp 38) (.const (.int .i64 (-1)))) none [0]]
def l44r12:List AOper :=
  [.mk (some 40) (.mv (.tmp 5)) none [],.mk (some 4) (.mv (.tmp 40)) none [0,0]]
def l44r13:List AOper :=
  [.mk (some 41) (.mv (.tmp 6)) none [],.mk (some 42) (.mv (.tmp 1)) none [],.mk (some 43) (.idxA 1 (.tmp 41) (.tmp 42)) none [0,1],.mk (some 44) (.load false 1 (.tmp 43)) none [2],.mk (some 4) (.mv (.tmp 44)) none [3,0,1,2,3]]
def l44:AFn :=
  (AFn.mk 45 2 (.seq (.reg l44r0) (.seq (.reg l44r1) (.seq (.reg l44r2) (.seq (.seq (.reg l44r3) (.block 0 (.loop (.seq (.reg l44r4) (.seq (.cond (.tmp 16) .skip (.exit 0)) (.seq (.block 1 (.seq (.reg l44r5) (.seq (.reg l44r6) (.seq (.seq (.reg l44r7) (.cond (.tmp 23) (.reg l44r8) .skip)) (.reg l44r9))))) (.reg l44r10))))))) (.seq (.seq (.reg l44r11) (.cond (.tmp 39) (.seq (.reg l44r12) .ret) .skip)) (.seq (.reg l44r13) .ret)))))) [.tmp 4])
theorem l44_eq:lowFn Tryz.prog 44=some l44:=by kernel_rfl
def l45r0:List AOper :=
  [.mk (some 2) (.mv (.const .nilIface)) none []]
def l45r1:List AOper :=
  [.mk (some 3) (.mv (.tmp 0)) none [],.mk (some 4) (.nilck (.tmp 3)) none [0],.mk (some 5) (.fld 0 (.tmp 4)) none [1],.mk (some 6) (.load false 1 (.tmp 5)) none [2],.mk (some 7) (.len (.tmp 6)) none [3],.mk (some 8) (.bin .gtr (.tmp 7) (.const (.int .i64 0))) none [4]]
def l45r2:List AOper :=
  [.mk (some 9) (.load false 1 (.global 0)) none [],.mk (some 2) (.mv (.tmp 9)) none [0,0]]
def l45r3:List AOper :=
  [.mk (some 2) (.mv (.const .nilIface)) none []]
def l45:AFn :=
  (AFn.mk 10 1 (.seq (.reg l45r0) (.seq (.seq (.reg l45r1) (.cond (.tmp 8) (.seq (.reg l45r2) .ret) .skip)) (.seq (.reg l45r3) .ret))) [.tmp 2])
theorem l45_eq:lowFn Tryz.prog 45=some l45:=by kernel_rfl
def l46r0:List AOper :=
  [.mk (some 1) (.box (.tmp 0)) none [],.mk (some 2) (.alloc [.slice none 0 0,.slice none 0 0]) none []]
def l46r1:List AOper :=
  [.mk (some 6) (.fld 0 (.tmp 1)) none [],.mk (some 7) (.load false 1 (.tmp 6)) none [0],.mk (some 8) (.call 84 [.tmp 7]) none [1],.mk (some 9) (.build [.slice none 0 0,.slice none 0 0] [(0,1,.tmp 8)]) none [2],.mk (some 3) (.alloc [.slice none 0 0,.slice none 0 0]) none [],.mk none (.store 2 (.tmp 3) (.tmp 9)) none [4,3,2,0,1,2,3,4]]
def l46r2:List AOper :=
  [.mk (some 10) (.fld 1 (.tmp 1)) none [],.mk (some 11) (.load false 1 (.tmp 10)) none [0],.mk (some 12) (.len (.tmp 11)) none [1],.mk (some 13) (.mv (.const (.int .i64 0))) none []]
def l46r3:List AOper :=
  [.mk (some 14) (.bin .lss (.tmp 13) (.tmp 12)) none []]
def l46r4:List AOper :=
  [.mk (some 15) (.idxA 5 (.tmp 11) (.tmp 13)) none [],.mk (some 16) (.load true 5 (.tmp 15)) none [0],.mk (some 5) (.alloc [.int .i64 0,.int .i64 0,.slice none 0 0,.slice none 0 0,.bool false]) none [],.mk none (.store 5 (.tmp 5) (.tmp 16)) none [2,1,0,1,2]]
def l46r5a:List AOper :=
  [.mk (some 17) (.fld 1 (.tmp 3)) none [],.mk (some 18) (.load false 1 (.tmp 17)) none [0],.mk (some 19) (.fld 0 (.tmp 5)) none [],.mk (some 20) (.load false 1 (.tmp 19)) none [2],.mk (some 21) (.fld 1 (.tmp 5)) none [],.mk (some 22) (.load true 3 (.tmp 21)) none [4],.mk (some 23) (.call 85 [.tmp 22]) none [5],.mk (some 24) (.fld 4 (.tmp 5)) none [],.mk (some 25) (.load false 1 (.tmp 24)) none [7],.mk (some 26) (.build [.int .i64 0,.int .i64 0,.slice none 0 0,.slice none 0 0,.bool false] [(0,1,.tmp 20),(1,3,.tmp 23),(4,1,.tmp 25)]) none [3,6,8],.mk (some 27) (.bslice 5 [.int .i64 0,.int .i64 0,.slice none 0 0,.slice none 0 0,.bool false] [(0,.tmp 26)] 1) none [9]]
def l46r5b:List AOper :=
  [.mk (some 28) (.append 5 (.tmp 18) (.tmp 27)) none [1,10,6],.mk (some 29) (.fld 1 (.tmp 3)) none [0,1,2,3,4,5,6,7,8,9,10,11],.mk none (.store 1 (.tmp 29) (.tmp 28)) none [12,11,11,0,1,2,3,4,5,6,7,8,9,10,11]]
def l46r5:List AOper:=l46r5a ++ l46r5b
def l46r6:List AOper :=
  [.mk (some 30) (.bin .add (.tmp 13) (.const (.int .i64 1))) none [],.mk (some 13) (.mv (.tmp 30)) none [0]]
def l46r7:List AOper :=
  [.mk (some 31) (.load true 2 (.tmp 3)) none [],.mk none (.store 2 (.tmp 2) (.tmp 31)) none [0,0]]
def l46:AFn :=
  (AFn.mk 32 1 (.seq (.reg l46r0) (.seq (.reg l46r1) (.seq (.seq (.reg l46r2) (.block 0 (.loop (.seq (.reg l46r3) (.seq (.cond (.tmp 14) .skip (.exit 0)) (.seq (.block 1 (.seq (.reg l46r4) (.draw l46r5))) (.reg l46r6))))))) (.seq (.reg l46r7) .ret)))) [.cell 2 true 2])
theorem l46_eq:lowFn Tryz.prog 46=some l46:=by kernel_rfl
def l47r0:List AOper :=
  [.mk (some 1) (.box (.tmp 0)) none [],.mk (some 2) (.mv (.const (.bool false))) none []]
def l47r1:List AOper :=
  [.mk (some 3) (.mv (.const (.int .i64 0))) none []]
def l47r2:List AOper :=
  [.mk (some 4) (.mv (.tmp 3)) none [],.mk (some 5) (.fld 1 (.tmp 1)) none [],.mk (some 6) (.load false 1 (.tmp 5)) none [1],.mk (some 7) (.len (.tmp 6)) none [2],.mk (some 8) (.bin .lss (.tmp 4) (.tmp 7)) none [0,3]]
def l47r3:List AOper :=
  [.mk (some 11) (.load true 2 (.tmp 1)) none [],.mk (some 12) (.mv (.tmp 3)) none [],.mk (some 13) (.call 86 [.tmp 11,.tmp 12]) none [0,1],.mk (some 14) (.un .not (.tmp 13)) none [2]]
def l47r4:List AOper :=
  [.mk (some 2) (.mv (.const (.bool false))) none []]
def l47r5:List AOper :=
  [.mk (some 9) (.mv (.tmp 3)) none [],.mk (some 10) (.bin .add (.tmp 9) (.const (.int .i64 1))) none [0],.mk (some 3) (.mv (.tmp 10)) none [1,0,1]]
def l47r6:List AOper :=
  [.mk (some 15) (.fld 0 (.tmp 1)) none [],.mk (some 16) (.load false 1 (.tmp 15)) none [0],.mk (some 17) (.call 87 [.tmp 16]) none [1],.mk (some 18) (.mv (.tmp 17)) none [2,2],.mk (some 19) (.fld 1 (.tmp 1)) (some (18,true)) [3],.mk (some 20) (.load false 1 (.tmp 19)) (some (18,true)) [4,3],.mk (some 21) (.len (.tmp 20)) (some (18,true)) [5,3],.mk (some 22) (.bin .leq (.tmp 21) (.const (.int .i64 8))) (some (18,true)) [6,3],.mk (some 23) (.pick (.tmp 18) (.tmp 22) (.const (.bool false))) none [3,7],.mk (some 2) (.mv (.tmp 23)) none [8,3,0,1,2,3,4,5,6,7,8]]
def l47:AFn :=
  (AFn.mk 24 1 (.seq (.reg l47r0) (.seq (.seq (.reg l47r1) (.block 0 (.loop (.seq (.seq (.reg l47r2) (.cond (.tmp 8) .skip (.exit 0))) (.seq (.block 1 (.seq (.reg l47r3) (.cond (.tmp 14) (.seq (.reg l47r4) .ret) .skip))) (.reg l47r5)))))) (.seq (.reg l47r6) .ret))) [.tmp 2])
theorem l47_eq:lowFn Tryz.prog 47=some l47:=by kernel_rfl
def l48r0:List AOper :=
  [.mk (some 2) (.box (.tmp 0)) none [],.mk (some 4) (.mv (.const (.bool false))) none []]
def l48r1:List AOper :=
  [.mk (some 5) (.mv (.tmp 1)) none [],.mk (some 6) (.fld 1 (.tmp 2)) none [],.mk (some 7) (.load false 1 (.tmp 6)) none [1],.mk (some 8) (.len (.tmp 7)) none [2],.mk (some 9) (.bin .sub (.tmp 8) (.const (.int .i64 1))) none [3],.mk (some 10) (.call 60 [.tmp 5,.const (.int .i64 0),.tmp 9]) none [0,4],.mk (some 11) (.mv (.tmp 10)) none [5,5],.mk (some 12) (.fld 1 (.tmp 2)) (some (11,true)) [6],.mk (some 13) (.load false 1 (.tmp 12)) (some (11,true)) [7,6],.mk (some 14) (.mv (.tmp 1)) (some (11,true)) [6],.mk (some 15) (.idxA 5 (.tmp 13) (.tmp 14)) (some (11,true)) [8,9,6],.mk (some 16) (.fld 4 (.tmp 15)) (some (11,true)) [10,6],.mk (some 17) (.load false 1 (.tmp 16)) (some (11,true)) [11,6],.mk (some 18) (.pick (.tmp 11) (.tmp 17) (.const (.bool false))) none [6,12],.mk (some 4) (.mv (.tmp 18)) none [13,6,0,1,2,3,4,5,6,7,8,9,10,11,12,13]]
def l48:AFn :=
  (AFn.mk 19 2 (.seq (.reg l48r0) (.seq (.reg l48r1) .ret)) [.tmp 4])
theorem l48_eq:lowFn Tryz.prog 48=some l48:=by kernel_rfl
def l49r0:List AOper :=
  [.mk (some 2) (.box (.tmp 0)) none [],.mk (some 4) (.mv (.const (.slice none 0 0))) none []]
def l49r1:List AOper :=
  [.mk (some 7) (.bslice 1 [.int .i64 0] [] 0) none [],.mk (some 5) (.mv (.tmp 7)) none [0,0]]
def l49r2:List AOper :=
  [.mk (some 6) (.mv (.const (.int .i64 0))) none []]
def l49r3:List AOper :=
  [.mk (some 8) (.mv (.tmp 6)) none [],.mk (some 9) (.fld 1 (.tmp 2)) none [],.mk (some 10) (.load false 1 (.tmp 9)) none [1],.mk (some 11) (.len (.tmp 10)) none [2],.mk (some 12) (.bin .lss (.tmp 8) (.tmp 11)) none [0,3]]
def l49r4:List AOper :=
  [.mk (some 15) (.fld 1 (.tmp 2)) none [],.mk (some 16) (.load false 1 (.tmp 15)) none [0],.mk (some 17) (.mv (.tmp 6)) none [],.mk (some 18) (.idxA 5 (.tmp 16) (.tmp 17)) none [1,2],.mk (some 19) (.fld 4 (.tmp 18)) none [3],.mk (some 20) (.load false 1 (.tmp 19)) none [4],.mk (some 21) (.mv (.tmp 20)) none [5],.mk (some 22) (.fld 1 (.tmp 2)) (some (21,true)) [6],.mk (some 23) (.load false 1 (.tmp 22)) (some (21,true)) [7,6],.mk (some 24) (.mv (.tmp 6)) (some (21,true)) [6],.mk (some 25) (.idxA 5 (.tmp 23) (.tmp 24)) (some (21,true)) [8,9,6],.mk (some 26) (.fld 0 (.tmp 25)) (some (21,true)) [10,6],.mk (some 27) (.load false 1 (.tmp 26)) (some (21,true)) [11,6],.mk (some 28) (.mv (.tmp 1)) (some (21,true)) [6],.mk (some 29) (.bin .eql (.tmp 27) (.tmp 28)) (some (21,true)) [12,13,6],.mk (some 30) (.pick (.tmp 21) (.tmp 29) (.const (.bool false))) none [6,14]]
def l49r5:List AOper :=
  [.mk (some 31) (.mv (.tmp 5)) none [],.mk (some 32) (.mv (.tmp 6)) none [],.mk (some 33) (.bslice 1 [.int .i64 0] [(0,.tmp 32)] 1) none [1],.mk (some 34) (.append 1 (.tmp 31) (.tmp 33)) none [0,2],.mk (some 5) (.mv (.tmp 34)) none [3,3,0,1,2,3]]
def l49r6:List AOper :=
  [.mk (some 13) (.mv (.tmp 6)) none [],.mk (some 14) (.bin .add (.tmp 13) (.const (.int .i64 1))) none [0],.mk (some 6) (.mv (.tmp 14)) none [1,0,1]]
def l49r7:List AOper :=
  [.mk (some 35) (.mv (.tmp 5)) none [],.mk (some 4) (.mv (.tmp 35)) none [0,0]]
def l49:AFn :=
  (AFn.mk 36 2 (.seq (.reg l49r0) (.seq (.reg l49r1) (.seq (.seq (.reg l49r2) (.block 0 (.loop (.seq (.seq (.reg l49r3) (.cond (.tmp 12) .skip (.exit 0))) (.seq (.block 1 (.seq (.reg l49r4) (.cond (.tmp 30) (.reg l49r5) .skip))) (.reg l49r6)))))) (.seq (.reg l49r7) .ret)))) [.tmp 4])
theorem l49_eq:lowFn Tryz.prog 49=some l49:=by kernel_rfl
def l50r0:List AOper :=
  [.mk (some 1) (.box (.tmp 0)) none [],.mk (some 2) (.alloc [.slice none 0 0,.slice none 0 0]) none []]
def l50r1:List AOper :=
  [.mk (some 6) (.fld 0 (.tmp 1)) none [],.mk (some 7) (.load false 1 (.tmp 6)) none [0],.mk (some 8) (.call 88 [.tmp 7]) none [1],.mk (some 9) (.build [.slice none 0 0,.slice none 0 0] [(0,1,.tmp 8)]) none [2],.mk (some 3) (.alloc [.slice none 0 0,.slice none 0 0]) none [],.mk none (.store 2 (.tmp 3) (.tmp 9)) none [4,3,2,0,1,2,3,4]]
def l50r2:List AOper :=
  [.mk (some 4) (.mv (.const (.int .i64 0))) none []]
def l50r3:List AOper :=
  [.mk (some 10) (.mv (.tmp 4)) none [],.mk (some 11) (.fld 1 (.tmp 1)) none [],.mk (some 12) (.load false 1 (.tmp 11)) none [1],.mk (some 13) (.len (.tmp 12)) none [2],.mk (some 14) (.bin .lss (.tmp 10) (.tmp 13)) none [0,3]]
def l50r4:List AOper :=
  [.mk (some 17) (.fld 1 (.tmp 1)) none [],.mk (some 18) (.load false 1 (.tmp 17)) none [0],.mk (some 19) (.mv (.tmp 4)) none [],.mk (some 20) (.idxA 5 (.tmp 18) (.tmp 19)) none [1,2],.mk (some 21) (.load true 5 (.tmp 20)) none [3],.mk (some 5) (.alloc [.int .i64 0,.int .i64 0,.slice none 0 0,.slice none 0 0,.bool false]) none [],.mk none (.store 5 (.tmp 5) (.tmp 21)) none [5,4,0,1,2,3,4,5]]
def l50r5:List AOper :=
  [.mk (some 22) (.fld 1 (.tmp 5)) none [],.mk (some 23) (.load true 3 (.tmp 22)) none [0],.mk (some 24) (.call 89 [.tmp 23]) none [1],.mk (some 25) (.fld 1 (.tmp 5)) none [0,1,2],.mk none (.store 3 (.tmp 25) (.tmp 24)) none [3,2,2,0,1,2]]
def l50r6:List AOper :=
  [.mk (some 26) (.fld 1 (.tmp 3)) none [],.mk (some 27) (.load false 1 (.tmp 26)) none [0],.mk (some 28) (.load true 5 (.tmp 5)) none [],.mk (some 29) (.bslice 5 [.int .i64 0,.int .i64 0,.slice none 0 0,.slice none 0 0,.bool false] [(0,.tmp 28)] 1) none [2],.mk (some 30) (.append 5 (.tmp 27) (.tmp 29)) none [1,3],.mk (some 31) (.fld 1 (.tmp 3)) none [0,1,2,3,4],.mk none (.store 1 (.tmp 31) (.tmp 30)) none [5,4,4,0,1,2,3,4]]
def l50r7:List AOper :=
  [.mk (some 15) (.mv (.tmp 4)) none [],.mk (some 16) (.bin .add (.tmp 15) (.const (.int .i64 1))) none [0],.mk (some 4) (.mv (.tmp 16)) none [1,0,1]]
def l50r8:List AOper :=
  [.mk (some 32) (.load true 2 (.tmp 3)) none [],.mk none (.store 2 (.tmp 2) (.tmp 32)) none [0,0]]
def l50:AFn :=
  (AFn.mk 33 1 (.seq (.reg l50r0) (.seq (.reg l50r1) (.seq (.seq (.reg l50r2) (.block 0 (.loop (.seq (.seq (.reg l50r3) (.cond (.tmp 14) .skip (.exit 0))) (.seq (.block 1 (.seq (.reg l50r4) (.seq (.reg l50r5) (.reg l50r6)))) (.reg l50r7)))))) (.seq (.reg l50r8) .ret)))) [.cell 2 true 2])
theorem l50_eq:lowFn Tryz.prog 50=some l50:=by kernel_rfl
def l51r0:List AOper :=
  [.mk (some 2) (.box (.tmp 0)) none [],.mk (some 3) (.box (.tmp 1)) none [],.mk (some 4) (.mv (.const (.bool false))) none []]
def l51r1:List AOper :=
  [.mk (some 5) (.fld 0 (.tmp 2)) none [],.mk (some 6) (.load false 1 (.tmp 5)) none [0],.mk (some 7) (.fld 0 (.tmp 3)) none [],.mk (some 8) (.load false 1 (.tmp 7)) none [2],.mk (some 9) (.bin .eql (.tmp 6) (.tmp 8)) none [1,3],.mk (some 10) (.mv (.tmp 9)) none [4],.mk (some 11) (.fld 1 (.tmp 2)) (some (10,true)) [5],.mk (some 12) (.load false 1 (.tmp 11)) (some (10,true)) [6,5],.mk (some 13) (.fld 1 (.tmp 3)) (some (10,true)) [5],.mk (some 14) (.load false 1 (.tmp 13)) (some (10,true)) [8,5],.mk (some 15) (.call 15 [.tmp 12,.tmp 14]) (some (10,true)) [7,9,5,5],.mk (some 16) (.pick (.tmp 10) (.tmp 15) (.const (.bool false))) none [5,10],.mk (some 17) (.mv (.tmp 16)) none [11,10],.mk (some 18) (.fld 2 (.tmp 2)) (some (17,true)) [12],.mk (some 19) (.load false 1 (.tmp 18)) (some (17,true)) [13,12],.mk (some 20) (.fld 2 (.tmp 3)) (some (17,true)) [12],.mk (some 21) (.load false 1 (.tmp 20)) (some (17,true)) [15,12],.mk (some 22) (.call 15 [.tmp 19,.tmp 21]) (some (17,true)) [14,16,12,12],.mk (some 23) (.pick (.tmp 17) (.tmp 22) (.const (.bool false))) none [12,17],.mk (some 4) (.mv (.tmp 23)) none [18,17,0,1,2,3,4,5,6,7,8,9,10,11,12,13,14,15,16,17,18]]
def l51:AFn :=
  (AFn.mk 24 2 (.seq (.reg l51r0) (.seq (.reg l51r1) .ret)) [.tmp 4])
theorem l51_eq:lowFn Tryz.prog 51=some l51:=by kernel_rfl
def l52r0:List AOper :=
  [.mk (some 3) (.box (.tmp 1)) none [],.mk (some 4) (.mv (.const (.slice none 0 0))) none []]
def l52r1:List AOper :=
  [.mk (some 8) (.bslice 1 [.int .i64 0] [] 0) none [],.mk (some 5) (.mv (.tmp 8)) none [0,0]]
def l52r2:List AOper :=
  [.mk (some 9) (.load true 3 (.tmp 3)) none [],.mk (some 10) (.call 90 [.tmp 9]) none [0],.mk (some 6) (.mv (.tmp 10)) none [1,1,0,1]]
def l52r3:List AOper :=
  [.mk (some 7) (.mv (.const (.int .i64 0))) none []]
def l52r4:List AOper :=
  [.mk (some 11) (.mv (.tmp 7)) none [],.mk (some 12) (.mv (.tmp 6)) none [],.mk (some 13) (.len (.tmp 12)) none [1],.mk (some 14) (.bin .lss (.tmp 11) (.tmp 13)) none [0,2]]
def l52r5:List AOper :=
  [.mk (some 17) (.mv (.tmp 5)) none [],.mk (some 18) (.mv (.tmp 0)) none [],.mk (some 19) (.mv (.tmp 6)) none [],.mk (some 20) (.mv (.tmp 7)) none [],.mk (some 21) (.idxA 1 (.tmp 19) (.tmp 20)) none [2,3],.mk (some 22) (.load false 1 (.tmp 21)) none [4],.mk (some 23) (.idxA 1 (.tmp 18) (.tmp 22)) none [1,5],.mk (some 24) (.load false 1 (.tmp 23)) none [6],.mk (some 25) (.bslice 1 [.int .i64 0] [(0,.tmp 24)] 1) none [7],.mk (some 26) (.append 1 (.tmp 17) (.tmp 25)) none [0,8],.mk (some 5) (.mv (.tmp 26)) none [9,9,0,1,2,3,4,5,6,7,8,9]]
def l52r6:List AOper :=
  [.mk (some 15) (.mv (.tmp 7)) none [],.mk (some 16) (.bin .add (.tmp 15) (.const (.int .i64 1))) none [0],.mk (some 7) (.mv (.tmp 16)) none [1,0,1]]
def l52r7:List AOper :=
  [.mk (some 27) (.mv (.tmp 5)) none [],.mk (some 4) (.mv (.tmp 27)) none [0,0]]
def l52:AFn :=
  (AFn.mk 28 2 (.seq (.reg l52r0) (.seq (.reg l52r1) (.seq (.reg l52r2) (.seq (.seq (.reg l52r3) (.block 0 (.loop (.seq (.seq (.reg l52r4) (.cond (.tmp 14) .skip (.exit 0))) (.seq (.block 1 (.reg l52r5)) (.reg l52r6)))))) (.seq (.reg l52r7) .ret))))) [.tmp 4])
theorem l52_eq:lowFn Tryz.prog 52=some l52:=by kernel_rfl
def l53r0:List AOper :=
  [.mk (some 2) (.mv (.const (.bool false))) none []]
def l53r1:List AOper :=
  [.mk (some 3) (.mv (.tmp 0)) none [],.mk (some 4) (.len (.tmp 3)) none [0],.mk (some 5) (.call 91 [.tmp 4]) none [1],.mk (some 6) (.mv (.tmp 5)) none [2,2],.mk (some 7) (.mv (.tmp 0)) (some (6,true)) [3],.mk (some 8) (.call 92 [.tmp 7]) (some (6,true)) [4,3,3],.mk (some 9) (.pick (.tmp 6) (.tmp 8) (.const (.bool false))) none [3,5],.mk (some 2) (.mv (.tmp 9)) none [6,5,0,1,2,3,4,5,6]]
def l53:AFn :=
  (AFn.mk 10 1 (.seq (.reg l53r0) (.seq (.reg l53r1) .ret)) [.tmp 2])
theorem l53_eq:lowFn Tryz.prog 53=some l53:=by kernel_rfl
def l54r0:List AOper :=
  [.mk (some 3) (.box (.tmp 0)) none [],.mk (some 6) (.mv (.const (.bool false))) none []]
def l54r1:List AOper :=
  [.mk (some 7) (.fld 1 (.tmp 3)) none [],.mk (some 8) (.load true 3 (.tmp 7)) none [0],.mk (some 9) (.call 62 [.tmp 8]) none [1],.mk (some 10) (.un .not (.tmp 9)) none [2],.mk (some 11) (.mv (.tmp 10)) none [3,2],.mk (some 12) (.fld 0 (.tmp 3)) (some (11,false)) [4],.mk (some 13) (.load false 1 (.tmp 12)) (some (11,false)) [5,4],.mk (some 14) (.bin .lss (.tmp 13) (.const (.int .i64 (-1)))) (some (11,false)) [6,4],.mk (some 15) (.pick (.tmp 11) (.const (.bool true)) (.tmp 14)) none [4,7],.mk (some 16) (.mv (.tmp 15)) none [8,4],.mk (some 17) (.fld 0 (.tmp 3)) (some (16,false)) [9],.mk (some 18) (.load false 1 (.tmp 17)) (some (16,false)) [10,9],.mk (some 19) (.mv (.tmp 1)) (some (16,false)) [9],.mk (some 20) (.bin .geq (.tmp 18) (.tmp 19)) (some (16,false)) [11,12,9],.mk (some 21) (.pick (.tmp 16) (.const (.bool true)) (.tmp 20)) none [9,13]]
def l54r2:List AOper :=
  [.mk (some 6) (.mv (.const (.bool false))) none []]
def l54r3:List AOper :=
  [.mk (some 22) (.fld 4 (.tmp 3)) none [],.mk (some 23) (.load false 1 (.tmp 22)) none [0],.mk (some 24) (.un .not (.tmp 23)) none [1],.mk (some 25) (.mv (.tmp 24)) none [2],.mk (some 26) (.fld 1 (.tmp 3)) (some (25,false)) [3],.mk (some 27) (.load true 3 (.tmp 26)) (some (25,false)) [4,3],.mk (some 28) (.mv (.tmp 2)) (some (25,false)) [3],.mk (some 29) (.call 70 [.tmp 27,.tmp 28]) (some (25,false)) [5,6,3,3],.mk (some 30) (.pick (.tmp 25) (.const (.bool true)) (.tmp 29)) none [3,7],.mk (some 6) (.mv (.tmp 30)) none [8,7,0,1,2,3,4,5,6,7,8]]
def l54:AFn :=
  (AFn.mk 31 3 (.seq (.reg l54r0) (.seq (.seq (.reg l54r1) (.cond (.tmp 21) (.seq (.reg l54r2) .ret) .skip)) (.seq (.reg l54r3) .ret))) [.tmp 6])
theorem l54_eq:lowFn Tryz.prog 54=some l54:=by kernel_rfl
def l57r0:List AOper :=
  [.mk (some 4) (.mv (.const (.int .i64 0))) none []]
def l57r1:List AOper :=
  [.mk (some 5) (.mv (.tmp 1)) none [],.mk (some 6) (.mv (.tmp 0)) none [],.mk (some 7) (.mv (.tmp 1)) none [],.mk (some 8) (.len (.tmp 7)) none [2],.mk (some 9) (.call 65 [.tmp 6,.tmp 8]) none [1,3],.mk (some 10) (.idxA 1 (.tmp 5) (.tmp 9)) none [0,4],.mk (some 11) (.load false 1 (.tmp 10)) none [5],.mk (some 4) (.mv (.tmp 11)) none [6,4,0,1,2,3,4,5,6]]
def l57:AFn :=
  (AFn.mk 12 2 (.seq (.reg l57r0) (.seq (.reg l57r1) .ret)) [.tmp 4])
theorem l57_eq:lowFn Tryz.prog 57=some l57:=by kernel_rfl
def l60r0:List AOper :=
  [.mk (some 6) (.mv (.const (.bool false))) none []]
def l60r1:List AOper :=
  [.mk (some 7) (.mv (.tmp 1)) none [],.mk (some 8) (.mv (.tmp 0)) none [],.mk (some 9) (.bin .leq (.tmp 7) (.tmp 8)) none [0,1],.mk (some 10) (.mv (.tmp 9)) none [2],.mk (some 11) (.mv (.tmp 0)) (some (10,true)) [3],.mk (some 12) (.mv (.tmp 2)) (some (10,true)) [3],.mk (some 13) (.bin .leq (.tmp 11) (.tmp 12)) (some (10,true)) [4,5,3],.mk (some 14) (.pick (.tmp 10) (.tmp 13) (.const (.bool false))) none [3,6],.mk (some 6) (.mv (.tmp 14)) none [7,3,0,1,2,3,4,5,6,7]]
def l60:AFn :=
  (AFn.mk 15 3 (.seq (.reg l60r0) (.seq (.reg l60r1) .ret)) [.tmp 6])
theorem l60_eq:lowFn Tryz.prog 60=some l60:=by kernel_rfl
def l61r0:List AOper :=
  [.mk (some 4) (.box (.tmp 1)) none [],.mk (some 6) (.mv (.const (.slice none 0 0))) none [],.mk (some 7) (.mv (.const (.bool false))) none [1]]
def l61r1:List AOper :=
  [.mk (some 11) (.mv (.tmp 0)) none [],.mk (some 12) (.load true 3 (.tmp 4)) none [],.mk (some 13) (.call 98 [.tmp 11,.tmp 12]) none [0,1],.mk (some 14) (.un .not (.tmp 13)) none [2],.mk (some 15) (.mv (.tmp 14)) none [3,2],.mk (some 16) (.mv (.tmp 2)) (some (15,false)) [4],.mk (some 17) (.call 60 [.tmp 16,.const (.int .i64 0),.const (.int .i64 255)]) (some (15,false)) [5,4,4],.mk (some 18) (.un .not (.tmp 17)) (some (15,false)) [6,4],.mk (some 19) (.pick (.tmp 15) (.const (.bool true)) (.tmp 18)) none [4,7]]
def l61r2:List AOper :=
  [.mk (some 6) (.mv (.const (.slice none 0 0))) none [],.mk (some 7) (.mv (.const (.bool false))) none [0,0]]
def l61r3:List AOper :=
  [.mk (some 20) (.mv (.tmp 0)) none [],.mk (some 21) (.call 88 [.tmp 20]) none [0],.mk (some 8) (.mv (.tmp 21)) none [1,1,0,1]]
def l61r4:List AOper :=
  [.mk (some 22) (.load true 3 (.tmp 4)) none [],.mk (some 23) (.call 90 [.tmp 22]) none [0],.mk (some 9) (.mv (.tmp 23)) none [1,1,0,1]]
def l61r5:List AOper :=
  [.mk (some 10) (.mv (.const (.int .i64 0))) none []]
def l61r6:List AOper :=
  [.mk (some 24) (.mv (.tmp 10)) none [],.mk (some 25) (.mv (.tmp 9)) none [],.mk (some 26) (.len (.tmp 25)) none [1],.mk (some 27) (.bin .lss (.tmp 24) (.tmp 26)) none [0,2]]
def l61r7:List AOper :=
  [.mk (some 30) (.mv (.tmp 8)) none [],.mk (some 31) (.mv (.tmp 9)) none [],.mk (some 32) (.mv (.tmp 10)) none [],.mk (some 33) (.idxA 1 (.tmp 31) (.tmp 32)) none [1,2],.mk (some 34) (.load false 1 (.tmp 33)) none [3],.mk (some 35) (.mv (.tmp 2)) none [],.mk (some 36) (.idxA 1 (.tmp 30) (.tmp 34)) none [0,4,0,1,2,3,4,5],.mk none (.store 1 (.tmp 36) (.tmp 35)) none [6,5,0,1,2,3,4,5]]
def l61r8:List AOper :=
  [.mk (some 28) (.mv (.tmp 10)) none [],.mk (some 29) (.bin .add (.tmp 28) (.const (.int .i64 1))) none [0],.mk (some 10) (.mv (.tmp 29)) none [1,0,1]]
def l61r9:List AOper :=
  [.mk (some 37) (.mv (.tmp 8)) none [],.mk (some 6) (.mv (.tmp 37)) none [0,0],.mk (some 7) (.mv (.const (.bool true))) none [1,0,1]]
def l61:AFn :=
  (AFn.mk 38 3 (.seq (.reg l61r0) (.seq (.seq (.reg l61r1) (.cond (.tmp 19) (.seq (.reg l61r2) .ret) .skip)) (.seq (.reg l61r3) (.seq (.reg l61r4) (.seq (.seq (.reg l61r5) (.block 0 (.loop (.seq (.seq (.reg l61r6) (.cond (.tmp 27) .skip (.exit 0))) (.seq (.block 1 (.reg l61r7)) (.reg l61r8)))))) (.seq (.reg l61r9) .ret)))))) [.tmp 6,.tmp 7])
theorem l61_eq:lowFn Tryz.prog 61=some l61:=by kernel_rfl
def l62r0:List AOper :=
  [.mk (some 1) (.box (.tmp 0)) none [],.mk (some 2) (.mv (.const (.bool false))) none []]
def l62r1:List AOper :=
  [.mk (some 5) (.fld 1 (.tmp 1)) none [],.mk (some 6) (.load false 1 (.tmp 5)) none [0],.mk (some 7) (.call 99 [.tmp 6]) none [1],.mk (some 8) (.un .not (.tmp 7)) none [2],.mk (some 9) (.mv (.tmp 8)) none [3,2],.mk (some 10) (.fld 2 (.tmp 1)) (some (9,false)) [4],.mk (some 11) (.load false 1 (.tmp 10)) (some (9,false)) [5,4],.mk (some 12) (.fld 1 (.tmp 1)) (some (9,false)) [4],.mk (some 13) (.load false 1 (.tmp 12)) (some (9,false)) [7,4],.mk (some 14) (.len (.tmp 13)) (some (9,false)) [8,4],.mk (some 15) (.call 100 [.tmp 11,.tmp 14]) (some (9,false)) [6,9,4,4],.mk (some 16) (.un .not (.tmp 15)) (some (9,false)) [10,4],.mk (some 17) (.pick (.tmp 9) (.const (.bool true)) (.tmp 16)) none [4,11],.mk (some 18) (.mv (.tmp 17)) none [12,10],.mk (some 19) (.fld 0 (.tmp 1)) (some (18,false)) [13],.mk (some 20) (.load false 1 (.tmp 19)) (some (18,false)) [14,13],.mk (some 21) (.call 80 [.tmp 20,.const (.int .i64 60)]) (some (18,false)) [15,13,13],.mk (some 22) (.un .not (.tmp 21)) (some (18,false)) [16,13],.mk (some 23) (.pick (.tmp 18) (.const (.bool true)) (.tmp 22)) none [13,17]]
def l62r2:List AOper :=
  [.mk (some 2) (.mv (.const (.bool false))) none []]
def l62r3:List AOper :=
  [.mk (some 25) (.load true 3 (.tmp 1)) none [],.mk (some 26) (.call 101 [.tmp 25]) none [0],.mk (some 24) (.mv (.tmp 26)) none [1],.mk (some 27) (.extract (.tmp 24) 0) none [2],.mk (some 28) (.extract (.tmp 24) 1) none [2],.mk (some 3) (.mv (.tmp 27)) none [3,1,0,1,2,3],.mk (some 4) (.mv (.tmp 28)) none [4,5,0,1,2,3,4,5]]
def l62r4:List AOper :=
  [.mk (some 29) (.load true 3 (.tmp 1)) none [],.mk (some 30) (.call 97 [.tmp 29]) none [0],.mk (some 31) (.bin .eql (.tmp 30) (.const (.int .i64 0))) none [1],.mk (some 32) (.mv (.tmp 31)) none [2,1],.mk (some 33) (.mv (.tmp 3)) (some (32,false)) [3],.mk (some 34) (.bin .geq (.tmp 33) (.const (.int .i64 0))) (some (32,false)) [4,3],.mk (some 35) (.mv (.tmp 34)) (some (32,false)) [5,3,3],.mk (some 36) (.mv (.tmp 4)) (some (35,true)) [6],.mk (some 37) (.bin .lss (.tmp 36) (.const (.int .i64 60))) (some (35,true)) [7,6],.mk (some 38) (.pick (.tmp 35) (.tmp 37) (.const (.bool false))) (some (32,false)) [6,8,3],.mk (some 39) (.pick (.tmp 32) (.const (.bool true)) (.tmp 38)) none [3,9],.mk (some 2) (.mv (.tmp 39)) none [10,6,0,1,2,3,4,5,6,7,8,9,10]]
def l62:AFn :=
  (AFn.mk 40 1 (.seq (.reg l62r0) (.seq (.seq (.reg l62r1) (.cond (.tmp 23) (.seq (.reg l62r2) .ret) .skip)) (.seq (.reg l62r3) (.seq (.reg l62r4) .ret)))) [.tmp 2])
theorem l62_eq:lowFn Tryz.prog 62=some l62:=by kernel_rfl
def l65r0:List AOper :=
  [.mk (some 4) (.mv (.const (.int .i64 0))) none []]
def l65r1:List AOper :=
  [.mk (some 7) (.mv (.tmp 0)) none [],.mk (some 8) (.mv (.tmp 0)) none [],.mk (some 9) (.nilck (.tmp 8)) none [1],.mk (some 10) (.fld 1 (.tmp 9)) none [2],.mk (some 11) (.load false 1 (.tmp 10)) none [3],.mk (some 12) (.bin .add (.tmp 11) (.const (.int .i64 1))) none [4],.mk (some 13) (.nilck (.tmp 7)) none [0,0,1,2,3,4,5],.mk (some 14) (.fld 1 (.tmp 13)) none [6,0,1,2,3,4,5],.mk none (.store 1 (.tmp 14) (.tmp 12)) none [7,5,0,1,2,3,4,5]]
def l65r2:List AOper :=
  [.mk (some 15) (.mv (.tmp 1)) none [],.mk (some 16) (.bin .lss (.tmp 15) (.const (.int .i64 1))) none [0],.mk (some 17) (.mv (.tmp 16)) none [1],.mk (some 18) (.mv (.tmp 0)) (some (17,false)) [2],.mk (some 19) (.nilck (.tmp 18)) (some (17,false)) [3,2],.mk (some 20) (.fld 0 (.tmp 19)) (some (17,false)) [4,2],.mk (some 21) (.load false 1 (.tmp 20)) (some (17,false)) [5,2],.mk (some 22) (.len (.tmp 21)) (some (17,false)) [6,2],.mk (some 23) (.bin .eql (.tmp 22) (.const (.int .i64 0))) (some (17,false)) [7,2],.mk (some 24) (.pick (.tmp 17) (.const (.bool true)) (.tmp 23)) none [2,8]]
def l65r3:List AOper :=
  [.mk (some 4) (.mv (.const (.int .i64 0))) none []]
def l65r4:List AOper :=
  [.mk (some 25) (.mv (.tmp 0)) none [],.mk (some 26) (.nilck (.tmp 25)) none [0],.mk (some 27) (.fld 1 (.tmp 26)) none [1],.mk (some 28) (.load false 1 (.tmp 27)) none [2],.mk (some 29) (.bin .sub (.tmp 28) (.const (.int .i64 1))) none [3],.mk (some 5) (.mv (.tmp 29)) none [4,0,1,2,3,4]]
def l65r5:List AOper :=
  [.mk (some 30) (.mv (.tmp 5)) none [],.mk (some 31) (.mv (.tmp 0)) none [],.mk (some 32) (.nilck (.tmp 31)) none [1],.mk (some 33) (.fld 0 (.tmp 32)) none [2],.mk (some 34) (.load false 1 (.tmp 33)) none [3],.mk (some 35) (.len (.tmp 34)) none [4],.mk (some 36) (.bin .lss (.tmp 30) (.tmp 35)) none [0,5]]
def l65r6:List AOper :=
  [.mk (some 37) (.mv (.tmp 0)) none [],.mk (some 38) (.nilck (.tmp 37)) none [0],.mk (some 39) (.fld 0 (.tmp 38)) none [1],.mk (some 40) (.load false 1 (.tmp 39)) none [2],.mk (some 41) (.mv (.tmp 5)) none [],.mk (some 42) (.idxA 1 (.tmp 40) (.tmp 41)) none [3,4],.mk (some 43) (.load false 1 (.tmp 42)) none [5],.mk (some 44) (.conv .i64 (.tmp 43)) none [6],.mk (some 45) (.mv (.tmp 1)) none [],.mk (some 46) (.bin .rem (.tmp 44) (.tmp 45)) none [7,8],.mk (some 4) (.mv (.tmp 46)) none [9,0,1,2,3,4,5,6,7,8,9]]
def l65r7a:List AOper :=
  [.mk (some 47) (.mv (.tmp 0)) none [],.mk (some 48) (.nilck (.tmp 47)) none [0],.mk (some 49) (.fld 0 (.tmp 48)) none [1],.mk (some 50) (.load false 1 (.tmp 49)) none [2],.mk (some 51) (.mv (.tmp 5)) none [],.mk (some 52) (.mv (.tmp 0)) none [],.mk (some 53) (.nilck (.tmp 52)) none [5],.mk (some 54) (.fld 0 (.tmp 53)) none [6],.mk (some 55) (.load false 1 (.tmp 54)) none [7],.mk (some 56) (.len (.tmp 55)) none [8],.mk (some 57) (.bin .rem (.tmp 51) (.tmp 56)) none [4,9],.mk (some 58) (.idxA 1 (.tmp 50) (.tmp 57)) none [3,10],.mk (some 59) (.load false 1 (.tmp 58)) none [11],.mk (some 60) (.conv .i64 (.tmp 59)) none [12],.mk (some 61) (.bin .mul (.tmp 60) (.const (.int .i64 131))) none [13],.mk (some 62) (.mv (.tmp 0)) none [],.mk (some 63) (.nilck (.tmp 62)) none [15],.mk (some 64) (.fld 0 (.tmp 63)) none [16],.mk (some 65) (.load false 1 (.tmp 64)) none [17],.mk (some 66) (.mv (.tmp 5)) none [],.mk (some 67) (.bin .mul (.tmp 66) (.const (.int .i64 7))) none [19],.mk (some 68) (.bin .add (.tmp 67) (.const (.int .i64 3))) none [20],.mk (some 69) (.mv (.tmp 0)) none [],.mk (some 70) (.nilck (.tmp 69)) none [22],.mk (some 71) (.fld 0 (.tmp 70)) none [23],.mk (some 72) (.load false 1 (.tmp 71)) none [24],.mk (some 73) (.len (.tmp 72)) none [25],.mk (some 74) (.bin .rem (.tmp 68) (.tmp 73)) none [21,26],.mk (some 75) (.idxA 1 (.tmp 65) (.tmp 74)) none [18,27],.mk (some 76) (.load false 1 (.tmp 75)) none [28],.mk (some 77) (.conv .i64 (.tmp 76)) none [29],.mk (some 78) (.bin .mul (.tmp 77) (.const (.int .i64 1117))) none [30],.mk (some 79) (.bin .add (.tmp 61) (.tmp 78)) none [14,31],.mk (some 80) (.mv (.tmp 5)) none [],.mk (some 81) (.bin .mul (.tmp 80) (.const (.int .i64 29))) none [33],.mk (some 82) (.bin .add (.tmp 79) (.tmp 81)) none [32,34],.mk (some 83) (.mv (.tmp 5)) none [],.mk (some 84) (.mv (.tmp 0)) none [],.mk (some 85) (.nilck (.tmp 84)) none [37],.mk (some 86) (.fld 0 (.tmp 85)) none [38],.mk (some 87) (.load false 1 (.tmp 86)) none [39],.mk (some 88) (.len (.tmp 87)) none [40],.mk (some 89) (.bin .quo (.tmp 83) (.tmp 88)) none [36,41],.mk (some 90) (.bin .mul (.tmp 89) (.const (.int .i64 53))) none [42]]
def l65r7b:List AOper :=
  [.mk (some 91) (.bin .add (.tmp 82) (.tmp 90)) none [35,43],.mk (some 6) (.mv (.tmp 91)) none [44,0,1,2,3,4,5,6,7,8,9,10,11,12,13,14,15,16,17,18,19,20,21,22,23,24,25,26,27,28,29,30,31,32,33,34,35,36,37,38,39,40,41,42,43,44]]
def l65r7:List AOper:=l65r7a ++ l65r7b
def l65r8:List AOper :=
  [.mk (some 92) (.mv (.tmp 6)) none [],.mk (some 93) (.mv (.tmp 6)) none [],.mk (some 94) (.bin .quo (.tmp 93) (.const (.int .i64 64))) none [1],.mk (some 95) (.bin .xor (.tmp 92) (.tmp 94)) none [0,2],.mk (some 6) (.mv (.tmp 95)) none [3,0,1,2,3]]
def l65r9:List AOper :=
  [.mk (some 96) (.mv (.tmp 6)) none [],.mk (some 97) (.mv (.tmp 1)) none [],.mk (some 98) (.bin .rem (.tmp 96) (.tmp 97)) none [0,1],.mk (some 4) (.mv (.tmp 98)) none [2,0,1,2]]
def l65:AFn :=
  (AFn.mk 99 2 (.seq (.reg l65r0) (.seq (.reg l65r1) (.seq (.seq (.reg l65r2) (.cond (.tmp 24) (.seq (.reg l65r3) .ret) .skip)) (.seq (.reg l65r4) (.seq (.seq (.reg l65r5) (.cond (.tmp 36) (.seq (.reg l65r6) .ret) .skip)) (.seq (.draw l65r7) (.seq (.reg l65r8) (.seq (.reg l65r9) .ret)))))))) [.tmp 4])
theorem l65_eq:lowFn Tryz.prog 65=some l65:=by kernel_rfl
def l67r0:List AOper :=
  [.mk (some 4) (.box (.tmp 1)) none [],.mk (some 5) (.box (.tmp 2)) none [],.mk (some 6) (.mv (.const (.slice none 0 0))) none [],.mk (some 7) (.mv (.const (.bool false))) none [2]]
def l67r1:List AOper :=
  [.mk (some 8) (.mv (.tmp 0)) none [],.mk (some 9) (.load true 3 (.tmp 4)) none [],.mk (some 10) (.load true 3 (.tmp 5)) none [],.mk (some 11) (.call 107 [.tmp 8,.tmp 9,.tmp 10]) none [0,1,2],.mk (some 12) (.un .not (.tmp 11)) none [3]]
def l67r2:List AOper :=
  [.mk (some 6) (.mv (.const (.slice none 0 0))) none [],.mk (some 7) (.mv (.const (.bool false))) none [0,0]]
def l67r3a:List AOper :=
  [.mk (some 13) (.mv (.tmp 0)) none [],.mk (some 14) (.load true 3 (.tmp 4)) none [],.mk (some 15) (.mv (.tmp 0)) none [],.mk (some 16) (.load true 3 (.tmp 5)) none [],.mk (some 17) (.call 52 [.tmp 15,.tmp 16]) none [2,3]]
def l67r3b:List AOper :=
  [.mk (some 18) (.call 108 [.tmp 13,.tmp 14,.tmp 17]) none [0,1,4,4],.mk (some 6) (.mv (.tmp 18)) none [5,5,0,1,2,3,4,5],.mk (some 7) (.mv (.const (.bool true))) none [6,0,1,2,3,4,5,6]]
def l67r3:List AOper:=l67r3a ++ l67r3b
def l67:AFn :=
  (AFn.mk 19 3 (.seq (.reg l67r0) (.seq (.seq (.reg l67r1) (.cond (.tmp 12) (.seq (.reg l67r2) .ret) .skip)) (.seq (.draw l67r3) .ret))) [.tmp 6,.tmp 7])
theorem l67_eq:lowFn Tryz.prog 67=some l67:=by kernel_rfl
def l68r0:List AOper :=
  [.mk (some 2) (.alloc [.slice none 0 0,.slice none 0 0]) none []]
def l68r1:List AOper :=
  [.mk (some 4) (.mv (.tmp 0)) none [],.mk (some 5) (.call 109 [.tmp 4]) none [0],.mk (some 3) (.alloc [.slice none 0 0,.slice none 0 0]) none [],.mk none (.store 2 (.tmp 3) (.tmp 5)) none [2,1,1,0,1,2]]
def l68r2:List AOper :=
  [.mk (some 6) (.mv (.tmp 0)) none [],.mk (some 7) (.call 65 [.tmp 6,.const (.int .i64 20)]) none [0]]
def l68r3:List AOper :=
  [.mk (some 9) (.bin .eql (.tmp 7) (.const (.int .i64 0))) none [],.mk (some 8) (.mv (.tmp 9)) none [0]]
def l68r4:List AOper :=
  [.mk (some 10) (.fld 0 (.tmp 3)) none [],.mk (some 11) (.load false 1 (.tmp 10)) none [0],.mk (some 12) (.bslice 1 [.int .i64 0] [(0,.const (.int .i64 256))] 1) none [],.mk (some 13) (.append 1 (.tmp 11) (.tmp 12)) none [1,2],.mk (some 14) (.fld 0 (.tmp 3)) none [0,1,2,3],.mk none (.store 1 (.tmp 14) (.tmp 13)) none [4,3,3,0,1,2,3]]
def l68r5:List AOper :=
  [.mk (some 16) (.bin .eql (.tmp 7) (.const (.int .i64 1))) none [],.mk (some 15) (.mv (.tmp 16)) none [0]]
def l68r6a:List AOper :=
  [.mk (some 17) (.fld 1 (.tmp 3)) none [],.mk (some 18) (.load false 1 (.tmp 17)) none [0],.mk (some 19) (.mv (.tmp 0)) none [],.mk (some 20) (.bslice 1 [.int .i64 0] [(0,.const (.int .i64 (-2))),(1,.const (.int .i64 8))] 2) none [],.mk (some 21) (.call 57 [.tmp 19,.tmp 20]) none [2,3],.mk (some 22) (.build [.int .i64 0,.int .i64 0,.slice none 0 0,.slice none 0 0,.bool false] [(0,1,.tmp 21),(4,1,.const (.bool true))]) none [4],.mk (some 23) (.bslice 5 [.int .i64 0,.int .i64 0,.slice none 0 0,.slice none 0 0,.bool false] [(0,.tmp 22)] 1) none [5]]
def l68r6b:List AOper :=
  [.mk (some 24) (.append 5 (.tmp 18) (.tmp 23)) none [1,6,4],.mk (some 25) (.fld 1 (.tmp 3)) none [0,1,2,3,4,5,6,7],.mk none (.store 1 (.tmp 25) (.tmp 24)) none [8,7,7,0,1,2,3,4,5,6,7]]
def l68r6:List AOper:=l68r6a ++ l68r6b
def l68r7:List AOper :=
  [.mk (some 27) (.bin .eql (.tmp 7) (.const (.int .i64 2))) none [],.mk (some 26) (.mv (.tmp 27)) none [0]]
def l68r8:List AOper :=
  [.mk (some 28) (.fld 1 (.tmp 3)) none [],.mk (some 29) (.load false 1 (.tmp 28)) none [0],.mk (some 30) (.build [.int .i64 0,.slice none 0 0,.slice none 0 0] [(0,1,.const (.int .i64 59))]) none [],.mk (some 31) (.build [.int .i64 0,.int .i64 0,.slice none 0 0,.slice none 0 0,.bool false] [(0,1,.const (.int .i64 (-1))),(1,3,.tmp 30),(4,1,.const (.bool true))]) none [2],.mk (some 32) (.bslice 5 [.int .i64 0,.int .i64 0,.slice none 0 0,.slice none 0 0,.bool false] [(0,.tmp 31)] 1) none [3],.mk (some 33) (.append 5 (.tmp 29) (.tmp 32)) none [1,4],.mk (some 34) (.fld 1 (.tmp 3)) none [0,1,2,3,4,5],.mk none (.store 1 (.tmp 34) (.tmp 33)) none [6,5,5,0,1,2,3,4,5]]
def l68r9:List AOper :=
  [.mk (some 35) (.load true 2 (.tmp 3)) none [],.mk none (.store 2 (.tmp 2) (.tmp 35)) none [0,0]]
def l68:AFn :=
  (AFn.mk 36 1 (.seq (.reg l68r0) (.seq (.reg l68r1) (.seq (.seq (.reg l68r2) (.block 0 (.seq (.reg l68r3) (.cond (.tmp 8) (.reg l68r4) (.seq (.reg l68r5) (.cond (.tmp 15) (.draw l68r6) (.seq (.reg l68r7) (.cond (.tmp 26) (.reg l68r8) .skip)))))))) (.seq (.reg l68r9) .ret)))) [.cell 2 true 2])
theorem l68_eq:lowFn Tryz.prog 68=some l68:=by kernel_rfl
def l70r0:List AOper :=
  [.mk (some 2) (.box (.tmp 0)) none [],.mk (some 4) (.mv (.const (.bool false))) none []]
def l70r1:List AOper :=
  [.mk (some 7) (.load true 3 (.tmp 2)) none [],.mk (some 8) (.call 62 [.tmp 7]) none [0],.mk (some 9) (.un .not (.tmp 8)) none [1],.mk (some 10) (.mv (.tmp 9)) none [2,1],.mk (some 11) (.mv (.tmp 1)) (some (10,false)) [3],.mk (some 12) (.call 80 [.tmp 11,.const (.int .i64 60)]) (some (10,false)) [4,3,3],.mk (some 13) (.un .not (.tmp 12)) (some (10,false)) [5,3],.mk (some 14) (.pick (.tmp 10) (.const (.bool true)) (.tmp 13)) none [3,6]]
def l70r2:List AOper :=
  [.mk (some 4) (.mv (.const (.bool false))) none []]
def l70r3:List AOper :=
  [.mk (some 16) (.load true 3 (.tmp 2)) none [],.mk (some 17) (.call 101 [.tmp 16]) none [0],.mk (some 15) (.mv (.tmp 17)) none [1],.mk (some 18) (.extract (.tmp 15) 0) none [2],.mk (some 19) (.extract (.tmp 15) 1) none [2],.mk (some 5) (.mv (.tmp 18)) none [3,1,0,1,2,3],.mk (some 6) (.mv (.tmp 19)) none [4,5,0,1,2,3,4,5]]
def l70r4:List AOper :=
  [.mk (some 20) (.mv (.tmp 6)) none [],.mk (some 21) (.mv (.tmp 1)) none [],.mk (some 22) (.bin .lss (.tmp 20) (.tmp 21)) none [0,1],.mk (some 4) (.mv (.tmp 22)) none [2,0,1,2]]
def l70:AFn :=
  (AFn.mk 23 2 (.seq (.reg l70r0) (.seq (.seq (.reg l70r1) (.cond (.tmp 14) (.seq (.reg l70r2) .ret) .skip)) (.seq (.reg l70r3) (.seq (.reg l70r4) .ret)))) [.tmp 4])
theorem l70_eq:lowFn Tryz.prog 70=some l70:=by kernel_rfl
def l72r0:List AOper :=
  [.mk (some 1) (.box (.tmp 0)) none [],.mk (some 2) (.mv (.const (.bool false))) none []]
def l72r1:List AOper :=
  [.mk (some 3) (.fld 1 (.tmp 1)) none [],.mk (some 4) (.load false 1 (.tmp 3)) none [0],.mk (some 5) (.call 111 [.tmp 4]) none [1],.mk (some 6) (.mv (.tmp 5)) none [2,2],.mk (some 7) (.fld 2 (.tmp 1)) (some (6,true)) [3],.mk (some 8) (.load false 1 (.tmp 7)) (some (6,true)) [4,3],.mk (some 9) (.len (.tmp 8)) (some (6,true)) [5,3],.mk (some 10) (.fld 1 (.tmp 1)) (some (6,true)) [3],.mk (some 11) (.load false 1 (.tmp 10)) (some (6,true)) [7,3],.mk (some 12) (.len (.tmp 11)) (some (6,true)) [8,3],.mk (some 13) (.bin .eql (.tmp 9) (.tmp 12)) (some (6,true)) [6,9,3],.mk (some 14) (.pick (.tmp 6) (.tmp 13) (.const (.bool false))) none [3,10],.mk (some 15) (.mv (.tmp 14)) none [11,3],.mk (some 16) (.fld 2 (.tmp 1)) (some (15,true)) [12],.mk (some 17) (.load false 1 (.tmp 16)) (some (15,true)) [13,12],.mk (some 18) (.call 112 [.tmp 17,.const (.int .i64 (-60)),.const (.int .i64 60)]) (some (15,true)) [14,12,12],.mk (some 19) (.pick (.tmp 15) (.tmp 18) (.const (.bool false))) none [12,15],.mk (some 20) (.mv (.tmp 19)) none [16,15],.mk (some 21) (.fld 0 (.tmp 1)) (some (20,true)) [17],.mk (some 22) (.load false 1 (.tmp 21)) (some (20,true)) [18,17],.mk (some 23) (.call 60 [.tmp 22,.const (.int .i64 0),.const (.int .i64 60)]) (some (20,true)) [19,17,17],.mk (some 24) (.pick (.tmp 20) (.tmp 23) (.const (.bool false))) none [17,20],.mk (some 25) (.mv (.tmp 24)) none [21,20],.mk (some 26) (.fld 1 (.tmp 1)) (some (25,true)) [22],.mk (some 27) (.load false 1 (.tmp 26)) (some (25,true)) [23,22],.mk (some 28) (.call 113 [.tmp 27]) (some (25,true)) [24,22,22],.mk (some 29) (.bin .eql (.tmp 28) (.const (.int .i64 0))) (some (25,true)) [25,22],.mk (some 30) (.mv (.tmp 29)) (some (25,true)) [26,25,22],.mk (some 31) (.load true 3 (.tmp 1)) (some (30,false)) [27],.mk (some 32) (.call 90 [.tmp 31]) (some (30,false)) [28,27,27],.mk (some 33) (.call 112 [.tmp 32,.const (.int .i64 0),.const (.int .i64 59)]) (some (30,false)) [29,29,27],.mk (some 34) (.pick (.tmp 30) (.const (.bool true)) (.tmp 33)) (some (25,true)) [27,30,22],.mk (some 35) (.pick (.tmp 25) (.tmp 34) (.const (.bool false))) none [22,31],.mk (some 2) (.mv (.tmp 35)) none [32,30,0,1,2,3,4,5,6,7,8,9,10,11,12,13,14,15,16,17,18,19,20,21,22,23,24,25,26,27,28,29,30,31,32]]
def l72:AFn :=
  (AFn.mk 36 1 (.seq (.reg l72r0) (.seq (.reg l72r1) .ret)) [.tmp 2])
theorem l72_eq:lowFn Tryz.prog 72=some l72:=by kernel_rfl
def l73r0:List AOper :=
  [.mk (some 2) (.box (.tmp 0)) none [],.mk (some 4) (.mv (.const (.bool false))) none []]
def l73r1:List AOper :=
  [.mk (some 5) (.load true 3 (.tmp 2)) none [],.mk (some 6) (.call 90 [.tmp 5]) none [0],.mk (some 7) (.mv (.tmp 1)) none [],.mk (some 8) (.bin .sub (.tmp 7) (.const (.int .i64 1))) none [2],.mk (some 9) (.call 112 [.tmp 6,.const (.int .i64 0),.tmp 8]) none [1,3,1],.mk (some 4) (.mv (.tmp 9)) none [4,4,0,1,2,3,4]]
def l73:AFn :=
  (AFn.mk 10 2 (.seq (.reg l73r0) (.seq (.reg l73r1) .ret)) [.tmp 4])
theorem l73_eq:lowFn Tryz.prog 73=some l73:=by kernel_rfl
def l74r0:List AOper :=
  [.mk (some 3) (.box (.tmp 0)) none [],.mk (some 5) (.box (.tmp 2)) none [],.mk (some 6) (.alloc [.slice none 0 0,.slice none 0 0]) none []]
def l74r1:List AOper :=
  [.mk (some 8) (.load true 2 (.tmp 3)) none [],.mk (some 9) (.call 50 [.tmp 8]) none [0],.mk (some 7) (.alloc [.slice none 0 0,.slice none 0 0]) none [],.mk none (.store 2 (.tmp 7) (.tmp 9)) none [2,1,1,0,1,2]]
def l74r2a:List AOper :=
  [.mk (some 10) (.fld 1 (.tmp 7)) none [],.mk (some 11) (.load false 1 (.tmp 10)) none [0],.mk (some 12) (.mv (.tmp 1)) none [],.mk (some 13) (.load true 3 (.tmp 5)) none [],.mk (some 14) (.call 89 [.tmp 13]) none [3],.mk (some 15) (.build [.int .i64 0,.int .i64 0,.slice none 0 0,.slice none 0 0,.bool false] [(0,1,.tmp 12),(1,3,.tmp 14),(4,1,.const (.bool true))]) none [2,4],.mk (some 16) (.bslice 5 [.int .i64 0,.int .i64 0,.slice none 0 0,.slice none 0 0,.bool false] [(0,.tmp 15)] 1) none [5]]
def l74r2b:List AOper :=
  [.mk (some 17) (.append 5 (.tmp 11) (.tmp 16)) none [1,6,4],.mk (some 18) (.fld 1 (.tmp 7)) none [0,1,2,3,4,5,6,7],.mk none (.store 1 (.tmp 18) (.tmp 17)) none [8,7,7,0,1,2,3,4,5,6,7]]
def l74r2:List AOper:=l74r2a ++ l74r2b
def l74r3:List AOper :=
  [.mk (some 19) (.load true 2 (.tmp 7)) none [],.mk none (.store 2 (.tmp 6) (.tmp 19)) none [0,0]]
def l74:AFn :=
  (AFn.mk 20 3 (.seq (.reg l74r0) (.seq (.reg l74r1) (.seq (.draw l74r2) (.seq (.reg l74r3) .ret)))) [.cell 6 true 2])
theorem l74_eq:lowFn Tryz.prog 74=some l74:=by kernel_rfl
def l77r0:List AOper :=
  [.mk (some 3) (.box (.tmp 0)) none [],.mk (some 5) (.box (.tmp 2)) none [],.mk (some 6) (.alloc [.int .i64 0,.slice none 0 0,.slice none 0 0]) none [],.mk (some 7) (.mv (.const (.bool false))) none []]
def l77r1:List AOper :=
  [.mk (some 8) (.load true 3 (.tmp 3)) none [],.mk (some 9) (.call 72 [.tmp 8]) none [0],.mk (some 10) (.un .not (.tmp 9)) none [1],.mk (some 11) (.mv (.tmp 10)) none [2,1],.mk (some 12) (.load true 3 (.tmp 3)) (some (11,false)) [3],.mk (some 13) (.mv (.tmp 1)) (some (11,false)) [3],.mk (some 14) (.call 121 [.tmp 12,.tmp 13]) (some (11,false)) [4,5,3,3],.mk (some 15) (.un .not (.tmp 14)) (some (11,false)) [6,3],.mk (some 16) (.pick (.tmp 11) (.const (.bool true)) (.tmp 15)) none [3,7],.mk (some 17) (.mv (.tmp 16)) none [8,6],.mk (some 18) (.load true 5 (.tmp 5)) (some (17,false)) [9],.mk (some 19) (.call 122 [.tmp 18]) (some (17,false)) [10,9,9],.mk (some 20) (.un .not (.tmp 19)) (some (17,false)) [11,9],.mk (some 21) (.pick (.tmp 17) (.const (.bool true)) (.tmp 20)) none [9,12]]
def l77r2:List AOper :=
  [.mk (some 22) (.build [.int .i64 0,.slice none 0 0,.slice none 0 0] []) none [],.mk none (.store 3 (.tmp 6) (.tmp 22)) none [0,0],.mk (some 7) (.mv (.const (.bool false))) none [1,0,1]]
def l77r3:List AOper :=
  [.mk (some 23) (.load true 3 (.tmp 3)) none [],.mk (some 24) (.mv (.tmp 1)) none [],.mk (some 25) (.load true 5 (.tmp 5)) none [],.mk (some 26) (.call 124 [.tmp 23,.tmp 24,.tmp 25]) none [0,1,2],.mk (some 27) (.call 123 [.tmp 26]) none [3,3],.mk (some 28) (.extract (.tmp 27) 0) none [4],.mk (some 29) (.extract (.tmp 27) 1) none [4],.mk none (.store 3 (.tmp 6) (.tmp 28)) none [5,4,0,1,2,3,4,5,6],.mk (some 7) (.mv (.tmp 29)) none [6,7,0,1,2,3,4,5,6,7]]
def l77:AFn :=
  (AFn.mk 30 3 (.seq (.reg l77r0) (.seq (.seq (.reg l77r1) (.cond (.tmp 21) (.seq (.reg l77r2) .ret) .skip)) (.seq (.reg l77r3) .ret))) [.cell 6 true 3,.tmp 7])
theorem l77_eq:lowFn Tryz.prog 77=some l77:=by kernel_rfl
def l80r0:List AOper :=
  [.mk (some 4) (.mv (.const (.bool false))) none []]
def l80r1:List AOper :=
  [.mk (some 5) (.mv (.tmp 0)) none [],.mk (some 6) (.bin .leq (.const (.int .i64 0)) (.tmp 5)) none [0],.mk (some 7) (.mv (.tmp 6)) none [1],.mk (some 8) (.mv (.tmp 0)) (some (7,true)) [2],.mk (some 9) (.mv (.tmp 1)) (some (7,true)) [2],.mk (some 10) (.bin .leq (.tmp 8) (.tmp 9)) (some (7,true)) [3,4,2],.mk (some 11) (.pick (.tmp 7) (.tmp 10) (.const (.bool false))) none [2,5],.mk (some 4) (.mv (.tmp 11)) none [6,2,0,1,2,3,4,5,6]]
def l80:AFn :=
  (AFn.mk 12 2 (.seq (.reg l80r0) (.seq (.reg l80r1) .ret)) [.tmp 4])
theorem l80_eq:lowFn Tryz.prog 80=some l80:=by kernel_rfl
def l83r0:List AOper :=
  [.mk (some 6) (.mv (.const (.pointer none))) none []]
def l83r1:List AOper :=
  [.mk (some 7) (.mv (.tmp 2)) none []]
def l83r2:List AOper :=
  [.mk (some 8) (.mv (.tmp 0)) none [],.mk (some 9) (.mv (.tmp 0)) none [],.mk (some 10) (.nilck (.tmp 9)) none [1],.mk (some 11) (.fld 0 (.tmp 10)) none [2],.mk (some 12) (.load false 1 (.tmp 11)) none [3],.mk (some 13) (.mv (.tmp 1)) none [],.mk (some 14) (.bslice 1 [.int .i64 0] [(0,.tmp 13)] 1) none [5],.mk (some 15) (.append 1 (.tmp 12) (.tmp 14)) none [4,6],.mk (some 16) (.nilck (.tmp 8)) none [0,0,1,2,3,4,5,6,7],.mk (some 17) (.fld 0 (.tmp 16)) none [8,0,1,2,3,4,5,6,7],.mk none (.store 1 (.tmp 17) (.tmp 15)) none [9,7,7,0,1,2,3,4,5,6,7]]
def l83r3:List AOper :=
  [.mk (some 18) (.build [.slice none 0 0] []) none [],.mk (some 19) (.box (.tmp 18)) none [0],.mk (some 6) (.mv (.tmp 19)) none [1,0,1]]
def l83:AFn :=
  (AFn.mk 20 3 (.seq (.reg l83r0) (.seq (.seq (.reg l83r1) (.cond (.tmp 7) (.reg l83r2) .skip)) (.seq (.reg l83r3) .ret))) [.tmp 6])
theorem l83_eq:lowFn Tryz.prog 83=some l83:=by kernel_rfl
def l84r0:List AOper :=
  [.mk (some 2) (.mv (.const (.slice none 0 0))) none []]
def l84r1:List AOper :=
  [.mk (some 3) (.mv (.tmp 0)) none [],.mk (some 4) (.isnil false (.tmp 3)) none [0]]
def l84r2:List AOper :=
  [.mk (some 2) (.mv (.const (.slice none 0 0))) none []]
def l84r3:List AOper :=
  [.mk (some 5) (.bslice 1 [.int .i64 0] [] 0) none [],.mk (some 6) (.mv (.tmp 0)) none [],.mk (some 7) (.append 1 (.tmp 5) (.tmp 6)) none [0,1],.mk (some 2) (.mv (.tmp 7)) none [2,2,0,1,2]]
def l84:AFn :=
  (AFn.mk 8 1 (.seq (.reg l84r0) (.seq (.seq (.reg l84r1) (.cond (.tmp 4) (.seq (.reg l84r2) .ret) .skip)) (.seq (.reg l84r3) .ret))) [.tmp 2])
theorem l84_eq:lowFn Tryz.prog 84=some l84:=by kernel_rfl
def l85r0:List AOper :=
  [.mk (some 1) (.box (.tmp 0)) none [],.mk (some 2) (.alloc [.int .i64 0,.slice none 0 0,.slice none 0 0]) none []]
def l85r1a:List AOper :=
  [.mk (some 3) (.fld 0 (.tmp 1)) none [],.mk (some 4) (.load false 1 (.tmp 3)) none [0],.mk (some 5) (.fld 1 (.tmp 1)) none [],.mk (some 6) (.load false 1 (.tmp 5)) none [2],.mk (some 7) (.call 84 [.tmp 6]) none [3],.mk (some 8) (.fld 2 (.tmp 1)) none [],.mk (some 9) (.load false 1 (.tmp 8)) none [5],.mk (some 10) (.call 84 [.tmp 9]) none [6,4]]
def l85r1b:List AOper :=
  [.mk (some 11) (.build [.int .i64 0,.slice none 0 0,.slice none 0 0] [(0,1,.tmp 4),(1,1,.tmp 7),(2,1,.tmp 10)]) none [1,4,7],.mk none (.store 3 (.tmp 2) (.tmp 11)) none [8,7,0,1,2,3,4,5,6,7,8]]
def l85r1:List AOper:=l85r1a ++ l85r1b
def l85:AFn :=
  (AFn.mk 12 1 (.seq (.reg l85r0) (.seq (.draw l85r1) .ret)) [.cell 2 true 3])
theorem l85_eq:lowFn Tryz.prog 85=some l85:=by kernel_rfl
def l86r0:List AOper :=
  [.mk (some 2) (.box (.tmp 0)) none [],.mk (some 4) (.mv (.const (.bool false))) none []]
def l86r1:List AOper :=
  [.mk (some 6) (.fld 1 (.tmp 2)) none [],.mk (some 7) (.load false 1 (.tmp 6)) none [0],.mk (some 8) (.mv (.tmp 1)) none [],.mk (some 9) (.idxA 5 (.tmp 7) (.tmp 8)) none [1,2],.mk (some 10) (.load true 5 (.tmp 9)) none [3],.mk (some 5) (.alloc [.int .i64 0,.int .i64 0,.slice none 0 0,.slice none 0 0,.bool false]) none [],.mk none (.store 5 (.tmp 5) (.tmp 10)) none [5,4,0,1,2,3,4,5]]
def l86r2:List AOper :=
  [.mk (some 11) (.fld 0 (.tmp 5)) none [],.mk (some 12) (.load false 1 (.tmp 11)) none [0],.mk (some 13) (.mv (.tmp 1)) none [],.mk (some 14) (.bin .sub (.tmp 13) (.const (.int .i64 1))) none [2],.mk (some 15) (.call 60 [.tmp 12,.const (.int .i64 (-1)),.tmp 14]) none [1,3],.mk (some 16) (.un .not (.tmp 15)) none [4],.mk (some 17) (.mv (.tmp 16)) none [5,4],.mk (some 18) (.fld 1 (.tmp 5)) (some (17,false)) [6],.mk (some 19) (.load true 3 (.tmp 18)) (some (17,false)) [7,6],.mk (some 20) (.call 72 [.tmp 19]) (some (17,false)) [8,6,6],.mk (some 21) (.un .not (.tmp 20)) (some (17,false)) [9,6],.mk (some 22) (.pick (.tmp 17) (.const (.bool true)) (.tmp 21)) none [6,10]]
def l86r3:List AOper :=
  [.mk (some 4) (.mv (.const (.bool false))) none []]
def l86r4:List AOper :=
  [.mk (some 23) (.fld 4 (.tmp 5)) none [],.mk (some 24) (.load false 1 (.tmp 23)) none [0],.mk (some 25) (.un .not (.tmp 24)) none [1],.mk (some 26) (.mv (.tmp 25)) none [2],.mk (some 27) (.fld 1 (.tmp 5)) (some (26,false)) [3],.mk (some 28) (.load true 3 (.tmp 27)) (some (26,false)) [4,3],.mk (some 29) (.fld 0 (.tmp 2)) (some (26,false)) [3],.mk (some 30) (.load false 1 (.tmp 29)) (some (26,false)) [6,3],.mk (some 31) (.len (.tmp 30)) (some (26,false)) [7,3],.mk (some 32) (.call 73 [.tmp 28,.tmp 31]) (some (26,false)) [5,8,3,3],.mk (some 33) (.mv (.tmp 32)) (some (26,false)) [9,9,3],.mk (some 34) (.fld 0 (.tmp 5)) (some (33,true)) [10],.mk (some 35) (.load false 1 (.tmp 34)) (some (33,true)) [11,10],.mk (some 36) (.bin .lss (.tmp 35) (.const (.int .i64 0))) (some (33,true)) [12,10],.mk (some 37) (.mv (.tmp 36)) (some (33,true)) [13,10,10],.mk (some 38) (.fld 1 (.tmp 2)) (some (37,false)) [14],.mk (some 39) (.load false 1 (.tmp 38)) (some (37,false)) [15,14],.mk (some 40) (.fld 0 (.tmp 5)) (some (37,false)) [14],.mk (some 41) (.load false 1 (.tmp 40)) (some (37,false)) [17,14],.mk (some 42) (.idxA 5 (.tmp 39) (.tmp 41)) (some (37,false)) [16,18,14],.mk (some 43) (.fld 4 (.tmp 42)) (some (37,false)) [19,14],.mk (some 44) (.load false 1 (.tmp 43)) (some (37,false)) [20,14],.mk (some 45) (.pick (.tmp 37) (.const (.bool true)) (.tmp 44)) (some (33,true)) [14,21,10],.mk (some 46) (.pick (.tmp 33) (.tmp 45) (.const (.bool false))) (some (26,false)) [10,22,3],.mk (some 47) (.pick (.tmp 26) (.const (.bool true)) (.tmp 46)) none [3,23],.mk (some 4) (.mv (.tmp 47)) none [24,14,0,1,2,3,4,5,6,7,8,9,10,11,12,13,14,15,16,17,18,19,20,21,22,23,24]]
def l86:AFn :=
  (AFn.mk 48 2 (.seq (.reg l86r0) (.seq (.reg l86r1) (.seq (.seq (.reg l86r2) (.cond (.tmp 22) (.seq (.reg l86r3) .ret) .skip)) (.seq (.reg l86r4) .ret)))) [.tmp 4])
theorem l86_eq:lowFn Tryz.prog 86=some l86:=by kernel_rfl
def l87r0:List AOper :=
  [.mk (some 2) (.mv (.const (.bool false))) none []]
def l87r1:List AOper :=
  [.mk (some 3) (.mv (.tmp 0)) none [],.mk (some 4) (.len (.tmp 3)) none [0],.mk (some 5) (.bin .leq (.tmp 4) (.const (.int .i64 60))) none [1],.mk (some 6) (.mv (.tmp 5)) none [2],.mk (some 7) (.mv (.tmp 0)) (some (6,true)) [3],.mk (some 8) (.call 112 [.tmp 7,.const (.int .i64 0),.const (.int .i64 255)]) (some (6,true)) [4,3,3],.mk (some 9) (.pick (.tmp 6) (.tmp 8) (.const (.bool false))) none [3,5],.mk (some 2) (.mv (.tmp 9)) none [6,5,0,1,2,3,4,5,6]]
def l87:AFn :=
  (AFn.mk 10 1 (.seq (.reg l87r0) (.seq (.reg l87r1) .ret)) [.tmp 2])
theorem l87_eq:lowFn Tryz.prog 87=some l87:=by kernel_rfl
def l88r0:List AOper :=
  [.mk (some 2) (.mv (.const (.slice none 0 0))) none []]
def l88r1:List AOper :=
  [.mk (some 3) (.bslice 1 [.int .i64 0] [] 0) none [],.mk (some 4) (.mv (.tmp 0)) none [],.mk (some 5) (.append 1 (.tmp 3) (.tmp 4)) none [0,1],.mk (some 2) (.mv (.tmp 5)) none [2,2,0,1,2]]
def l88:AFn :=
  (AFn.mk 6 1 (.seq (.reg l88r0) (.seq (.reg l88r1) .ret)) [.tmp 2])
theorem l88_eq:lowFn Tryz.prog 88=some l88:=by kernel_rfl
def l89r0:List AOper :=
  [.mk (some 1) (.box (.tmp 0)) none [],.mk (some 2) (.alloc [.int .i64 0,.slice none 0 0,.slice none 0 0]) none []]
def l89r1a:List AOper :=
  [.mk (some 3) (.fld 0 (.tmp 1)) none [],.mk (some 4) (.load false 1 (.tmp 3)) none [0],.mk (some 5) (.fld 1 (.tmp 1)) none [],.mk (some 6) (.load false 1 (.tmp 5)) none [2],.mk (some 7) (.call 88 [.tmp 6]) none [3],.mk (some 8) (.fld 2 (.tmp 1)) none [],.mk (some 9) (.load false 1 (.tmp 8)) none [5],.mk (some 10) (.call 88 [.tmp 9]) none [6,4]]
def l89r1b:List AOper :=
  [.mk (some 11) (.build [.int .i64 0,.slice none 0 0,.slice none 0 0] [(0,1,.tmp 4),(1,1,.tmp 7),(2,1,.tmp 10)]) none [1,4,7],.mk none (.store 3 (.tmp 2) (.tmp 11)) none [8,7,0,1,2,3,4,5,6,7,8]]
def l89r1:List AOper:=l89r1a ++ l89r1b
def l89:AFn :=
  (AFn.mk 12 1 (.seq (.reg l89r0) (.seq (.draw l89r1) .ret)) [.cell 2 true 3])
theorem l89_eq:lowFn Tryz.prog 89=some l89:=by kernel_rfl
def l90r0:List AOper :=
  [.mk (some 1) (.box (.tmp 0)) none [],.mk (some 2) (.mv (.const (.slice none 0 0))) none []]
def l90r1:List AOper :=
  [.mk (some 5) (.bslice 1 [.int .i64 0] [] 0) none [],.mk (some 3) (.mv (.tmp 5)) none [0,0]]
def l90r2:List AOper :=
  [.mk (some 4) (.mv (.const (.int .i64 0))) none []]
def l90r3:List AOper :=
  [.mk (some 6) (.mv (.tmp 4)) none [],.mk (some 7) (.fld 1 (.tmp 1)) none [],.mk (some 8) (.load false 1 (.tmp 7)) none [1],.mk (some 9) (.call 113 [.tmp 8]) none [2],.mk (some 10) (.bin .lss (.tmp 6) (.tmp 9)) none [0,3]]
def l90r4a:List AOper :=
  [.mk (some 13) (.mv (.tmp 3)) none [],.mk (some 14) (.load true 3 (.tmp 1)) none [],.mk (some 15) (.fld 1 (.tmp 1)) none [],.mk (some 16) (.load false 1 (.tmp 15)) none [2],.mk (some 17) (.mv (.tmp 4)) none [],.mk (some 18) (.call 127 [.tmp 16,.tmp 17]) none [3,4],.mk (some 19) (.call 126 [.tmp 14,.tmp 18]) none [1,5,5],.mk (some 20) (.bslice 1 [.int .i64 0] [(0,.tmp 19)] 1) none [6]]
def l90r4b:List AOper :=
  [.mk (some 21) (.append 1 (.tmp 13) (.tmp 20)) none [0,7,6],.mk (some 3) (.mv (.tmp 21)) none [8,8,0,1,2,3,4,5,6,7,8]]
def l90r4:List AOper:=l90r4a ++ l90r4b
def l90r5:List AOper :=
  [.mk (some 11) (.mv (.tmp 4)) none [],.mk (some 12) (.bin .add (.tmp 11) (.const (.int .i64 1))) none [0],.mk (some 4) (.mv (.tmp 12)) none [1,0,1]]
def l90r6:List AOper :=
  [.mk (some 22) (.mv (.tmp 3)) none [],.mk (some 2) (.mv (.tmp 22)) none [0,0]]
def l90:AFn :=
  (AFn.mk 23 1 (.seq (.reg l90r0) (.seq (.reg l90r1) (.seq (.seq (.reg l90r2) (.block 0 (.loop (.seq (.seq (.reg l90r3) (.cond (.tmp 10) .skip (.exit 0))) (.seq (.block 1 (.draw l90r4)) (.reg l90r5)))))) (.seq (.reg l90r6) .ret)))) [.tmp 2])
theorem l90_eq:lowFn Tryz.prog 90=some l90:=by kernel_rfl
def l91r0:List AOper :=
  [.mk (some 2) (.mv (.const (.bool false))) none []]
def l91r1:List AOper :=
  [.mk (some 3) (.mv (.tmp 0)) none [],.mk (some 4) (.bin .leq (.const (.int .i64 0)) (.tmp 3)) none [0],.mk (some 5) (.mv (.tmp 4)) none [1],.mk (some 6) (.mv (.tmp 0)) (some (5,true)) [2],.mk (some 7) (.bin .leq (.tmp 6) (.const (.int .i64 60))) (some (5,true)) [3,2],.mk (some 8) (.pick (.tmp 5) (.tmp 7) (.const (.bool false))) none [2,4],.mk (some 2) (.mv (.tmp 8)) none [5,2,0,1,2,3,4,5]]
def l91:AFn :=
  (AFn.mk 9 1 (.seq (.reg l91r0) (.seq (.reg l91r1) .ret)) [.tmp 2])
theorem l91_eq:lowFn Tryz.prog 91=some l91:=by kernel_rfl
def l92r0:List AOper :=
  [.mk (some 2) (.mv (.const (.bool false))) none []]
def l92r1:List AOper :=
  [.mk (some 5) (.mv (.tmp 0)) none [],.mk (some 6) (.len (.tmp 5)) none [0],.mk (some 7) (.mv (.const (.int .i64 0))) none []]
def l92r2:List AOper :=
  [.mk (some 8) (.bin .lss (.tmp 7) (.tmp 6)) none []]
def l92r3:List AOper :=
  [.mk (some 9) (.idxA 1 (.tmp 5) (.tmp 7)) none [],.mk (some 10) (.load false 1 (.tmp 9)) none [0],.mk (some 4) (.mv (.tmp 10)) none [1,0,1]]
def l92r4:List AOper :=
  [.mk (some 11) (.mv (.tmp 4)) none [],.mk (some 12) (.call 80 [.tmp 11,.const (.int .i64 255)]) none [0],.mk (some 13) (.un .not (.tmp 12)) none [1]]
def l92r5:List AOper :=
  [.mk (some 2) (.mv (.const (.bool false))) none []]
def l92r6:List AOper :=
  [.mk (some 14) (.bin .add (.tmp 7) (.const (.int .i64 1))) none [],.mk (some 7) (.mv (.tmp 14)) none [0]]
def l92r7:List AOper :=
  [.mk (some 2) (.mv (.const (.bool true))) none []]
def l92:AFn :=
  (AFn.mk 15 1 (.seq (.reg l92r0) (.seq (.seq (.reg l92r1) (.block 0 (.loop (.seq (.reg l92r2) (.seq (.cond (.tmp 8) .skip (.exit 0)) (.seq (.block 1 (.seq (.reg l92r3) (.seq (.reg l92r4) (.cond (.tmp 13) (.seq (.reg l92r5) .ret) .skip)))) (.reg l92r6))))))) (.seq (.reg l92r7) .ret))) [.tmp 2])
theorem l92_eq:lowFn Tryz.prog 92=some l92:=by kernel_rfl
def l97r0:List AOper :=
  [.mk (some 1) (.box (.tmp 0)) none [],.mk (some 2) (.mv (.const (.int .i64 0))) none []]
def l97r1:List AOper :=
  [.mk (some 3) (.fld 1 (.tmp 1)) none [],.mk (some 4) (.load false 1 (.tmp 3)) none [0],.mk (some 5) (.call 129 [.tmp 4]) none [1],.mk (some 2) (.mv (.tmp 5)) none [2,2,0,1,2]]
def l97:AFn :=
  (AFn.mk 6 1 (.seq (.reg l97r0) (.seq (.reg l97r1) .ret)) [.tmp 2])
theorem l97_eq:lowFn Tryz.prog 97=some l97:=by kernel_rfl
def l98r0:List AOper :=
  [.mk (some 3) (.box (.tmp 1)) none [],.mk (some 4) (.mv (.const (.bool false))) none []]
def l98r1:List AOper :=
  [.mk (some 5) (.mv (.tmp 0)) none [],.mk (some 6) (.call 87 [.tmp 5]) none [0],.mk (some 7) (.mv (.tmp 6)) none [1,1],.mk (some 8) (.load true 3 (.tmp 3)) (some (7,true)) [2],.mk (some 9) (.call 72 [.tmp 8]) (some (7,true)) [3,2,2],.mk (some 10) (.pick (.tmp 7) (.tmp 9) (.const (.bool false))) none [2,4],.mk (some 11) (.mv (.tmp 10)) none [5,4],.mk (some 12) (.load true 3 (.tmp 3)) (some (11,true)) [6],.mk (some 13) (.mv (.tmp 0)) (some (11,true)) [6],.mk (some 14) (.len (.tmp 13)) (some (11,true)) [8,6],.mk (some 15) (.call 73 [.tmp 12,.tmp 14]) (some (11,true)) [7,9,6,6],.mk (some 16) (.pick (.tmp 11) (.tmp 15) (.const (.bool false))) none [6,10],.mk (some 4) (.mv (.tmp 16)) none [11,10,0,1,2,3,4,5,6,7,8,9,10,11]]
def l98:AFn :=
  (AFn.mk 17 2 (.seq (.reg l98r0) (.seq (.reg l98r1) .ret)) [.tmp 4])
theorem l98_eq:lowFn Tryz.prog 98=some l98:=by kernel_rfl
def l99r0:List AOper :=
  [.mk (some 2) (.mv (.const (.bool false))) none []]
def l99r1:List AOper :=
  [.mk (some 5) (.mv (.tmp 0)) none [],.mk (some 6) (.len (.tmp 5)) none [0],.mk (some 7) (.bin .gtr (.tmp 6) (.const (.int .i64 4))) none [1]]
def l99r2:List AOper :=
  [.mk (some 2) (.mv (.const (.bool false))) none []]
def l99r3:List AOper :=
  [.mk (some 8) (.mv (.tmp 0)) none [],.mk (some 9) (.len (.tmp 8)) none [0],.mk (some 10) (.mv (.const (.int .i64 0))) none []]
def l99r4:List AOper :=
  [.mk (some 11) (.bin .lss (.tmp 10) (.tmp 9)) none []]
def l99r5:List AOper :=
  [.mk (some 12) (.idxA 1 (.tmp 8) (.tmp 10)) none [],.mk (some 13) (.load false 1 (.tmp 12)) none [0],.mk (some 4) (.mv (.tmp 13)) none [1,0,1]]
def l99r6:List AOper :=
  [.mk (some 14) (.mv (.tmp 4)) none [],.mk (some 15) (.call 80 [.tmp 14,.const (.int .i64 60)]) none [0],.mk (some 16) (.un .not (.tmp 15)) none [1]]
def l99r7:List AOper :=
  [.mk (some 2) (.mv (.const (.bool false))) none []]
def l99r8:List AOper :=
  [.mk (some 17) (.bin .add (.tmp 10) (.const (.int .i64 1))) none [],.mk (some 10) (.mv (.tmp 17)) none [0]]
def l99r9:List AOper :=
  [.mk (some 18) (.mv (.tmp 0)) none [],.mk (some 19) (.call 129 [.tmp 18]) none [0],.mk (some 20) (.bin .leq (.tmp 19) (.const (.int .i64 60))) none [1],.mk (some 2) (.mv (.tmp 20)) none [2,1,0,1,2]]
def l99:AFn :=
  (AFn.mk 21 1 (.seq (.reg l99r0) (.seq (.seq (.reg l99r1) (.cond (.tmp 7) (.seq (.reg l99r2) .ret) .skip)) (.seq (.seq (.reg l99r3) (.block 0 (.loop (.seq (.reg l99r4) (.seq (.cond (.tmp 11) .skip (.exit 0)) (.seq (.block 1 (.seq (.reg l99r5) (.seq (.reg l99r6) (.cond (.tmp 16) (.seq (.reg l99r7) .ret) .skip)))) (.reg l99r8))))))) (.seq (.reg l99r9) .ret)))) [.tmp 2])
theorem l99_eq:lowFn Tryz.prog 99=some l99:=by kernel_rfl
def l100r0:List AOper :=
  [.mk (some 4) (.mv (.const (.bool false))) none []]
def l100r1:List AOper :=
  [.mk (some 7) (.mv (.tmp 0)) none [],.mk (some 8) (.len (.tmp 7)) none [0],.mk (some 9) (.mv (.tmp 1)) none [],.mk (some 10) (.bin .neq (.tmp 8) (.tmp 9)) none [1,2]]
def l100r2:List AOper :=
  [.mk (some 4) (.mv (.const (.bool false))) none []]
def l100r3:List AOper :=
  [.mk (some 11) (.mv (.tmp 0)) none [],.mk (some 12) (.len (.tmp 11)) none [0],.mk (some 13) (.mv (.const (.int .i64 0))) none []]
def l100r4:List AOper :=
  [.mk (some 14) (.bin .lss (.tmp 13) (.tmp 12)) none []]
def l100r5:List AOper :=
  [.mk (some 15) (.idxA 1 (.tmp 11) (.tmp 13)) none [],.mk (some 16) (.load false 1 (.tmp 15)) none [0],.mk (some 6) (.mv (.tmp 16)) none [1,0,1]]
def l100r6:List AOper :=
  [.mk (some 17) (.mv (.tmp 6)) none [],.mk (some 18) (.call 130 [.tmp 17,.const (.int .i64 60)]) none [0],.mk (some 19) (.un .not (.tmp 18)) none [1]]
def l100r7:List AOper :=
  [.mk (some 4) (.mv (.const (.bool false))) none []]
def l100r8:List AOper :=
  [.mk (some 20) (.bin .add (.tmp 13) (.const (.int .i64 1))) none [],.mk (some 13) (.mv (.tmp 20)) none [0]]
def l100r9:List AOper :=
  [.mk (some 4) (.mv (.const (.bool true))) none []]
def l100:AFn :=
  (AFn.mk 21 2 (.seq (.reg l100r0) (.seq (.seq (.reg l100r1) (.cond (.tmp 10) (.seq (.reg l100r2) .ret) .skip)) (.seq (.seq (.reg l100r3) (.block 0 (.loop (.seq (.reg l100r4) (.seq (.cond (.tmp 14) .skip (.exit 0)) (.seq (.block 1 (.seq (.reg l100r5) (.seq (.reg l100r6) (.cond (.tmp 19) (.seq (.reg l100r7) .ret) .skip)))) (.reg l100r8))))))) (.seq (.reg l100r9) .ret)))) [.tmp 4])
theorem l100_eq:lowFn Tryz.prog 100=some l100:=by kernel_rfl
def l101r0:List AOper :=
  [.mk (some 1) (.box (.tmp 0)) none [],.mk (some 2) (.mv (.const (.int .i64 0))) none [],.mk (some 3) (.mv (.const (.int .i64 0))) none [1]]
def l101r1:List AOper :=
  [.mk (some 9) (.load true 3 (.tmp 1)) none [],.mk (some 10) (.call 97 [.tmp 9]) none [0],.mk (some 11) (.bin .eql (.tmp 10) (.const (.int .i64 0))) none [1]]
def l101r2:List AOper :=
  [.mk (some 2) (.mv (.const (.int .i64 (-1)))) none [],.mk (some 3) (.mv (.const (.int .i64 (-1)))) none [0,0]]
def l101r3a:List AOper :=
  [.mk (some 12) (.fld 0 (.tmp 1)) none [],.mk (some 13) (.load false 1 (.tmp 12)) none [0],.mk (some 14) (.fld 0 (.tmp 1)) none [],.mk (some 15) (.load false 1 (.tmp 14)) none [2],.mk (some 4) (.mv (.tmp 13)) none [1,0,1]]
def l101r3b:List AOper :=
  [.mk (some 5) (.mv (.tmp 15)) none [3,4,0,1,2,3,4]]
def l101r3:List AOper:=l101r3a ++ l101r3b
def l101r4:List AOper :=
  [.mk (some 16) (.fld 2 (.tmp 1)) none [],.mk (some 17) (.load false 1 (.tmp 16)) none [0],.mk (some 18) (.len (.tmp 17)) none [1],.mk (some 19) (.mv (.const (.int .i64 0))) none []]
def l101r5:List AOper :=
  [.mk (some 20) (.bin .lss (.tmp 19) (.tmp 18)) none []]
def l101r6:List AOper :=
  [.mk (some 21) (.mv (.tmp 19)) none [],.mk (some 22) (.idxA 1 (.tmp 17) (.tmp 19)) none [],.mk (some 23) (.load false 1 (.tmp 22)) none [1],.mk (some 6) (.mv (.tmp 21)) none [0,0,1,2],.mk (some 7) (.mv (.tmp 23)) none [2,3,0,1,2,3]]
def l101r7:List AOper :=
  [.mk (some 24) (.fld 1 (.tmp 1)) none [],.mk (some 25) (.load false 1 (.tmp 24)) none [0],.mk (some 26) (.mv (.tmp 6)) none [],.mk (some 27) (.idxA 1 (.tmp 25) (.tmp 26)) none [1,2],.mk (some 28) (.load false 1 (.tmp 27)) none [3],.mk (some 29) (.bin .sub (.tmp 28) (.const (.int .i64 1))) none [4],.mk (some 30) (.mv (.tmp 7)) none [],.mk (some 31) (.bin .mul (.tmp 29) (.tmp 30)) none [5,6],.mk (some 8) (.mv (.tmp 31)) none [7,0,1,2,3,4,5,6,7]]
def l101r8:List AOper :=
  [.mk (some 32) (.mv (.tmp 4)) none [],.mk (some 33) (.mv (.tmp 8)) none [],.mk (some 34) (.minmax false (.tmp 33) (.const (.int .i64 0))) none [1],.mk (some 35) (.bin .add (.tmp 32) (.tmp 34)) none [0,2],.mk (some 4) (.mv (.tmp 35)) none [3,0,1,2,3]]
def l101r9:List AOper :=
  [.mk (some 36) (.mv (.tmp 5)) none [],.mk (some 37) (.mv (.tmp 8)) none [],.mk (some 38) (.minmax true (.tmp 37) (.const (.int .i64 0))) none [1],.mk (some 39) (.bin .add (.tmp 36) (.tmp 38)) none [0,2],.mk (some 5) (.mv (.tmp 39)) none [3,0,1,2,3]]
def l101r10:List AOper :=
  [.mk (some 40) (.bin .add (.tmp 19) (.const (.int .i64 1))) none [],.mk (some 19) (.mv (.tmp 40)) none [0]]
def l101r11:List AOper :=
  [.mk (some 41) (.mv (.tmp 4)) none [],.mk (some 42) (.mv (.tmp 5)) none [],.mk (some 2) (.mv (.tmp 41)) none [0,0],.mk (some 3) (.mv (.tmp 42)) none [1,2,0,1,2]]
def l101:AFn :=
  (AFn.mk 43 1 (.seq (.reg l101r0) (.seq (.seq (.reg l101r1) (.cond (.tmp 11) (.seq (.reg l101r2) .ret) .skip)) (.seq (.draw l101r3) (.seq (.seq (.reg l101r4) (.block 0 (.loop (.seq (.reg l101r5) (.seq (.cond (.tmp 20) .skip (.exit 0)) (.seq (.block 1 (.seq (.reg l101r6) (.seq (.reg l101r7) (.seq (.reg l101r8) (.reg l101r9))))) (.reg l101r10))))))) (.seq (.reg l101r11) .ret))))) [.tmp 2,.tmp 3])
theorem l101_eq:lowFn Tryz.prog 101=some l101:=by kernel_rfl
def l107r0:List AOper :=
  [.mk (some 4) (.box (.tmp 1)) none [],.mk (some 5) (.box (.tmp 2)) none [],.mk (some 6) (.mv (.const (.bool false))) none []]
def l107r1:List AOper :=
  [.mk (some 7) (.mv (.tmp 0)) none [],.mk (some 8) (.load true 3 (.tmp 4)) none [],.mk (some 9) (.call 98 [.tmp 7,.tmp 8]) none [0,1],.mk (some 10) (.mv (.tmp 9)) none [2,2],.mk (some 11) (.mv (.tmp 0)) (some (10,true)) [3],.mk (some 12) (.load true 3 (.tmp 5)) (some (10,true)) [3],.mk (some 13) (.call 98 [.tmp 11,.tmp 12]) (some (10,true)) [4,5,3,3],.mk (some 14) (.pick (.tmp 10) (.tmp 13) (.const (.bool false))) none [3,6],.mk (some 15) (.mv (.tmp 14)) none [7,6],.mk (some 16) (.fld 1 (.tmp 4)) (some (15,true)) [8],.mk (some 17) (.load false 1 (.tmp 16)) (some (15,true)) [9,8],.mk (some 18) (.fld 1 (.tmp 5)) (some (15,true)) [8],.mk (some 19) (.load false 1 (.tmp 18)) (some (15,true)) [11,8],.mk (some 20) (.call 133 [.tmp 17,.tmp 19]) (some (15,true)) [10,12,8,8],.mk (some 21) (.pick (.tmp 15) (.tmp 20) (.const (.bool false))) none [8,13],.mk (some 6) (.mv (.tmp 21)) none [14,13,0,1,2,3,4,5,6,7,8,9,10,11,12,13,14]]
def l107:AFn :=
  (AFn.mk 22 3 (.seq (.reg l107r0) (.seq (.reg l107r1) .ret)) [.tmp 6])
theorem l107_eq:lowFn Tryz.prog 107=some l107:=by kernel_rfl
def l108r0:List AOper :=
  [.mk (some 4) (.box (.tmp 1)) none [],.mk (some 6) (.mv (.const (.slice none 0 0))) none []]
def l108r1:List AOper :=
  [.mk (some 10) (.mv (.tmp 0)) none [],.mk (some 11) (.call 88 [.tmp 10]) none [0],.mk (some 7) (.mv (.tmp 11)) none [1,1,0,1]]
def l108r2:List AOper :=
  [.mk (some 12) (.load true 3 (.tmp 4)) none [],.mk (some 13) (.call 90 [.tmp 12]) none [0],.mk (some 8) (.mv (.tmp 13)) none [1,1,0,1]]
def l108r3:List AOper :=
  [.mk (some 9) (.mv (.const (.int .i64 0))) none []]
def l108r4:List AOper :=
  [.mk (some 14) (.mv (.tmp 9)) none [],.mk (some 15) (.mv (.tmp 8)) none [],.mk (some 16) (.len (.tmp 15)) none [1],.mk (some 17) (.bin .lss (.tmp 14) (.tmp 16)) none [0,2]]
def l108r5a:List AOper :=
  [.mk (some 20) (.mv (.tmp 7)) none [],.mk (some 21) (.mv (.tmp 8)) none [],.mk (some 22) (.mv (.tmp 9)) none [],.mk (some 23) (.idxA 1 (.tmp 21) (.tmp 22)) none [1,2],.mk (some 24) (.load false 1 (.tmp 23)) none [3],.mk (some 25) (.mv (.tmp 2)) none [],.mk (some 26) (.mv (.tmp 9)) none [],.mk (some 27) (.idxA 1 (.tmp 25) (.tmp 26)) none [5,6],.mk (some 28) (.load false 1 (.tmp 27)) none [7]]
def l108r5b:List AOper :=
  [.mk (some 29) (.idxA 1 (.tmp 20) (.tmp 24)) none [0,4,0,1,2,3,4,5,6,7,8],.mk none (.store 1 (.tmp 29) (.tmp 28)) none [9,8,0,1,2,3,4,5,6,7,8]]
def l108r5:List AOper:=l108r5a ++ l108r5b
def l108r6:List AOper :=
  [.mk (some 18) (.mv (.tmp 9)) none [],.mk (some 19) (.bin .add (.tmp 18) (.const (.int .i64 1))) none [0],.mk (some 9) (.mv (.tmp 19)) none [1,0,1]]
def l108r7:List AOper :=
  [.mk (some 30) (.mv (.tmp 7)) none [],.mk (some 6) (.mv (.tmp 30)) none [0,0]]
def l108:AFn :=
  (AFn.mk 31 3 (.seq (.reg l108r0) (.seq (.reg l108r1) (.seq (.reg l108r2) (.seq (.seq (.reg l108r3) (.block 0 (.loop (.seq (.seq (.reg l108r4) (.cond (.tmp 17) .skip (.exit 0))) (.seq (.block 1 (.draw l108r5)) (.reg l108r6)))))) (.seq (.reg l108r7) .ret))))) [.tmp 6])
theorem l108_eq:lowFn Tryz.prog 108=some l108:=by kernel_rfl
def l109r0:List AOper :=
  [.mk (some 2) (.alloc [.slice none 0 0,.slice none 0 0]) none []]
def l109r1:List AOper :=
  [.mk (some 5) (.mv (.tmp 0)) none [],.mk (some 6) (.bslice 1 [.int .i64 0] [(0,.const (.int .i64 12)),(1,.const (.int .i64 20)),(2,.const (.int .i64 16)),(3,.const (.int .i64 8)),(4,.const (.int .i64 0))] 5) none [],.mk (some 7) (.call 57 [.tmp 5,.tmp 6]) none [0,1],.mk (some 8) (.call 134 [.tmp 7]) none [2,2],.mk (some 3) (.alloc [.slice none 0 0,.slice none 0 0]) none [],.mk none (.store 2 (.tmp 3) (.tmp 8)) none [4,3,3,0,1,2,3,4]]
def l109r2:List AOper :=
  [.mk (some 9) (.mv (.tmp 0)) none [],.mk (some 10) (.bslice 1 [.int .i64 0] [(0,.const (.int .i64 5)),(1,.const (.int .i64 4)),(2,.const (.int .i64 6)),(3,.const (.int .i64 3)),(4,.const (.int .i64 8)),(5,.const (.int .i64 0))] 6) none [],.mk (some 11) (.call 57 [.tmp 9,.tmp 10]) none [0,1],.mk (some 4) (.mv (.tmp 11)) none [2,2,0,1,2]]
def l109r3:List AOper :=
  [.mk (some 12) (.mv (.tmp 4)) none [],.mk (some 13) (.bin .gtr (.tmp 12) (.const (.int .i64 0))) none [0]]
def l109r4a:List AOper :=
  [.mk (some 17) (.load true 2 (.tmp 3)) none [],.mk (some 18) (.mv (.tmp 0)) none [],.mk (some 19) (.load true 2 (.tmp 3)) none [],.mk (some 20) (.call 136 [.tmp 18,.tmp 19]) none [1,2],.mk (some 21) (.call 135 [.tmp 17,.tmp 20]) none [0,3,3],.mk (some 16) (.mv (.tmp 21)) none [4],.mk (some 22) (.extract (.tmp 16) 0) none [5],.mk (some 23) (.extract (.tmp 16) 1) none [5],.mk none (.store 2 (.tmp 3) (.tmp 22)) none [6,4,0,1,2,3,4,5,6]]
def l109r4b:List AOper :=
  []
def l109r4:List AOper:=l109r4a ++ l109r4b
def l109r5:List AOper :=
  [.mk (some 14) (.mv (.tmp 4)) none [],.mk (some 15) (.bin .sub (.tmp 14) (.const (.int .i64 1))) none [0],.mk (some 4) (.mv (.tmp 15)) none [1,0,1]]
def l109r6:List AOper :=
  [.mk (some 24) (.load true 2 (.tmp 3)) none [],.mk none (.store 2 (.tmp 2) (.tmp 24)) none [0,0]]
def l109:AFn :=
  (AFn.mk 25 1 (.seq (.reg l109r0) (.seq (.reg l109r1) (.seq (.seq (.reg l109r2) (.block 0 (.loop (.seq (.seq (.reg l109r3) (.cond (.tmp 13) .skip (.exit 0))) (.seq (.block 1 (.draw l109r4)) (.reg l109r5)))))) (.seq (.reg l109r6) .ret)))) [.cell 2 true 2])
theorem l109_eq:lowFn Tryz.prog 109=some l109:=by kernel_rfl
def l111r0:List AOper :=
  [.mk (some 2) (.mv (.const (.bool false))) none []]
def l111r1:List AOper :=
  [.mk (some 3) (.mv (.tmp 0)) none [],.mk (some 4) (.len (.tmp 3)) none [0],.mk (some 5) (.bin .leq (.tmp 4) (.const (.int .i64 4))) none [1],.mk (some 6) (.mv (.tmp 5)) none [2],.mk (some 7) (.mv (.tmp 0)) (some (6,true)) [3],.mk (some 8) (.call 112 [.tmp 7,.const (.int .i64 0),.const (.int .i64 60)]) (some (6,true)) [4,3,3],.mk (some 9) (.pick (.tmp 6) (.tmp 8) (.const (.bool false))) none [3,5],.mk (some 10) (.mv (.tmp 9)) none [6,5],.mk (some 11) (.mv (.tmp 0)) (some (10,true)) [7],.mk (some 12) (.call 113 [.tmp 11]) (some (10,true)) [8,7,7],.mk (some 13) (.bin .leq (.tmp 12) (.const (.int .i64 60))) (some (10,true)) [9,7],.mk (some 14) (.pick (.tmp 10) (.tmp 13) (.const (.bool false))) none [7,10],.mk (some 2) (.mv (.tmp 14)) none [11,9,0,1,2,3,4,5,6,7,8,9,10,11]]
def l111:AFn :=
  (AFn.mk 15 1 (.seq (.reg l111r0) (.seq (.reg l111r1) .ret)) [.tmp 2])
theorem l111_eq:lowFn Tryz.prog 111=some l111:=by kernel_rfl
def l112r0:List AOper :=
  [.mk (some 6) (.mv (.const (.bool false))) none []]
def l112r1:List AOper :=
  [.mk (some 7) (.mv (.const (.int .i64 0))) none []]
def l112r2:List AOper :=
  [.mk (some 8) (.mv (.tmp 7)) none [],.mk (some 9) (.mv (.tmp 0)) none [],.mk (some 10) (.len (.tmp 9)) none [1],.mk (some 11) (.bin .lss (.tmp 8) (.tmp 10)) none [0,2]]
def l112r3:List AOper :=
  [.mk (some 14) (.mv (.tmp 0)) none [],.mk (some 15) (.mv (.tmp 7)) none [],.mk (some 16) (.idxA 1 (.tmp 14) (.tmp 15)) none [0,1],.mk (some 17) (.load false 1 (.tmp 16)) none [2],.mk (some 18) (.mv (.tmp 1)) none [],.mk (some 19) (.mv (.tmp 2)) none [],.mk (some 20) (.call 60 [.tmp 17,.tmp 18,.tmp 19]) none [3,4,5],.mk (some 21) (.un .not (.tmp 20)) none [6]]
def l112r4:List AOper :=
  [.mk (some 6) (.mv (.const (.bool false))) none []]
def l112r5:List AOper :=
  [.mk (some 12) (.mv (.tmp 7)) none [],.mk (some 13) (.bin .add (.tmp 12) (.const (.int .i64 1))) none [0],.mk (some 7) (.mv (.tmp 13)) none [1,0,1]]
def l112r6:List AOper :=
  [.mk (some 6) (.mv (.const (.bool true))) none []]
def l112:AFn :=
  (AFn.mk 22 3 (.seq (.reg l112r0) (.seq (.seq (.reg l112r1) (.block 0 (.loop (.seq (.seq (.reg l112r2) (.cond (.tmp 11) .skip (.exit 0))) (.seq (.block 1 (.seq (.reg l112r3) (.cond (.tmp 21) (.seq (.reg l112r4) .ret) .skip))) (.reg l112r5)))))) (.seq (.reg l112r6) .ret))) [.tmp 6])
theorem l112_eq:lowFn Tryz.prog 112=some l112:=by kernel_rfl
def l113r0:List AOper :=
  [.mk (some 2) (.mv (.const (.int .i64 0))) none []]
def l113r1:List AOper :=
  [.mk (some 3) (.mv (.const (.int .i64 1))) none []]
def l113r2:List AOper :=
  [.mk (some 4) (.mv (.const (.int .i64 0))) none []]
def l113r3:List AOper :=
  [.mk (some 5) (.mv (.tmp 4)) none [],.mk (some 6) (.mv (.tmp 0)) none [],.mk (some 7) (.len (.tmp 6)) none [1],.mk (some 8) (.bin .lss (.tmp 5) (.tmp 7)) none [0,2]]
def l113r4:List AOper :=
  [.mk (some 11) (.mv (.tmp 3)) none [],.mk (some 12) (.mv (.tmp 0)) none [],.mk (some 13) (.mv (.tmp 4)) none [],.mk (some 14) (.idxA 1 (.tmp 12) (.tmp 13)) none [1,2],.mk (some 15) (.load false 1 (.tmp 14)) none [3],.mk (some 16) (.bin .mul (.tmp 11) (.tmp 15)) none [0,4],.mk (some 3) (.mv (.tmp 16)) none [5,0,1,2,3,4,5]]
def l113r5:List AOper :=
  [.mk (some 9) (.mv (.tmp 4)) none [],.mk (some 10) (.bin .add (.tmp 9) (.const (.int .i64 1))) none [0],.mk (some 4) (.mv (.tmp 10)) none [1,0,1]]
def l113r6:List AOper :=
  [.mk (some 17) (.mv (.tmp 3)) none [],.mk (some 2) (.mv (.tmp 17)) none [0,0]]
def l113:AFn :=
  (AFn.mk 18 1 (.seq (.reg l113r0) (.seq (.reg l113r1) (.seq (.seq (.reg l113r2) (.block 0 (.loop (.seq (.seq (.reg l113r3) (.cond (.tmp 8) .skip (.exit 0))) (.seq (.block 1 (.reg l113r4)) (.reg l113r5)))))) (.seq (.reg l113r6) .ret)))) [.tmp 2])
theorem l113_eq:lowFn Tryz.prog 113=some l113:=by kernel_rfl
def l121r0:List AOper :=
  [.mk (some 2) (.box (.tmp 0)) none [],.mk (some 4) (.mv (.const (.bool false))) none []]
def l121r1:List AOper :=
  [.mk (some 5) (.mv (.tmp 1)) none [],.mk (some 6) (.fld 1 (.tmp 2)) none [],.mk (some 7) (.load false 1 (.tmp 6)) none [1],.mk (some 8) (.len (.tmp 7)) none [2],.mk (some 9) (.bin .sub (.tmp 8) (.const (.int .i64 1))) none [3],.mk (some 10) (.call 60 [.tmp 5,.const (.int .i64 0),.tmp 9]) none [0,4],.mk (some 4) (.mv (.tmp 10)) none [5,5,0,1,2,3,4,5]]
def l121:AFn :=
  (AFn.mk 11 2 (.seq (.reg l121r0) (.seq (.reg l121r1) .ret)) [.tmp 4])
theorem l121_eq:lowFn Tryz.prog 121=some l121:=by kernel_rfl
def l122r0:List AOper :=
  [.mk (some 1) (.box (.tmp 0)) none [],.mk (some 2) (.mv (.const (.bool false))) none []]
def l122r1:List AOper :=
  [.mk (some 3) (.fld 0 (.tmp 1)) none [],.mk (some 4) (.load false 1 (.tmp 3)) none [0],.mk (some 5) (.call 60 [.tmp 4,.const (.int .i64 (-100)),.const (.int .i64 100)]) none [1],.mk (some 6) (.mv (.tmp 5)) none [2,2],.mk (some 7) (.fld 1 (.tmp 1)) (some (6,true)) [3],.mk (some 8) (.load false 1 (.tmp 7)) (some (6,true)) [4,3],.mk (some 9) (.call 60 [.tmp 8,.const (.int .i64 (-100)),.const (.int .i64 100)]) (some (6,true)) [5,3,3],.mk (some 10) (.pick (.tmp 6) (.tmp 9) (.const (.bool false))) none [3,6],.mk (some 11) (.mv (.tmp 10)) none [7,6],.mk (some 12) (.fld 2 (.tmp 1)) (some (11,true)) [8],.mk (some 13) (.load false 1 (.tmp 12)) (some (11,true)) [9,8],.mk (some 14) (.call 60 [.tmp 13,.const (.int .i64 (-200)),.const (.int .i64 200)]) (some (11,true)) [10,8,8],.mk (some 15) (.pick (.tmp 11) (.tmp 14) (.const (.bool false))) none [8,11],.mk (some 16) (.mv (.tmp 15)) none [12,11],.mk (some 17) (.fld 2 (.tmp 1)) (some (16,true)) [13],.mk (some 18) (.load false 1 (.tmp 17)) (some (16,true)) [14,13],.mk (some 19) (.bin .neq (.tmp 18) (.const (.int .i64 0))) (some (16,true)) [15,13],.mk (some 20) (.pick (.tmp 16) (.tmp 19) (.const (.bool false))) none [13,16],.mk (some 21) (.mv (.tmp 20)) none [17,13],.mk (some 22) (.fld 3 (.tmp 1)) (some (21,true)) [18],.mk (some 23) (.load false 1 (.tmp 22)) (some (21,true)) [19,18],.mk (some 24) (.mv (.tmp 23)) (some (21,true)) [20,18,18],.mk (some 25) (.fld 0 (.tmp 1)) (some (24,false)) [21],.mk (some 26) (.load false 1 (.tmp 25)) (some (24,false)) [22,21],.mk (some 27) (.bin .eql (.tmp 26) (.const (.int .i64 0))) (some (24,false)) [23,21],.mk (some 28) (.pick (.tmp 24) (.const (.bool true)) (.tmp 27)) (some (21,true)) [21,24,18],.mk (some 29) (.pick (.tmp 21) (.tmp 28) (.const (.bool false))) none [18,25],.mk (some 30) (.mv (.tmp 29)) none [26,21],.mk (some 31) (.fld 4 (.tmp 1)) (some (30,true)) [27],.mk (some 32) (.load false 1 (.tmp 31)) (some (30,true)) [28,27],.mk (some 33) (.mv (.tmp 32)) (some (30,true)) [29,27,27],.mk (some 34) (.fld 1 (.tmp 1)) (some (33,false)) [30],.mk (some 35) (.load false 1 (.tmp 34)) (some (33,false)) [31,30],.mk (some 36) (.bin .eql (.tmp 35) (.const (.int .i64 0))) (some (33,false)) [32,30],.mk (some 37) (.pick (.tmp 33) (.const (.bool true)) (.tmp 36)) (some (30,true)) [30,33,27],.mk (some 38) (.pick (.tmp 30) (.tmp 37) (.const (.bool false))) none [27,34],.mk (some 2) (.mv (.tmp 38)) none [35,30,0,1,2,3,4,5,6,7,8,9,10,11,12,13,14,15,16,17,18,19,20,21,22,23,24,25,26,27,28,29,30,31,32,33,34,35]]
def l122:AFn :=
  (AFn.mk 39 1 (.seq (.reg l122r0) (.seq (.reg l122r1) .ret)) [.tmp 2])
theorem l122_eq:lowFn Tryz.prog 122=some l122:=by kernel_rfl
def l123r0:List AOper :=
  [.mk (some 1) (.box (.tmp 0)) none [],.mk (some 2) (.alloc [.int .i64 0,.slice none 0 0,.slice none 0 0]) none [],.mk (some 3) (.mv (.const (.bool false))) none []]
def l123r1:List AOper :=
  [.mk (some 4) (.load true 3 (.tmp 1)) none [],.mk (some 5) (.call 72 [.tmp 4]) none [0],.mk (some 6) (.un .not (.tmp 5)) none [1]]
def l123r2:List AOper :=
  [.mk (some 7) (.build [.int .i64 0,.slice none 0 0,.slice none 0 0] []) none [],.mk none (.store 3 (.tmp 2) (.tmp 7)) none [0,0],.mk (some 3) (.mv (.const (.bool false))) none [1,0,1]]
def l123r3:List AOper :=
  [.mk (some 8) (.load true 3 (.tmp 1)) none [],.mk (some 9) (.call 89 [.tmp 8]) none [0],.mk none (.store 3 (.tmp 2) (.tmp 9)) none [1,1,0,1],.mk (some 3) (.mv (.const (.bool true))) none [2,0,1,2]]
def l123:AFn :=
  (AFn.mk 10 1 (.seq (.reg l123r0) (.seq (.seq (.reg l123r1) (.cond (.tmp 6) (.seq (.reg l123r2) .ret) .skip)) (.seq (.reg l123r3) .ret))) [.cell 2 true 3,.tmp 3])
theorem l123_eq:lowFn Tryz.prog 123=some l123:=by kernel_rfl
def l124r0:List AOper :=
  [.mk (some 3) (.box (.tmp 0)) none [],.mk (some 5) (.box (.tmp 2)) none [],.mk (some 6) (.alloc [.int .i64 0,.slice none 0 0,.slice none 0 0]) none []]
def l124r1:List AOper :=
  [.mk (some 10) (.load true 3 (.tmp 3)) none [],.mk (some 11) (.call 89 [.tmp 10]) none [0],.mk (some 7) (.alloc [.int .i64 0,.slice none 0 0,.slice none 0 0]) none [],.mk none (.store 3 (.tmp 7) (.tmp 11)) none [2,1,1,0,1,2]]
def l124r2a:List AOper :=
  [.mk (some 12) (.fld 1 (.tmp 3)) none [],.mk (some 13) (.load false 1 (.tmp 12)) none [0],.mk (some 14) (.mv (.tmp 1)) none [],.mk (some 15) (.idxA 1 (.tmp 13) (.tmp 14)) none [1,2],.mk (some 16) (.load false 1 (.tmp 15)) none [3],.mk (some 17) (.load true 5 (.tmp 5)) none [],.mk (some 18) (.call 150 [.tmp 16,.tmp 17]) none [4,5],.mk (some 19) (.call 149 [.tmp 18]) none [6,6],.mk (some 8) (.alloc [.int .i64 0,.int .i64 0,.int .i64 0]) none []]
def l124r2b:List AOper :=
  [.mk none (.store 3 (.tmp 8) (.tmp 19)) none [8,7,7,0,1,2,3,4,5,6,7,8]]
def l124r2:List AOper:=l124r2a ++ l124r2b
def l124r3:List AOper :=
  [.mk (some 20) (.load true 3 (.tmp 8)) none [],.mk (some 21) (.call 151 [.tmp 20]) none [0],.mk (some 9) (.mv (.tmp 21)) none [1,1,0,1]]
def l124r4:List AOper :=
  [.mk (some 22) (.fld 1 (.tmp 7)) none [],.mk (some 23) (.load false 1 (.tmp 22)) none [0],.mk (some 24) (.mv (.tmp 1)) none [],.mk (some 25) (.mv (.tmp 9)) none [],.mk (some 26) (.len (.tmp 25)) none [3],.mk (some 27) (.idxA 1 (.tmp 23) (.tmp 24)) none [1,2,0,1,2,3,4],.mk none (.store 1 (.tmp 27) (.tmp 26)) none [5,4,0,1,2,3,4]]
def l124r5a:List AOper :=
  [.mk (some 28) (.fld 0 (.tmp 3)) none [],.mk (some 29) (.load false 1 (.tmp 28)) none [0],.mk (some 30) (.fld 0 (.tmp 8)) none [],.mk (some 31) (.load false 1 (.tmp 30)) none [2],.mk (some 32) (.fld 2 (.tmp 3)) none [],.mk (some 33) (.load false 1 (.tmp 32)) none [4],.mk (some 34) (.mv (.tmp 1)) none [],.mk (some 35) (.idxA 1 (.tmp 33) (.tmp 34)) none [5,6],.mk (some 36) (.load false 1 (.tmp 35)) none [7],.mk (some 37) (.bin .mul (.tmp 31) (.tmp 36)) none [3,8]]
def l124r5b:List AOper :=
  [.mk (some 38) (.bin .add (.tmp 29) (.tmp 37)) none [1,9],.mk (some 39) (.fld 0 (.tmp 7)) none [0,1,2,3,4,5,6,7,8,9,10],.mk none (.store 1 (.tmp 39) (.tmp 38)) none [11,10,0,1,2,3,4,5,6,7,8,9,10]]
def l124r5:List AOper:=l124r5a ++ l124r5b
def l124r6a:List AOper :=
  [.mk (some 40) (.fld 2 (.tmp 7)) none [],.mk (some 41) (.load false 1 (.tmp 40)) none [0],.mk (some 42) (.mv (.tmp 1)) none [],.mk (some 43) (.fld 2 (.tmp 8)) none [],.mk (some 44) (.load false 1 (.tmp 43)) none [3],.mk (some 45) (.fld 2 (.tmp 3)) none [],.mk (some 46) (.load false 1 (.tmp 45)) none [5],.mk (some 47) (.mv (.tmp 1)) none [],.mk (some 48) (.idxA 1 (.tmp 46) (.tmp 47)) none [6,7],.mk (some 49) (.load false 1 (.tmp 48)) none [8],.mk (some 50) (.bin .mul (.tmp 44) (.tmp 49)) none [4,9]]
def l124r6b:List AOper :=
  [.mk (some 51) (.idxA 1 (.tmp 41) (.tmp 42)) none [1,2,0,1,2,3,4,5,6,7,8,9,10],.mk none (.store 1 (.tmp 51) (.tmp 50)) none [11,10,0,1,2,3,4,5,6,7,8,9,10]]
def l124r6:List AOper:=l124r6a ++ l124r6b
def l124r7:List AOper :=
  [.mk (some 52) (.mv (.tmp 9)) none [],.mk (some 53) (.len (.tmp 52)) none [0],.mk (some 54) (.bin .leq (.tmp 53) (.const (.int .i64 1))) none [1]]
def l124r8:List AOper :=
  [.mk (some 55) (.fld 2 (.tmp 7)) none [],.mk (some 56) (.load false 1 (.tmp 55)) none [0],.mk (some 57) (.mv (.tmp 1)) none [],.mk (some 58) (.idxA 1 (.tmp 56) (.tmp 57)) none [1,2,0,1,2],.mk none (.store 1 (.tmp 58) (.const (.int .i64 0))) none [3,0,1,2]]
def l124r9:List AOper :=
  [.mk (some 59) (.load true 3 (.tmp 7)) none [],.mk (some 60) (.call 152 [.tmp 59]) none [0],.mk none (.store 3 (.tmp 6) (.tmp 60)) none [1,1,0,1]]
def l124:AFn :=
  (AFn.mk 61 3 (.seq (.reg l124r0) (.seq (.reg l124r1) (.seq (.draw l124r2) (.seq (.reg l124r3) (.seq (.reg l124r4) (.seq (.draw l124r5) (.seq (.draw l124r6) (.seq (.seq (.reg l124r7) (.cond (.tmp 54) (.reg l124r8) .skip)) (.seq (.reg l124r9) .ret))))))))) [.cell 6 true 3])
theorem l124_eq:lowFn Tryz.prog 124=some l124:=by kernel_rfl
def l126r0:List AOper :=
  [.mk (some 2) (.box (.tmp 0)) none [],.mk (some 4) (.mv (.const (.int .i64 0))) none []]
def l126r1:List AOper :=
  [.mk (some 7) (.fld 0 (.tmp 2)) none [],.mk (some 8) (.load false 1 (.tmp 7)) none [0],.mk (some 5) (.mv (.tmp 8)) none [1,0,1]]
def l126r2:List AOper :=
  [.mk (some 6) (.mv (.const (.int .i64 0))) none []]
def l126r3:List AOper :=
  [.mk (some 9) (.mv (.tmp 6)) none [],.mk (some 10) (.mv (.tmp 1)) none [],.mk (some 11) (.len (.tmp 10)) none [1],.mk (some 12) (.bin .lss (.tmp 9) (.tmp 11)) none [0,2]]
def l126r4a:List AOper :=
  [.mk (some 15) (.mv (.tmp 5)) none [],.mk (some 16) (.mv (.tmp 1)) none [],.mk (some 17) (.mv (.tmp 6)) none [],.mk (some 18) (.idxA 1 (.tmp 16) (.tmp 17)) none [1,2],.mk (some 19) (.load false 1 (.tmp 18)) none [3],.mk (some 20) (.fld 2 (.tmp 2)) none [],.mk (some 21) (.load false 1 (.tmp 20)) none [5],.mk (some 22) (.mv (.tmp 6)) none [],.mk (some 23) (.idxA 1 (.tmp 21) (.tmp 22)) none [6,7],.mk (some 24) (.load false 1 (.tmp 23)) none [8],.mk (some 25) (.bin .mul (.tmp 19) (.tmp 24)) none [4,9]]
def l126r4b:List AOper :=
  [.mk (some 26) (.bin .add (.tmp 15) (.tmp 25)) none [0,10],.mk (some 5) (.mv (.tmp 26)) none [11,0,1,2,3,4,5,6,7,8,9,10,11]]
def l126r4:List AOper:=l126r4a ++ l126r4b
def l126r5:List AOper :=
  [.mk (some 13) (.mv (.tmp 6)) none [],.mk (some 14) (.bin .add (.tmp 13) (.const (.int .i64 1))) none [0],.mk (some 6) (.mv (.tmp 14)) none [1,0,1]]
def l126r6:List AOper :=
  [.mk (some 27) (.mv (.tmp 5)) none [],.mk (some 4) (.mv (.tmp 27)) none [0,0]]
def l126:AFn :=
  (AFn.mk 28 2 (.seq (.reg l126r0) (.seq (.reg l126r1) (.seq (.seq (.reg l126r2) (.block 0 (.loop (.seq (.seq (.reg l126r3) (.cond (.tmp 12) .skip (.exit 0))) (.seq (.block 1 (.draw l126r4)) (.reg l126r5)))))) (.seq (.reg l126r6) .ret)))) [.tmp 4])
theorem l126_eq:lowFn Tryz.prog 126=some l126:=by kernel_rfl
def l127r0:List AOper :=
  [.mk (some 4) (.mv (.const (.slice none 0 0))) none []]
def l127r1:List AOper :=
  [.mk (some 7) (.mv (.tmp 0)) none [],.mk (some 8) (.len (.tmp 7)) none [0],.mk (some 9) (.mkslice 1 [.int .i64 0] (.tmp 8) (.tmp 8)) none [1,1],.mk (some 5) (.mv (.tmp 9)) none [2,0,1,2]]
def l127r2:List AOper :=
  [.mk (some 10) (.mv (.tmp 0)) none [],.mk (some 11) (.len (.tmp 10)) none [0],.mk (some 12) (.bin .sub (.tmp 11) (.const (.int .i64 1))) none [1],.mk (some 6) (.mv (.tmp 12)) none [2,0,1,2]]
def l127r3:List AOper :=
  [.mk (some 13) (.mv (.tmp 6)) none [],.mk (some 14) (.bin .geq (.tmp 13) (.const (.int .i64 0))) none [0]]
def l127r4:List AOper :=
  [.mk (some 17) (.mv (.tmp 5)) none [],.mk (some 18) (.mv (.tmp 6)) none [],.mk (some 19) (.mv (.tmp 1)) none [],.mk (some 20) (.mv (.tmp 0)) none [],.mk (some 21) (.mv (.tmp 6)) none [],.mk (some 22) (.idxA 1 (.tmp 20) (.tmp 21)) none [3,4],.mk (some 23) (.load false 1 (.tmp 22)) none [5],.mk (some 24) (.bin .rem (.tmp 19) (.tmp 23)) none [2,6],.mk (some 25) (.idxA 1 (.tmp 17) (.tmp 18)) none [0,1,0,1,2,3,4,5,6,7],.mk none (.store 1 (.tmp 25) (.tmp 24)) none [8,7,0,1,2,3,4,5,6,7]]
def l127r5:List AOper :=
  [.mk (some 26) (.mv (.tmp 1)) none [],.mk (some 27) (.mv (.tmp 0)) none [],.mk (some 28) (.mv (.tmp 6)) none [],.mk (some 29) (.idxA 1 (.tmp 27) (.tmp 28)) none [1,2],.mk (some 30) (.load false 1 (.tmp 29)) none [3],.mk (some 31) (.bin .quo (.tmp 26) (.tmp 30)) none [0,4],.mk (some 1) (.mv (.tmp 31)) none [5,0,1,2,3,4,5]]
def l127r6:List AOper :=
  [.mk (some 15) (.mv (.tmp 6)) none [],.mk (some 16) (.bin .sub (.tmp 15) (.const (.int .i64 1))) none [0],.mk (some 6) (.mv (.tmp 16)) none [1,0,1]]
def l127r7:List AOper :=
  [.mk (some 32) (.mv (.tmp 5)) none [],.mk (some 4) (.mv (.tmp 32)) none [0,0]]
def l127:AFn :=
  (AFn.mk 33 2 (.seq (.reg l127r0) (.seq (.reg l127r1) (.seq (.seq (.reg l127r2) (.block 0 (.loop (.seq (.seq (.reg l127r3) (.cond (.tmp 14) .skip (.exit 0))) (.seq (.block 1 (.seq (.reg l127r4) (.reg l127r5))) (.reg l127r6)))))) (.seq (.reg l127r7) .ret)))) [.tmp 4])
theorem l127_eq:lowFn Tryz.prog 127=some l127:=by kernel_rfl
def l129r0:List AOper :=
  [.mk (some 2) (.mv (.const (.int .i64 0))) none []]
def l129r1:List AOper :=
  [.mk (some 3) (.mv (.const (.int .i64 1))) none []]
def l129r2:List AOper :=
  [.mk (some 6) (.mv (.tmp 0)) none [],.mk (some 7) (.len (.tmp 6)) none [0],.mk (some 8) (.mv (.const (.int .i64 0))) none []]
def l129r3:List AOper :=
  [.mk (some 9) (.bin .lss (.tmp 8) (.tmp 7)) none []]
def l129r4:List AOper :=
  [.mk (some 10) (.idxA 1 (.tmp 6) (.tmp 8)) none [],.mk (some 11) (.load false 1 (.tmp 10)) none [0],.mk (some 5) (.mv (.tmp 11)) none [1,0,1]]
def l129r5:List AOper :=
  [.mk (some 12) (.mv (.tmp 3)) none [],.mk (some 13) (.mv (.tmp 5)) none [],.mk (some 14) (.bin .mul (.tmp 12) (.tmp 13)) none [0,1],.mk (some 3) (.mv (.tmp 14)) none [2,0,1,2]]
def l129r6:List AOper :=
  [.mk (some 15) (.bin .add (.tmp 8) (.const (.int .i64 1))) none [],.mk (some 8) (.mv (.tmp 15)) none [0]]
def l129r7:List AOper :=
  [.mk (some 16) (.mv (.tmp 3)) none [],.mk (some 2) (.mv (.tmp 16)) none [0,0]]
def l129:AFn :=
  (AFn.mk 17 1 (.seq (.reg l129r0) (.seq (.reg l129r1) (.seq (.seq (.reg l129r2) (.block 0 (.loop (.seq (.reg l129r3) (.seq (.cond (.tmp 9) .skip (.exit 0)) (.seq (.block 1 (.seq (.reg l129r4) (.reg l129r5))) (.reg l129r6))))))) (.seq (.reg l129r7) .ret)))) [.tmp 2])
theorem l129_eq:lowFn Tryz.prog 129=some l129:=by kernel_rfl
def l130r0:List AOper :=
  [.mk (some 4) (.mv (.const (.bool false))) none []]
def l130r1:List AOper :=
  [.mk (some 5) (.mv (.tmp 1)) none [],.mk (some 6) (.un .neg (.tmp 5)) none [0],.mk (some 7) (.mv (.tmp 0)) none [],.mk (some 8) (.bin .leq (.tmp 6) (.tmp 7)) none [1,2],.mk (some 9) (.mv (.tmp 8)) none [3],.mk (some 10) (.mv (.tmp 0)) (some (9,true)) [4],.mk (some 11) (.mv (.tmp 1)) (some (9,true)) [4],.mk (some 12) (.bin .leq (.tmp 10) (.tmp 11)) (some (9,true)) [5,6,4],.mk (some 13) (.pick (.tmp 9) (.tmp 12) (.const (.bool false))) none [4,7],.mk (some 4) (.mv (.tmp 13)) none [8,4,0,1,2,3,4,5,6,7,8]]
def l130:AFn :=
  (AFn.mk 14 2 (.seq (.reg l130r0) (.seq (.reg l130r1) .ret)) [.tmp 4])
theorem l130_eq:lowFn Tryz.prog 130=some l130:=by kernel_rfl
def l133r0:List AOper :=
  [.mk (some 4) (.mv (.const (.bool false))) none []]
def l133r1:List AOper :=
  [.mk (some 6) (.mv (.tmp 0)) none [],.mk (some 7) (.len (.tmp 6)) none [0],.mk (some 8) (.mv (.tmp 1)) none [],.mk (some 9) (.len (.tmp 8)) none [2],.mk (some 10) (.bin .neq (.tmp 7) (.tmp 9)) none [1,3]]
def l133r2:List AOper :=
  [.mk (some 4) (.mv (.const (.bool false))) none []]
def l133r3:List AOper :=
  [.mk (some 5) (.mv (.const (.int .i64 0))) none []]
def l133r4:List AOper :=
  [.mk (some 11) (.mv (.tmp 5)) none [],.mk (some 12) (.mv (.tmp 0)) none [],.mk (some 13) (.len (.tmp 12)) none [1],.mk (some 14) (.bin .lss (.tmp 11) (.tmp 13)) none [0,2]]
def l133r5a:List AOper :=
  [.mk (some 17) (.mv (.tmp 0)) none [],.mk (some 18) (.mv (.tmp 5)) none [],.mk (some 19) (.idxA 1 (.tmp 17) (.tmp 18)) none [0,1],.mk (some 20) (.load false 1 (.tmp 19)) none [2],.mk (some 21) (.mv (.tmp 1)) none [],.mk (some 22) (.mv (.tmp 5)) none [],.mk (some 23) (.idxA 1 (.tmp 21) (.tmp 22)) none [4,5],.mk (some 24) (.load false 1 (.tmp 23)) none [6]]
def l133r5b:List AOper :=
  [.mk (some 25) (.bin .neq (.tmp 20) (.tmp 24)) none [3,7]]
def l133r5:List AOper:=l133r5a ++ l133r5b
def l133r6:List AOper :=
  [.mk (some 4) (.mv (.const (.bool false))) none []]
def l133r7:List AOper :=
  [.mk (some 15) (.mv (.tmp 5)) none [],.mk (some 16) (.bin .add (.tmp 15) (.const (.int .i64 1))) none [0],.mk (some 5) (.mv (.tmp 16)) none [1,0,1]]
def l133r8:List AOper :=
  [.mk (some 4) (.mv (.const (.bool true))) none []]
def l133:AFn :=
  (AFn.mk 26 2 (.seq (.reg l133r0) (.seq (.seq (.reg l133r1) (.cond (.tmp 10) (.seq (.reg l133r2) .ret) .skip)) (.seq (.seq (.reg l133r3) (.block 0 (.loop (.seq (.seq (.reg l133r4) (.cond (.tmp 14) .skip (.exit 0))) (.seq (.block 1 (.seq (.draw l133r5) (.cond (.tmp 25) (.seq (.reg l133r6) .ret) .skip))) (.reg l133r7)))))) (.seq (.reg l133r8) .ret)))) [.tmp 4])
theorem l133_eq:lowFn Tryz.prog 133=some l133:=by kernel_rfl
def l134r0:List AOper :=
  [.mk (some 2) (.alloc [.slice none 0 0,.slice none 0 0]) none []]
def l134r1:List AOper :=
  [.mk (some 3) (.mv (.tmp 0)) none [],.mk (some 4) (.call 60 [.tmp 3,.const (.int .i64 0),.const (.int .i64 60)]) none [0],.mk (some 5) (.un .not (.tmp 4)) none [1]]
def l134r2:List AOper :=
  [.mk (some 6) (.build [.slice none 0 0,.slice none 0 0] []) none [],.mk none (.store 2 (.tmp 2) (.tmp 6)) none [0,0]]
def l134r3:List AOper :=
  [.mk (some 7) (.mv (.tmp 0)) none [],.mk (some 8) (.mkslice 1 [.int .i64 0] (.tmp 7) (.tmp 7)) none [0,0],.mk (some 9) (.build [.slice none 0 0,.slice none 0 0] [(0,1,.tmp 8)]) none [1],.mk none (.store 2 (.tmp 2) (.tmp 9)) none [2,0,1,2]]
def l134:AFn :=
  (AFn.mk 10 1 (.seq (.reg l134r0) (.seq (.seq (.reg l134r1) (.cond (.tmp 5) (.seq (.reg l134r2) .ret) .skip)) (.seq (.reg l134r3) .ret))) [.cell 2 true 2])
theorem l134_eq:lowFn Tryz.prog 134=some l134:=by kernel_rfl
def l135r0:List AOper :=
  [.mk (some 2) (.box (.tmp 0)) none [],.mk (some 3) (.box (.tmp 1)) none [],.mk (some 4) (.alloc [.slice none 0 0,.slice none 0 0]) none [],.mk (some 5) (.mv (.const (.string (ByteArray.mk (Array.mk []))))) none []]
def l135r1:List AOper :=
  [.mk (some 9) (.load true 2 (.tmp 2)) none [],.mk (some 10) (.load true 2 (.tmp 3)) none [],.mk (some 11) (.call 157 [.tmp 9,.tmp 10]) none [0,1],.mk (some 8) (.mv (.tmp 11)) none [2],.mk (some 12) (.extract (.tmp 8) 0) none [3],.mk (some 13) (.extract (.tmp 8) 1) none [3],.mk (some 6) (.alloc [.slice none 0 0,.slice none 0 0]) none [],.mk none (.store 2 (.tmp 6) (.tmp 12)) none [6,4,2,0,1,2,3,4,6],.mk (some 7) (.mv (.tmp 13)) none [5,7,0,1,2,3,4,5,6,7]]
def l135r2:List AOper :=
  [.mk (some 15) (.mv (.tmp 7)) none [],.mk (some 16) (.un .not (.tmp 15)) none [0],.mk (some 14) (.mv (.tmp 16)) none [1]]
def l135r3:List AOper :=
  [.mk (some 17) (.load true 2 (.tmp 2)) none [],.mk none (.store 2 (.tmp 4) (.tmp 17)) none [0,0],.mk (some 5) (.mv (.const (.string (ByteArray.mk (Array.mk [(110:UInt8),(111:UInt8)]))))) none [1,0,1]]
def l135r4:List AOper :=
  [.mk (some 19) (.fld 0 (.tmp 3)) none [],.mk (some 20) (.load false 1 (.tmp 19)) none [0],.mk (some 21) (.bin .eql (.tmp 20) (.const (.int .i64 6))) none [1],.mk (some 18) (.mv (.tmp 21)) none [2]]
def l135r5a:List AOper :=
  [.mk (some 22) (.load true 2 (.tmp 2)) none [],.mk (some 23) (.fld 0 (.tmp 2)) none [],.mk (some 24) (.load false 1 (.tmp 23)) none [1],.mk (some 25) (.fld 1 (.tmp 2)) none [],.mk (some 26) (.load false 1 (.tmp 25)) none [3],.mk (some 27) (.fld 1 (.tmp 3)) none [],.mk (some 28) (.load false 1 (.tmp 27)) none [5],.mk (some 29) (.idxA 1 (.tmp 28) (.const (.int .i64 0))) none [6],.mk (some 30) (.load false 1 (.tmp 29)) none [7],.mk (some 31) (.idxA 5 (.tmp 26) (.tmp 30)) none [4,8],.mk (some 32) (.fld 1 (.tmp 31)) none [9],.mk (some 33) (.load true 3 (.tmp 32)) none [10],.mk (some 34) (.call 52 [.tmp 24,.tmp 33]) none [2,11],.mk (some 35) (.call 158 [.tmp 34]) none [12,12],.mk (some 36) (.bin .add (.const (.string (ByteArray.mk (Array.mk [(104:UInt8),(97:UInt8),(115:UInt8)])))) (.tmp 35)) none [13],.mk none (.store 2 (.tmp 4) (.tmp 22)) none [0,13,0]]
def l135r5b:List AOper :=
  [.mk (some 5) (.mv (.tmp 36)) none [14,15,0,1,2,3,4,5,6,7,8,9,10,11,12,13,14,15]]
def l135r5:List AOper:=l135r5a ++ l135r5b
def l135r6:List AOper :=
  [.mk (some 38) (.fld 0 (.tmp 3)) none [],.mk (some 39) (.load false 1 (.tmp 38)) none [0],.mk (some 40) (.bin .eql (.tmp 39) (.const (.int .i64 1))) none [1],.mk (some 41) (.mv (.tmp 40)) none [2],.mk (some 42) (.fld 0 (.tmp 3)) (some (41,false)) [3],.mk (some 43) (.load false 1 (.tmp 42)) (some (41,false)) [4,3],.mk (some 44) (.bin .eql (.tmp 43) (.const (.int .i64 2))) (some (41,false)) [5,3],.mk (some 45) (.pick (.tmp 41) (.const (.bool true)) (.tmp 44)) none [3,6],.mk (some 46) (.mv (.tmp 45)) none [7,3],.mk (some 47) (.fld 0 (.tmp 3)) (some (46,false)) [8],.mk (some 48) (.load false 1 (.tmp 47)) (some (46,false)) [9,8],.mk (some 49) (.bin .eql (.tmp 48) (.const (.int .i64 3))) (some (46,false)) [10,8],.mk (some 50) (.pick (.tmp 46) (.const (.bool true)) (.tmp 49)) none [8,11],.mk (some 37) (.mv (.tmp 50)) none [12,8]]
def l135r7a:List AOper :=
  [.mk (some 51) (.load true 2 (.tmp 6)) none [],.mk (some 52) (.fld 1 (.tmp 6)) none [],.mk (some 53) (.load false 1 (.tmp 52)) none [1],.mk (some 54) (.len (.tmp 53)) none [2],.mk (some 55) (.bin .sub (.tmp 54) (.const (.int .i64 1))) none [3],.mk (some 56) (.call 159 [.tmp 55]) none [4],.mk (some 57) (.bin .add (.const (.string (ByteArray.mk (Array.mk [(97:UInt8),(116:UInt8),(32:UInt8)])))) (.tmp 56)) none [5],.mk none (.store 2 (.tmp 4) (.tmp 51)) none [0,5,0]]
def l135r7b:List AOper :=
  [.mk (some 5) (.mv (.tmp 57)) none [6,7,0,1,2,3,4,5,6,7]]
def l135r7:List AOper:=l135r7a ++ l135r7b
def l135r8:List AOper :=
  [.mk (some 58) (.load true 2 (.tmp 6)) none [],.mk none (.store 2 (.tmp 4) (.tmp 58)) none [0,0],.mk (some 5) (.mv (.const (.string (ByteArray.mk (Array.mk [(111:UInt8),(107:UInt8)]))))) none [1,0,1]]
def l135:AFn :=
  (AFn.mk 59 2 (.seq (.reg l135r0) (.seq (.reg l135r1) (.seq (.block 0 (.seq (.reg l135r2) (.cond (.tmp 14) (.seq (.reg l135r3) .ret) (.seq (.reg l135r4) (.cond (.tmp 18) (.seq (.draw l135r5) .ret) (.seq (.reg l135r6) (.cond (.tmp 37) (.seq (.draw l135r7) .ret) .skip))))))) (.seq (.reg l135r8) .ret)))) [.cell 4 true 2,.tmp 5])
theorem l135_eq:lowFn Tryz.prog 135=some l135:=by kernel_rfl
def l136r0:List AOper :=
  [.mk (some 3) (.box (.tmp 1)) none [],.mk (some 4) (.alloc [.int .i64 0,.slice none 0 0]) none []]
def l136r1:List AOper :=
  [.mk (some 8) (.mv (.tmp 0)) none [],.mk (some 9) (.fld 1 (.tmp 3)) none [],.mk (some 10) (.load false 1 (.tmp 9)) none [1],.mk (some 11) (.len (.tmp 10)) none [2],.mk (some 12) (.bin .add (.tmp 11) (.const (.int .i64 1))) none [3],.mk (some 13) (.call 65 [.tmp 8,.tmp 12]) none [0,4],.mk (some 5) (.mv (.tmp 13)) none [5,5,0,1,2,3,4,5]]
def l136r2:List AOper :=
  [.mk (some 14) (.load true 2 (.tmp 3)) none [],.mk (some 15) (.call 160 [.tmp 14]) none [0],.mk (some 6) (.mv (.tmp 15)) none [1,1,0,1]]
def l136r3:List AOper :=
  [.mk (some 16) (.mv (.tmp 6)) none [],.mk (some 17) (.len (.tmp 16)) none [0],.mk (some 18) (.bin .gtr (.tmp 17) (.const (.int .i64 0))) none [1],.mk (some 19) (.mv (.tmp 18)) none [2],.mk (some 20) (.mv (.tmp 0)) (some (19,true)) [3],.mk (some 21) (.call 65 [.tmp 20,.const (.int .i64 4)]) (some (19,true)) [4,3,3],.mk (some 22) (.bin .gtr (.tmp 21) (.const (.int .i64 0))) (some (19,true)) [5,3],.mk (some 23) (.pick (.tmp 19) (.tmp 22) (.const (.bool false))) none [3,6]]
def l136r4:List AOper :=
  [.mk (some 24) (.mv (.tmp 6)) none [],.mk (some 25) (.mv (.tmp 0)) none [],.mk (some 26) (.mv (.tmp 6)) none [],.mk (some 27) (.len (.tmp 26)) none [2],.mk (some 28) (.call 65 [.tmp 25,.tmp 27]) none [1,3],.mk (some 29) (.idxA 1 (.tmp 24) (.tmp 28)) none [0,4],.mk (some 30) (.load false 1 (.tmp 29)) none [5],.mk (some 5) (.mv (.tmp 30)) none [6,4,0,1,2,3,4,5,6]]
def l136r5:List AOper :=
  [.mk (some 31) (.mv (.tmp 0)) none [],.mk (some 32) (.bslice 1 [.int .i64 0] [(0,.const (.int .i64 1)),(1,.const (.int .i64 2)),(2,.const (.int .i64 3)),(3,.const (.int .i64 4)),(4,.const (.int .i64 5)),(5,.const (.int .i64 6)),(6,.const (.int .i64 7)),(7,.const (.int .i64 0)),(8,.const (.int .i64 6)),(9,.const (.int .i64 4))] 10) none [],.mk (some 33) (.call 57 [.tmp 31,.tmp 32]) none [0,1],.mk (some 7) (.mv (.tmp 33)) none [2,2,0,1,2]]
def l136r6:List AOper :=
  [.mk (some 34) (.mv (.tmp 7)) none []]
def l136r7:List AOper :=
  [.mk (some 40) (.bin .eql (.tmp 34) (.const (.int .i64 0))) none [],.mk (some 39) (.mv (.tmp 40)) none [0]]
def l136r8:List AOper :=
  [.mk (some 41) (.mv (.tmp 7)) none [],.mk (some 42) (.mv (.tmp 0)) none [],.mk (some 43) (.bslice 1 [.int .i64 0] [(0,.const (.int .i64 12)),(1,.const (.int .i64 20)),(2,.const (.int .i64 8)),(3,.const (.int .i64 30)),(4,.const (.int .i64 0))] 5) none [],.mk (some 44) (.call 57 [.tmp 42,.tmp 43]) none [1,2],.mk (some 45) (.bslice 1 [.int .i64 0] [(0,.tmp 44)] 1) none [3],.mk (some 46) (.build [.int .i64 0,.slice none 0 0] [(0,1,.tmp 41),(1,1,.tmp 45)]) none [0,4],.mk none (.store 2 (.tmp 4) (.tmp 46)) none [5,3,0,1,2,3,4,5]]
def l136r9:List AOper :=
  [.mk (some 48) (.bin .eql (.tmp 34) (.const (.int .i64 1))) none [],.mk (some 47) (.mv (.tmp 48)) none [0]]
def l136r10:List AOper :=
  [.mk (some 49) (.mv (.tmp 7)) none [],.mk (some 50) (.mv (.tmp 0)) none [],.mk (some 51) (.call 65 [.tmp 50,.const (.int .i64 6)]) none [1],.mk (some 52) (.mv (.tmp 0)) none [],.mk (some 53) (.bslice 1 [.int .i64 0] [(0,.const (.int .i64 4)),(1,.const (.int .i64 3)),(2,.const (.int .i64 5)),(3,.const (.int .i64 2)),(4,.const (.int .i64 0))] 5) none [],.mk (some 54) (.call 57 [.tmp 52,.tmp 53]) none [3,4,2],.mk (some 55) (.mv (.tmp 0)) none [],.mk (some 56) (.bslice 1 [.int .i64 0] [(0,.const (.int .i64 1)),(1,.const (.int .i64 2)),(2,.const (.int .i64 3)),(3,.const (.int .i64 0)),(4,.const (.int .i64 (-1)))] 5) none [],.mk (some 57) (.call 57 [.tmp 55,.tmp 56]) none [6,7,5],.mk (some 58) (.bslice 1 [.int .i64 0] [(0,.tmp 51),(1,.tmp 54),(2,.tmp 57)] 3) none [2,5,8],.mk (some 59) (.build [.int .i64 0,.slice none 0 0] [(0,1,.tmp 49),(1,1,.tmp 58)]) none [0,9],.mk none (.store 2 (.tmp 4) (.tmp 59)) none [10,8,0,1,2,3,4,5,6,7,8,9,10]]
def l136r11:List AOper :=
  [.mk (some 61) (.bin .eql (.tmp 34) (.const (.int .i64 2))) none [],.mk (some 60) (.mv (.tmp 61)) none [0]]
def l136r12:List AOper :=
  [.mk (some 62) (.mv (.tmp 7)) none [],.mk (some 63) (.mv (.tmp 5)) none [],.mk (some 64) (.mv (.tmp 0)) none [],.mk (some 65) (.call 65 [.tmp 64,.const (.int .i64 4)]) none [2],.mk (some 66) (.mv (.tmp 0)) none [],.mk (some 67) (.bslice 1 [.int .i64 0] [(0,.const (.int .i64 3)),(1,.const (.int .i64 4)),(2,.const (.int .i64 (-1))),(3,.const (.int .i64 2))] 4) none [],.mk (some 68) (.call 57 [.tmp 66,.tmp 67]) none [4,5,3],.mk (some 69) (.mv (.tmp 0)) none [],.mk (some 70) (.bslice 1 [.int .i64 0] [(0,.const (.int .i64 1)),(1,.const (.int .i64 2)),(2,.const (.int .i64 (-1))),(3,.const (.int .i64 1))] 4) none [],.mk (some 71) (.call 57 [.tmp 69,.tmp 70]) none [7,8,6],.mk (some 72) (.bslice 1 [.int .i64 0] [(0,.tmp 63),(1,.tmp 65),(2,.tmp 68),(3,.tmp 71)] 4) none [1,3,6,9],.mk (some 73) (.build [.int .i64 0,.slice none 0 0] [(0,1,.tmp 62),(1,1,.tmp 72)]) none [0,10],.mk none (.store 2 (.tmp 4) (.tmp 73)) none [11,9,0,1,2,3,4,5,6,7,8,9,10,11]]
def l136r13:List AOper :=
  [.mk (some 75) (.bin .eql (.tmp 34) (.const (.int .i64 4))) none [],.mk (some 74) (.mv (.tmp 75)) none [0]]
def l136r14:List AOper :=
  [.mk (some 76) (.mv (.tmp 7)) none [],.mk (some 77) (.mv (.tmp 5)) none [],.mk (some 78) (.mv (.tmp 0)) none [],.mk (some 79) (.call 65 [.tmp 78,.const (.int .i64 100)]) none [2],.mk (some 80) (.bslice 1 [.int .i64 0] [(0,.tmp 77),(1,.tmp 79)] 2) none [1,3],.mk (some 81) (.build [.int .i64 0,.slice none 0 0] [(0,1,.tmp 76),(1,1,.tmp 80)]) none [0,4],.mk none (.store 2 (.tmp 4) (.tmp 81)) none [5,3,0,1,2,3,4,5]]
def l136r15:List AOper :=
  [.mk (some 83) (.bin .eql (.tmp 34) (.const (.int .i64 5))) none [],.mk (some 82) (.mv (.tmp 83)) none [0]]
def l136r16:List AOper :=
  [.mk (some 84) (.mv (.tmp 7)) none [],.mk (some 85) (.mv (.tmp 5)) none [],.mk (some 86) (.mv (.tmp 0)) none [],.mk (some 87) (.fld 1 (.tmp 3)) none [],.mk (some 88) (.load false 1 (.tmp 87)) none [3],.mk (some 89) (.len (.tmp 88)) none [4],.mk (some 90) (.bin .add (.tmp 89) (.const (.int .i64 1))) none [5],.mk (some 91) (.call 65 [.tmp 86,.tmp 90]) none [2,6],.mk (some 92) (.bslice 1 [.int .i64 0] [(0,.tmp 85),(1,.tmp 91)] 2) none [1,7],.mk (some 93) (.build [.int .i64 0,.slice none 0 0] [(0,1,.tmp 84),(1,1,.tmp 92)]) none [0,8],.mk none (.store 2 (.tmp 4) (.tmp 93)) none [9,7,0,1,2,3,4,5,6,7,8,9]]
def l136r17:List AOper :=
  [.mk (some 35) (.mv (.tmp 7)) none [],.mk (some 36) (.mv (.tmp 5)) none [],.mk (some 37) (.bslice 1 [.int .i64 0] [(0,.tmp 36)] 1) none [1],.mk (some 38) (.build [.int .i64 0,.slice none 0 0] [(0,1,.tmp 35),(1,1,.tmp 37)]) none [0,2],.mk none (.store 2 (.tmp 4) (.tmp 38)) none [3,0,1,2,3]]
def l136:AFn :=
  (AFn.mk 94 2 (.seq (.reg l136r0) (.seq (.reg l136r1) (.seq (.seq (.reg l136r2) (.seq (.reg l136r3) (.cond (.tmp 23) (.reg l136r4) .skip))) (.seq (.reg l136r5) (.seq (.reg l136r6) (.block 0 (.seq (.reg l136r7) (.cond (.tmp 39) (.seq (.reg l136r8) .ret) (.seq (.reg l136r9) (.cond (.tmp 47) (.seq (.reg l136r10) .ret) (.seq (.reg l136r11) (.cond (.tmp 60) (.seq (.reg l136r12) .ret) (.seq (.reg l136r13) (.cond (.tmp 74) (.seq (.reg l136r14) .ret) (.seq (.reg l136r15) (.cond (.tmp 82) (.seq (.reg l136r16) .ret) (.seq (.reg l136r17) .ret))))))))))))))))) [.cell 4 true 2])
theorem l136_eq:lowFn Tryz.prog 136=some l136:=by kernel_rfl
def l149r0:List AOper :=
  [.mk (some 2) (.alloc [.int .i64 0,.int .i64 0,.int .i64 0]) none []]
def l149r1:List AOper :=
  [.mk (some 5) (.mv (.tmp 0)) none [],.mk (some 6) (.len (.tmp 5)) none [0]]
def l149r2:List AOper :=
  [.mk (some 8) (.bin .eql (.tmp 6) (.const (.int .i64 0))) none [],.mk (some 7) (.mv (.tmp 8)) none [0]]
def l149r3:List AOper :=
  [.mk (some 9) (.build [.int .i64 0,.int .i64 0,.int .i64 0] [(0,1,.const (.int .i64 0)),(1,1,.const (.int .i64 0)),(2,1,.const (.int .i64 1))]) none [],.mk none (.store 3 (.tmp 2) (.tmp 9)) none [0,0]]
def l149r4:List AOper :=
  [.mk (some 11) (.bin .eql (.tmp 6) (.const (.int .i64 1))) none [],.mk (some 10) (.mv (.tmp 11)) none [0]]
def l149r5a:List AOper :=
  [.mk (some 12) (.mv (.tmp 0)) none [],.mk (some 13) (.idxA 1 (.tmp 12) (.const (.int .i64 0))) none [0],.mk (some 14) (.load false 1 (.tmp 13)) none [1],.mk (some 15) (.mv (.tmp 0)) none [],.mk (some 16) (.idxA 1 (.tmp 15) (.const (.int .i64 0))) none [3],.mk (some 17) (.load false 1 (.tmp 16)) none [4],.mk (some 18) (.bin .add (.tmp 17) (.const (.int .i64 1))) none [5]]
def l149r5b:List AOper :=
  [.mk (some 19) (.build [.int .i64 0,.int .i64 0,.int .i64 0] [(0,1,.tmp 14),(1,1,.tmp 18),(2,1,.const (.int .i64 1))]) none [2,6],.mk none (.store 3 (.tmp 2) (.tmp 19)) none [7,0,1,2,3,4,5,6,7]]
def l149r5:List AOper:=l149r5a ++ l149r5b
def l149r6a:List AOper :=
  [.mk (some 20) (.mv (.tmp 0)) none [],.mk (some 21) (.idxA 1 (.tmp 20) (.const (.int .i64 1))) none [0],.mk (some 22) (.load false 1 (.tmp 21)) none [1],.mk (some 23) (.mv (.tmp 0)) none [],.mk (some 24) (.idxA 1 (.tmp 23) (.const (.int .i64 0))) none [3],.mk (some 25) (.load false 1 (.tmp 24)) none [4]]
def l149r6b:List AOper :=
  [.mk (some 26) (.bin .sub (.tmp 22) (.tmp 25)) none [2,5],.mk (some 3) (.mv (.tmp 26)) none [6,0,1,2,3,4,5,6]]
def l149r6:List AOper:=l149r6a ++ l149r6b
def l149r7:List AOper :=
  [.mk (some 27) (.mv (.tmp 0)) none [],.mk (some 28) (.mv (.tmp 0)) none [],.mk (some 29) (.len (.tmp 28)) none [1],.mk (some 30) (.bin .sub (.tmp 29) (.const (.int .i64 1))) none [2],.mk (some 31) (.idxA 1 (.tmp 27) (.tmp 30)) none [0,3],.mk (some 32) (.load false 1 (.tmp 31)) none [4],.mk (some 33) (.bin .add (.tmp 32) (.const (.int .i64 1))) none [5],.mk (some 4) (.mv (.tmp 33)) none [6,0,1,2,3,4,5,6]]
def l149r8:List AOper :=
  [.mk (some 34) (.mv (.tmp 3)) none [],.mk (some 35) (.bin .lss (.tmp 34) (.const (.int .i64 0))) none [0]]
def l149r9:List AOper :=
  [.mk (some 36) (.mv (.tmp 0)) none [],.mk (some 37) (.mv (.tmp 0)) none [],.mk (some 38) (.len (.tmp 37)) none [1],.mk (some 39) (.bin .sub (.tmp 38) (.const (.int .i64 1))) none [2],.mk (some 40) (.idxA 1 (.tmp 36) (.tmp 39)) none [0,3],.mk (some 41) (.load false 1 (.tmp 40)) none [4],.mk (some 42) (.bin .sub (.tmp 41) (.const (.int .i64 1))) none [5],.mk (some 4) (.mv (.tmp 42)) none [6,0,1,2,3,4,5,6]]
def l149r10:List AOper :=
  [.mk (some 43) (.mv (.tmp 0)) none [],.mk (some 44) (.idxA 1 (.tmp 43) (.const (.int .i64 0))) none [0],.mk (some 45) (.load false 1 (.tmp 44)) none [1],.mk (some 46) (.mv (.tmp 4)) none [],.mk (some 47) (.mv (.tmp 3)) none [],.mk (some 48) (.build [.int .i64 0,.int .i64 0,.int .i64 0] [(0,1,.tmp 45),(1,1,.tmp 46),(2,1,.tmp 47)]) none [2,3,4],.mk none (.store 3 (.tmp 2) (.tmp 48)) none [5,0,1,2,3,4,5]]
def l149:AFn :=
  (AFn.mk 49 1 (.seq (.reg l149r0) (.seq (.seq (.reg l149r1) (.block 0 (.seq (.reg l149r2) (.cond (.tmp 7) (.seq (.reg l149r3) .ret) (.seq (.reg l149r4) (.cond (.tmp 10) (.seq (.draw l149r5) .ret) .skip)))))) (.seq (.draw l149r6) (.seq (.reg l149r7) (.seq (.seq (.reg l149r8) (.cond (.tmp 35) (.reg l149r9) .skip)) (.seq (.reg l149r10) .ret)))))) [.cell 2 true 3])
theorem l149_eq:lowFn Tryz.prog 149=some l149:=by kernel_rfl
def l150r0:List AOper :=
  [.mk (some 3) (.box (.tmp 1)) none [],.mk (some 4) (.mv (.const (.slice none 0 0))) none []]
def l150r1:List AOper :=
  [.mk (some 5) (.mv (.const (.int .i64 0))) none []]
def l150r2:List AOper :=
  [.mk (some 7) (.mv (.tmp 0)) none [],.mk (some 6) (.mv (.tmp 7)) none [0,0]]
def l150r3:List AOper :=
  [.mk (some 8) (.fld 2 (.tmp 3)) none [],.mk (some 9) (.load false 1 (.tmp 8)) none [0],.mk (some 10) (.bin .lss (.tmp 9) (.const (.int .i64 0))) none [1]]
def l150r4:List AOper :=
  [.mk (some 11) (.mv (.tmp 0)) none [],.mk (some 12) (.bin .sub (.tmp 11) (.const (.int .i64 1))) none [0],.mk (some 5) (.mv (.tmp 12)) none [1,0,1]]
def l150r5:List AOper :=
  [.mk (some 6) (.mv (.const (.int .i64 (-1)))) none []]
def l150r6:List AOper :=
  [.mk (some 13) (.fld 3 (.tmp 3)) none [],.mk (some 14) (.load false 1 (.tmp 13)) none [0]]
def l150r7:List AOper :=
  [.mk (some 15) (.mv (.tmp 0)) none [],.mk (some 16) (.fld 0 (.tmp 3)) none [],.mk (some 17) (.load false 1 (.tmp 16)) none [1],.mk (some 18) (.fld 2 (.tmp 3)) none [],.mk (some 19) (.load false 1 (.tmp 18)) none [3],.mk (some 20) (.call 165 [.tmp 15,.tmp 17,.tmp 19]) none [0,2,4],.mk (some 5) (.mv (.tmp 20)) none [5,5,0,1,2,3,4,5]]
def l150r8:List AOper :=
  [.mk (some 21) (.fld 4 (.tmp 3)) none [],.mk (some 22) (.load false 1 (.tmp 21)) none [0]]
def l150r9:List AOper :=
  [.mk (some 23) (.mv (.tmp 0)) none [],.mk (some 24) (.fld 1 (.tmp 3)) none [],.mk (some 25) (.load false 1 (.tmp 24)) none [1],.mk (some 26) (.fld 2 (.tmp 3)) none [],.mk (some 27) (.load false 1 (.tmp 26)) none [3],.mk (some 28) (.call 165 [.tmp 23,.tmp 25,.tmp 27]) none [0,2,4],.mk (some 6) (.mv (.tmp 28)) none [5,5,0,1,2,3,4,5]]
def l150r10:List AOper :=
  [.mk (some 29) (.mv (.tmp 5)) none [],.mk (some 30) (.mv (.tmp 6)) none [],.mk (some 31) (.fld 2 (.tmp 3)) none [],.mk (some 32) (.load false 1 (.tmp 31)) none [2],.mk (some 33) (.build [.int .i64 0,.int .i64 0,.int .i64 0] [(0,1,.tmp 29),(1,1,.tmp 30),(2,1,.tmp 32)]) none [0,1,3],.mk (some 34) (.call 151 [.tmp 33]) none [4],.mk (some 4) (.mv (.tmp 34)) none [5,5,0,1,2,3,4,5]]
def l150:AFn :=
  (AFn.mk 35 2 (.seq (.reg l150r0) (.seq (.reg l150r1) (.seq (.reg l150r2) (.seq (.seq (.reg l150r3) (.cond (.tmp 10) (.seq (.reg l150r4) (.reg l150r5)) .skip)) (.seq (.seq (.reg l150r6) (.cond (.tmp 14) (.reg l150r7) .skip)) (.seq (.seq (.reg l150r8) (.cond (.tmp 22) (.reg l150r9) .skip)) (.seq (.reg l150r10) .ret))))))) [.tmp 4])
theorem l150_eq:lowFn Tryz.prog 150=some l150:=by kernel_rfl
def l151r0:List AOper :=
  [.mk (some 1) (.box (.tmp 0)) none [],.mk (some 2) (.mv (.const (.slice none 0 0))) none []]
def l151r1:List AOper :=
  [.mk (some 5) (.bslice 1 [.int .i64 0] [] 0) none [],.mk (some 3) (.mv (.tmp 5)) none [0,0]]
def l151r2:List AOper :=
  [.mk (some 6) (.fld 0 (.tmp 1)) none [],.mk (some 7) (.load false 1 (.tmp 6)) none [0],.mk (some 4) (.mv (.tmp 7)) none [1,0,1]]
def l151r3:List AOper :=
  [.mk (some 8) (.fld 2 (.tmp 1)) none [],.mk (some 9) (.load false 1 (.tmp 8)) none [0],.mk (some 10) (.bin .gtr (.tmp 9) (.const (.int .i64 0))) none [1],.mk (some 11) (.mv (.tmp 10)) none [2],.mk (some 12) (.mv (.tmp 4)) (some (11,true)) [3],.mk (some 13) (.fld 1 (.tmp 1)) (some (11,true)) [3],.mk (some 14) (.load false 1 (.tmp 13)) (some (11,true)) [5,3],.mk (some 15) (.bin .lss (.tmp 12) (.tmp 14)) (some (11,true)) [4,6,3],.mk (some 16) (.pick (.tmp 11) (.tmp 15) (.const (.bool false))) none [3,7],.mk (some 17) (.mv (.tmp 16)) none [8,3],.mk (some 18) (.fld 2 (.tmp 1)) (some (17,false)) [9],.mk (some 19) (.load false 1 (.tmp 18)) (some (17,false)) [10,9],.mk (some 20) (.bin .lss (.tmp 19) (.const (.int .i64 0))) (some (17,false)) [11,9],.mk (some 21) (.mv (.tmp 20)) (some (17,false)) [12,9,9],.mk (some 22) (.mv (.tmp 4)) (some (21,true)) [13],.mk (some 23) (.fld 1 (.tmp 1)) (some (21,true)) [13],.mk (some 24) (.load false 1 (.tmp 23)) (some (21,true)) [15,13],.mk (some 25) (.bin .gtr (.tmp 22) (.tmp 24)) (some (21,true)) [14,16,13],.mk (some 26) (.pick (.tmp 21) (.tmp 25) (.const (.bool false))) (some (17,false)) [13,17,9],.mk (some 27) (.pick (.tmp 17) (.const (.bool true)) (.tmp 26)) none [9,18]]
def l151r4:List AOper :=
  [.mk (some 32) (.mv (.tmp 3)) none [],.mk (some 33) (.mv (.tmp 4)) none [],.mk (some 34) (.bslice 1 [.int .i64 0] [(0,.tmp 33)] 1) none [1],.mk (some 35) (.append 1 (.tmp 32) (.tmp 34)) none [0,2],.mk (some 3) (.mv (.tmp 35)) none [3,3,0,1,2,3]]
def l151r5:List AOper :=
  [.mk (some 28) (.mv (.tmp 4)) none [],.mk (some 29) (.fld 2 (.tmp 1)) none [],.mk (some 30) (.load false 1 (.tmp 29)) none [1],.mk (some 31) (.bin .add (.tmp 28) (.tmp 30)) none [0,2],.mk (some 4) (.mv (.tmp 31)) none [3,0,1,2,3]]
def l151r6:List AOper :=
  [.mk (some 36) (.mv (.tmp 3)) none [],.mk (some 2) (.mv (.tmp 36)) none [0,0]]
def l151:AFn :=
  (AFn.mk 37 1 (.seq (.reg l151r0) (.seq (.reg l151r1) (.seq (.seq (.reg l151r2) (.block 0 (.loop (.seq (.seq (.reg l151r3) (.cond (.tmp 27) .skip (.exit 0))) (.seq (.block 1 (.reg l151r4)) (.reg l151r5)))))) (.seq (.reg l151r6) .ret)))) [.tmp 2])
theorem l151_eq:lowFn Tryz.prog 151=some l151:=by kernel_rfl
def l152r0:List AOper :=
  [.mk (some 1) (.box (.tmp 0)) none [],.mk (some 2) (.alloc [.int .i64 0,.slice none 0 0,.slice none 0 0]) none []]
def l152r1:List AOper :=
  [.mk (some 3) (.fld 1 (.tmp 1)) none [],.mk (some 4) (.load false 1 (.tmp 3)) none [0],.mk (some 5) (.call 113 [.tmp 4]) none [1],.mk (some 6) (.bin .eql (.tmp 5) (.const (.int .i64 0))) none [2]]
def l152r2a:List AOper :=
  [.mk (some 7) (.fld 1 (.tmp 1)) none [],.mk (some 8) (.load false 1 (.tmp 7)) none [0],.mk (some 9) (.fld 1 (.tmp 1)) none [],.mk (some 10) (.load false 1 (.tmp 9)) none [2],.mk (some 11) (.len (.tmp 10)) none [3],.mk (some 12) (.mkslice 1 [.int .i64 0] (.tmp 11) (.tmp 11)) none [4,4]]
def l152r2b:List AOper :=
  [.mk (some 13) (.build [.int .i64 0,.slice none 0 0,.slice none 0 0] [(1,1,.tmp 8),(2,1,.tmp 12)]) none [1,5],.mk none (.store 3 (.tmp 2) (.tmp 13)) none [6,0,1,2,3,4,5,6]]
def l152r2:List AOper:=l152r2a ++ l152r2b
def l152r3:List AOper :=
  [.mk (some 14) (.load true 3 (.tmp 1)) none [],.mk none (.store 3 (.tmp 2) (.tmp 14)) none [0,0]]
def l152:AFn :=
  (AFn.mk 15 1 (.seq (.reg l152r0) (.seq (.seq (.reg l152r1) (.cond (.tmp 6) (.seq (.draw l152r2) .ret) .skip)) (.seq (.reg l152r3) .ret))) [.cell 2 true 3])
theorem l152_eq:lowFn Tryz.prog 152=some l152:=by kernel_rfl
def l157r0:List AOper :=
  [.mk (some 2) (.box (.tmp 0)) none [],.mk (some 3) (.box (.tmp 1)) none [],.mk (some 4) (.alloc [.slice none 0 0,.slice none 0 0]) none [],.mk (some 5) (.mv (.const (.bool false))) none []]
def l157r1:List AOper :=
  [.mk (some 7) (.fld 1 (.tmp 3)) none [],.mk (some 8) (.load false 1 (.tmp 7)) none [0],.mk (some 6) (.mv (.tmp 8)) none [1,0,1]]
def l157r2:List AOper :=
  [.mk (some 9) (.fld 0 (.tmp 3)) none [],.mk (some 10) (.load false 1 (.tmp 9)) none [0]]
def l157r3:List AOper :=
  [.mk (some 12) (.bin .eql (.tmp 10) (.const (.int .i64 0))) none [],.mk (some 11) (.mv (.tmp 12)) none [0]]
def l157r4a:List AOper :=
  [.mk (some 13) (.load true 2 (.tmp 2)) none [],.mk (some 14) (.mv (.tmp 6)) none [],.mk (some 15) (.idxA 1 (.tmp 14) (.const (.int .i64 0))) none [1],.mk (some 16) (.load false 1 (.tmp 15)) none [2],.mk (some 17) (.call 177 [.tmp 13,.tmp 16]) none [0,3],.mk (some 18) (.extract (.tmp 17) 0) none [4],.mk (some 19) (.extract (.tmp 17) 1) none [4]]
def l157r4b:List AOper :=
  [.mk none (.store 2 (.tmp 4) (.tmp 18)) none [5,4,0,1,2,3,4,5,6],.mk (some 5) (.mv (.tmp 19)) none [6,7,0,1,2,3,4,5,6,7]]
def l157r4:List AOper:=l157r4a ++ l157r4b
def l157r5:List AOper :=
  [.mk (some 21) (.bin .eql (.tmp 10) (.const (.int .i64 1))) none [],.mk (some 20) (.mv (.tmp 21)) none [0]]
def l157r6a:List AOper :=
  [.mk (some 22) (.load true 2 (.tmp 2)) none [],.mk (some 23) (.mv (.tmp 6)) none [],.mk (some 24) (.idxA 1 (.tmp 23) (.const (.int .i64 0))) none [1],.mk (some 25) (.load false 1 (.tmp 24)) none [2],.mk (some 26) (.mv (.tmp 6)) none [],.mk (some 27) (.idxA 1 (.tmp 26) (.const (.int .i64 1))) none [4],.mk (some 28) (.load false 1 (.tmp 27)) none [5],.mk (some 29) (.bslice 1 [.int .i64 0] [(0,.tmp 28)] 1) none [6],.mk (some 30) (.mv (.tmp 6)) none [],.mk (some 31) (.idxA 1 (.tmp 30) (.const (.int .i64 2))) none [8],.mk (some 32) (.load false 1 (.tmp 31)) none [9],.mk (some 33) (.bslice 1 [.int .i64 0] [(0,.tmp 32)] 1) none [10],.mk (some 34) (.build [.int .i64 0,.slice none 0 0,.slice none 0 0] [(0,1,.tmp 25),(1,1,.tmp 29),(2,1,.tmp 33)]) none [3,7,11],.mk (some 35) (.call 34 [.tmp 22,.tmp 34]) none [0,12],.mk (some 36) (.extract (.tmp 35) 0) none [13],.mk (some 37) (.extract (.tmp 35) 1) none [13]]
def l157r6b:List AOper :=
  [.mk none (.store 2 (.tmp 4) (.tmp 36)) none [14,13,0,1,2,3,4,5,6,7,8,9,10,11,12,13,14,15],.mk (some 5) (.mv (.tmp 37)) none [15,16,0,1,2,3,4,5,6,7,8,9,10,11,12,13,14,15,16]]
def l157r6:List AOper:=l157r6a ++ l157r6b
def l157r7:List AOper :=
  [.mk (some 39) (.bin .eql (.tmp 10) (.const (.int .i64 2))) none [],.mk (some 38) (.mv (.tmp 39)) none [0]]
def l157r8a:List AOper :=
  [.mk (some 40) (.load true 2 (.tmp 2)) none [],.mk (some 41) (.mv (.tmp 6)) none [],.mk (some 42) (.idxA 1 (.tmp 41) (.const (.int .i64 0))) none [1],.mk (some 43) (.load false 1 (.tmp 42)) none [2],.mk (some 44) (.mv (.tmp 6)) none [],.mk (some 45) (.idxA 1 (.tmp 44) (.const (.int .i64 1))) none [4],.mk (some 46) (.load false 1 (.tmp 45)) none [5],.mk (some 47) (.mv (.tmp 6)) none [],.mk (some 48) (.idxA 1 (.tmp 47) (.const (.int .i64 2))) none [7],.mk (some 49) (.load false 1 (.tmp 48)) none [8],.mk (some 50) (.mv (.tmp 6)) none [],.mk (some 51) (.idxA 1 (.tmp 50) (.const (.int .i64 3))) none [10],.mk (some 52) (.load false 1 (.tmp 51)) none [11],.mk (some 53) (.build [.int .i64 0,.int .i64 0,.int .i64 0,.bool false,.bool false] [(0,1,.tmp 46),(1,1,.tmp 49),(2,1,.tmp 52),(3,1,.const (.bool true)),(4,1,.const (.bool true))]) none [6,9,12],.mk (some 54) (.call 37 [.tmp 40,.tmp 43,.const (.int .i64 0),.tmp 53]) none [0,3,13],.mk (some 55) (.extract (.tmp 54) 0) none [14],.mk (some 56) (.extract (.tmp 54) 1) none [14]]
def l157r8b:List AOper :=
  [.mk none (.store 2 (.tmp 4) (.tmp 55)) none [15,14,0,1,2,3,4,5,6,7,8,9,10,11,12,13,14,15,16],.mk (some 5) (.mv (.tmp 56)) none [16,17,0,1,2,3,4,5,6,7,8,9,10,11,12,13,14,15,16,17]]
def l157r8:List AOper:=l157r8a ++ l157r8b
def l157r9:List AOper :=
  [.mk (some 58) (.bin .eql (.tmp 10) (.const (.int .i64 3))) none [],.mk (some 57) (.mv (.tmp 58)) none [0]]
def l157r10a:List AOper :=
  [.mk (some 59) (.load true 2 (.tmp 2)) none [],.mk (some 60) (.mv (.tmp 6)) none [],.mk (some 61) (.idxA 1 (.tmp 60) (.const (.int .i64 0))) none [1],.mk (some 62) (.load false 1 (.tmp 61)) none [2],.mk (some 63) (.build [.int .i64 0,.int .i64 0,.int .i64 0,.bool false,.bool false] [(2,1,.const (.int .i64 (-1)))]) none [],.mk (some 64) (.call 37 [.tmp 59,.tmp 62,.const (.int .i64 0),.tmp 63]) none [0,3,4],.mk (some 65) (.extract (.tmp 64) 0) none [5],.mk (some 66) (.extract (.tmp 64) 1) none [5]]
def l157r10b:List AOper :=
  [.mk none (.store 2 (.tmp 4) (.tmp 65)) none [6,5,0,1,2,3,4,5,6,7],.mk (some 5) (.mv (.tmp 66)) none [7,8,0,1,2,3,4,5,6,7,8]]
def l157r10:List AOper:=l157r10a ++ l157r10b
def l157r11:List AOper :=
  [.mk (some 68) (.bin .eql (.tmp 10) (.const (.int .i64 4))) none [],.mk (some 67) (.mv (.tmp 68)) none [0]]
def l157r12a:List AOper :=
  [.mk (some 69) (.load true 2 (.tmp 2)) none [],.mk (some 70) (.mv (.tmp 6)) none [],.mk (some 71) (.idxA 1 (.tmp 70) (.const (.int .i64 0))) none [1],.mk (some 72) (.load false 1 (.tmp 71)) none [2],.mk (some 73) (.mv (.tmp 6)) none [],.mk (some 74) (.idxA 1 (.tmp 73) (.const (.int .i64 1))) none [4],.mk (some 75) (.load false 1 (.tmp 74)) none [5],.mk (some 76) (.call 23 [.tmp 69,.tmp 72,.tmp 75]) none [0,3,6],.mk (some 77) (.extract (.tmp 76) 0) none [7],.mk (some 78) (.extract (.tmp 76) 1) none [7]]
def l157r12b:List AOper :=
  [.mk none (.store 2 (.tmp 4) (.tmp 77)) none [8,7,0,1,2,3,4,5,6,7,8,9],.mk (some 5) (.mv (.tmp 78)) none [9,10,0,1,2,3,4,5,6,7,8,9,10]]
def l157r12:List AOper:=l157r12a ++ l157r12b
def l157r13:List AOper :=
  [.mk (some 80) (.bin .eql (.tmp 10) (.const (.int .i64 5))) none [],.mk (some 79) (.mv (.tmp 80)) none [0]]
def l157r14a:List AOper :=
  [.mk (some 81) (.load true 2 (.tmp 2)) none [],.mk (some 82) (.mv (.tmp 6)) none [],.mk (some 83) (.idxA 1 (.tmp 82) (.const (.int .i64 0))) none [1],.mk (some 84) (.load false 1 (.tmp 83)) none [2],.mk (some 85) (.mv (.tmp 6)) none [],.mk (some 86) (.idxA 1 (.tmp 85) (.const (.int .i64 1))) none [4],.mk (some 87) (.load false 1 (.tmp 86)) none [5],.mk (some 88) (.call 28 [.tmp 81,.tmp 84,.tmp 87]) none [0,3,6],.mk (some 89) (.extract (.tmp 88) 0) none [7],.mk (some 90) (.extract (.tmp 88) 1) none [7]]
def l157r14b:List AOper :=
  [.mk none (.store 2 (.tmp 4) (.tmp 89)) none [8,7,0,1,2,3,4,5,6,7,8,9],.mk (some 5) (.mv (.tmp 90)) none [9,10,0,1,2,3,4,5,6,7,8,9,10]]
def l157r14:List AOper:=l157r14a ++ l157r14b
def l157r15:List AOper :=
  [.mk (some 92) (.bin .eql (.tmp 10) (.const (.int .i64 7))) none [],.mk (some 91) (.mv (.tmp 92)) none [0]]
def l157r16a:List AOper :=
  [.mk (some 93) (.load true 2 (.tmp 2)) none [],.mk (some 94) (.mv (.tmp 6)) none [],.mk (some 95) (.idxA 1 (.tmp 94) (.const (.int .i64 0))) none [1],.mk (some 96) (.load false 1 (.tmp 95)) none [2],.mk (some 97) (.call 11 [.tmp 93,.tmp 96]) none [0,3],.mk (some 98) (.extract (.tmp 97) 0) none [4],.mk (some 99) (.extract (.tmp 97) 1) none [4]]
def l157r16b:List AOper :=
  [.mk none (.store 2 (.tmp 4) (.tmp 98)) none [5,4,0,1,2,3,4,5,6],.mk (some 5) (.mv (.tmp 99)) none [6,7,0,1,2,3,4,5,6,7]]
def l157r16:List AOper:=l157r16a ++ l157r16b
def l157r17a:List AOper :=
  [.mk (some 100) (.load true 2 (.tmp 2)) none [],.mk (some 101) (.load true 2 (.tmp 2)) none [],.mk (some 102) (.mv (.tmp 6)) none [],.mk (some 103) (.idxA 1 (.tmp 102) (.const (.int .i64 0))) none [2],.mk (some 104) (.load false 1 (.tmp 103)) none [3],.mk (some 105) (.call 48 [.tmp 101,.tmp 104]) none [1,4]]
def l157r17b:List AOper :=
  [.mk none (.store 2 (.tmp 4) (.tmp 100)) none [0,5,0],.mk (some 5) (.mv (.tmp 105)) none [5,6,0,1,2,3,4,5,6]]
def l157r17:List AOper:=l157r17a ++ l157r17b
def l157:AFn :=
  (AFn.mk 106 2 (.seq (.reg l157r0) (.seq (.reg l157r1) (.seq (.seq (.reg l157r2) (.block 0 (.seq (.reg l157r3) (.cond (.tmp 11) (.seq (.draw l157r4) .ret) (.seq (.reg l157r5) (.cond (.tmp 20) (.seq (.draw l157r6) .ret) (.seq (.reg l157r7) (.cond (.tmp 38) (.seq (.draw l157r8) .ret) (.seq (.reg l157r9) (.cond (.tmp 57) (.seq (.draw l157r10) .ret) (.seq (.reg l157r11) (.cond (.tmp 67) (.seq (.draw l157r12) .ret) (.seq (.reg l157r13) (.cond (.tmp 79) (.seq (.draw l157r14) .ret) (.seq (.reg l157r15) (.cond (.tmp 91) (.seq (.draw l157r16) .ret) .skip)))))))))))))))) (.seq (.draw l157r17) .ret)))) [.cell 4 true 2,.tmp 5])
theorem l157_eq:lowFn Tryz.prog 157=some l157:=by kernel_rfl
def l158r0:List AOper :=
  [.mk (some 2) (.mv (.const (.string (ByteArray.mk (Array.mk []))))) none []]
def l158r1:List AOper :=
  [.mk (some 3) (.mv (.const (.string (ByteArray.mk (Array.mk []))))) none []]
def l158r2:List AOper :=
  [.mk (some 4) (.mv (.const (.int .i64 0))) none []]
def l158r3:List AOper :=
  [.mk (some 5) (.mv (.tmp 4)) none [],.mk (some 6) (.mv (.tmp 0)) none [],.mk (some 7) (.len (.tmp 6)) none [1],.mk (some 8) (.bin .lss (.tmp 5) (.tmp 7)) none [0,2]]
def l158r4:List AOper :=
  [.mk (some 11) (.mv (.tmp 3)) none [],.mk (some 12) (.bin .add (.tmp 11) (.const (.string (ByteArray.mk (Array.mk [(32:UInt8)]))))) none [0],.mk (some 13) (.mv (.tmp 0)) none [],.mk (some 14) (.mv (.tmp 4)) none [],.mk (some 15) (.idxA 1 (.tmp 13) (.tmp 14)) none [2,3],.mk (some 16) (.load false 1 (.tmp 15)) none [4],.mk (some 17) (.call 159 [.tmp 16]) none [5],.mk (some 18) (.bin .add (.tmp 12) (.tmp 17)) none [1,6],.mk (some 3) (.mv (.tmp 18)) none [7,6,0,1,2,3,4,5,6,7]]
def l158r5:List AOper :=
  [.mk (some 9) (.mv (.tmp 4)) none [],.mk (some 10) (.bin .add (.tmp 9) (.const (.int .i64 1))) none [0],.mk (some 4) (.mv (.tmp 10)) none [1,0,1]]
def l158r6:List AOper :=
  [.mk (some 19) (.mv (.tmp 3)) none [],.mk (some 2) (.mv (.tmp 19)) none [0,0]]
def l158:AFn :=
  (AFn.mk 20 1 (.seq (.reg l158r0) (.seq (.reg l158r1) (.seq (.seq (.reg l158r2) (.block 0 (.loop (.seq (.seq (.reg l158r3) (.cond (.tmp 8) .skip (.exit 0))) (.seq (.block 1 (.reg l158r4)) (.reg l158r5)))))) (.seq (.reg l158r6) .ret)))) [.tmp 2])
theorem l158_eq:lowFn Tryz.prog 158=some l158:=by kernel_rfl
def l159r0:List AOper :=
  [.mk (some 2) (.mv (.const (.string (ByteArray.mk (Array.mk []))))) none []]
def l159r1:List AOper :=
  [.mk (some 3) (.mv (.tmp 0)) none [],.mk (some 4) (.bin .lss (.tmp 3) (.const (.int .i64 0))) none [0],.mk (some 5) (.mv (.tmp 4)) none [1],.mk (some 6) (.mv (.tmp 0)) (some (5,true)) [2],.mk (some 7) (.mv (.tmp 0)) (some (5,true)) [2],.mk (some 8) (.un .neg (.tmp 7)) (some (5,true)) [4,2],.mk (some 9) (.bin .eql (.tmp 6) (.tmp 8)) (some (5,true)) [3,5,2],.mk (some 10) (.pick (.tmp 5) (.tmp 9) (.const (.bool false))) none [2,6]]
def l159r2:List AOper :=
  [.mk (some 2) (.mv (.const (.string (ByteArray.mk (Array.mk [(45:UInt8),(57:UInt8),(50:UInt8),(50:UInt8),(51:UInt8),(51:UInt8),(55:UInt8),(50:UInt8),(48:UInt8),(51:UInt8),(54:UInt8),(56:UInt8),(53:UInt8),(52:UInt8),(55:UInt8),(55:UInt8),(53:UInt8),(56:UInt8),(48:UInt8),(56:UInt8)]))))) none []]
def l159r3:List AOper :=
  [.mk (some 11) (.mv (.tmp 0)) none [],.mk (some 12) (.bin .lss (.tmp 11) (.const (.int .i64 0))) none [0]]
def l159r4:List AOper :=
  [.mk (some 13) (.mv (.tmp 0)) none [],.mk (some 14) (.un .neg (.tmp 13)) none [0],.mk (some 15) (.call 159 [.tmp 14]) none [1],.mk (some 16) (.bin .add (.const (.string (ByteArray.mk (Array.mk [(45:UInt8)])))) (.tmp 15)) none [2],.mk (some 2) (.mv (.tmp 16)) none [3,2,0,1,2,3]]
def l159r5:List AOper :=
  [.mk (some 17) (.mv (.tmp 0)) none [],.mk (some 18) (.bin .lss (.tmp 17) (.const (.int .i64 10))) none [0]]
def l159r6:List AOper :=
  [.mk (some 19) (.mv (.tmp 0)) none [],.mk (some 20) (.mv (.tmp 0)) none [],.mk (some 21) (.bin .add (.tmp 20) (.const (.int .i64 1))) none [1],.mk (some 22) (.sliceS (.const (.string (ByteArray.mk (Array.mk [(48:UInt8),(49:UInt8),(50:UInt8),(51:UInt8),(52:UInt8),(53:UInt8),(54:UInt8),(55:UInt8),(56:UInt8),(57:UInt8)])))) (some (.tmp 19)) (some (.tmp 21))) none [0,2],.mk (some 2) (.mv (.tmp 22)) none [3,0,1,2,3]]
def l159r7:List AOper :=
  [.mk (some 23) (.mv (.tmp 0)) none [],.mk (some 24) (.bin .quo (.tmp 23) (.const (.int .i64 10))) none [0],.mk (some 25) (.call 159 [.tmp 24]) none [1],.mk (some 26) (.mv (.tmp 0)) none [],.mk (some 27) (.bin .rem (.tmp 26) (.const (.int .i64 10))) none [3],.mk (some 28) (.call 159 [.tmp 27]) none [4,2],.mk (some 29) (.bin .add (.tmp 25) (.tmp 28)) none [2,5],.mk (some 2) (.mv (.tmp 29)) none [6,5,0,1,2,3,4,5,6]]
def l159:AFn :=
  (AFn.mk 30 1 (.seq (.reg l159r0) (.seq (.seq (.reg l159r1) (.cond (.tmp 10) (.seq (.reg l159r2) .ret) .skip)) (.seq (.seq (.reg l159r3) (.cond (.tmp 12) (.seq (.reg l159r4) .ret) .skip)) (.seq (.seq (.reg l159r5) (.cond (.tmp 18) (.seq (.reg l159r6) .ret) .skip)) (.seq (.reg l159r7) .ret))))) [.tmp 2])
theorem l159_eq:lowFn Tryz.prog 159=some l159:=by kernel_rfl
def l160r0:List AOper :=
  [.mk (some 1) (.box (.tmp 0)) none [],.mk (some 2) (.mv (.const (.slice none 0 0))) none []]
def l160r1:List AOper :=
  [.mk (some 5) (.load true 2 (.tmp 1)) none [],.mk (some 6) (.call 47 [.tmp 5]) none [0],.mk (some 7) (.un .not (.tmp 6)) none [1]]
def l160r2:List AOper :=
  [.mk (some 2) (.mv (.const (.slice none 0 0))) none []]
def l160r3:List AOper :=
  [.mk (some 8) (.bslice 1 [.int .i64 0] [] 0) none [],.mk (some 3) (.mv (.tmp 8)) none [0,0]]
def l160r4:List AOper :=
  [.mk (some 4) (.mv (.const (.int .i64 0))) none []]
def l160r5:List AOper :=
  [.mk (some 9) (.mv (.tmp 4)) none [],.mk (some 10) (.fld 1 (.tmp 1)) none [],.mk (some 11) (.load false 1 (.tmp 10)) none [1],.mk (some 12) (.len (.tmp 11)) none [2],.mk (some 13) (.bin .lss (.tmp 9) (.tmp 12)) none [0,3]]
def l160r6:List AOper :=
  [.mk (some 16) (.fld 1 (.tmp 1)) none [],.mk (some 17) (.load false 1 (.tmp 16)) none [0],.mk (some 18) (.mv (.tmp 4)) none [],.mk (some 19) (.idxA 5 (.tmp 17) (.tmp 18)) none [1,2],.mk (some 20) (.fld 4 (.tmp 19)) none [3],.mk (some 21) (.load false 1 (.tmp 20)) none [4]]
def l160r7:List AOper :=
  [.mk (some 22) (.mv (.tmp 3)) none [],.mk (some 23) (.mv (.tmp 4)) none [],.mk (some 24) (.bslice 1 [.int .i64 0] [(0,.tmp 23)] 1) none [1],.mk (some 25) (.append 1 (.tmp 22) (.tmp 24)) none [0,2],.mk (some 3) (.mv (.tmp 25)) none [3,3,0,1,2,3]]
def l160r8:List AOper :=
  [.mk (some 14) (.mv (.tmp 4)) none [],.mk (some 15) (.bin .add (.tmp 14) (.const (.int .i64 1))) none [0],.mk (some 4) (.mv (.tmp 15)) none [1,0,1]]
def l160r9:List AOper :=
  [.mk (some 26) (.mv (.tmp 3)) none [],.mk (some 2) (.mv (.tmp 26)) none [0,0]]
def l160:AFn :=
  (AFn.mk 27 1 (.seq (.reg l160r0) (.seq (.seq (.reg l160r1) (.cond (.tmp 7) (.seq (.reg l160r2) .ret) .skip)) (.seq (.reg l160r3) (.seq (.seq (.reg l160r4) (.block 0 (.loop (.seq (.seq (.reg l160r5) (.cond (.tmp 13) .skip (.exit 0))) (.seq (.block 1 (.seq (.reg l160r6) (.cond (.tmp 21) (.reg l160r7) .skip))) (.reg l160r8)))))) (.seq (.reg l160r9) .ret))))) [.tmp 2])
theorem l160_eq:lowFn Tryz.prog 160=some l160:=by kernel_rfl
def l165r0:List AOper :=
  [.mk (some 6) (.mv (.const (.int .i64 0))) none []]
def l165r1:List AOper :=
  [.mk (some 7) (.mv (.const (.int .i64 0))) none []]
def l165r2:List AOper :=
  [.mk (some 9) (.mv (.tmp 0)) none [],.mk (some 8) (.mv (.tmp 9)) none [0,0]]
def l165r3:List AOper :=
  [.mk (some 10) (.mv (.tmp 2)) none [],.mk (some 11) (.bin .lss (.tmp 10) (.const (.int .i64 0))) none [0]]
def l165r4:List AOper :=
  [.mk (some 7) (.mv (.const (.int .i64 (-1)))) none []]
def l165r5:List AOper :=
  [.mk (some 12) (.mv (.tmp 0)) none [],.mk (some 13) (.bin .sub (.tmp 12) (.const (.int .i64 1))) none [0],.mk (some 8) (.mv (.tmp 13)) none [1,0,1]]
def l165r6:List AOper :=
  [.mk (some 14) (.mv (.tmp 1)) none [],.mk (some 15) (.bin .lss (.tmp 14) (.const (.int .i64 0))) none [0]]
def l165r7:List AOper :=
  [.mk (some 16) (.mv (.tmp 1)) none [],.mk (some 17) (.mv (.tmp 0)) none [],.mk (some 18) (.bin .add (.tmp 16) (.tmp 17)) none [0,1],.mk (some 1) (.mv (.tmp 18)) none [2,0,1,2]]
def l165r8:List AOper :=
  [.mk (some 19) (.mv (.tmp 8)) none [],.mk (some 20) (.mv (.tmp 7)) none [],.mk (some 21) (.mv (.tmp 1)) none [],.mk (some 22) (.minmax true (.tmp 20) (.tmp 21)) none [1,2],.mk (some 23) (.minmax false (.tmp 19) (.tmp 22)) none [0,3],.mk (some 6) (.mv (.tmp 23)) none [4,0,1,2,3,4]]
def l165:AFn :=
  (AFn.mk 24 3 (.seq (.reg l165r0) (.seq (.reg l165r1) (.seq (.reg l165r2) (.seq (.seq (.reg l165r3) (.cond (.tmp 11) (.seq (.reg l165r4) (.reg l165r5)) .skip)) (.seq (.seq (.reg l165r6) (.cond (.tmp 15) (.reg l165r7) .skip)) (.seq (.reg l165r8) .ret)))))) [.tmp 6])
theorem l165_eq:lowFn Tryz.prog 165=some l165:=by kernel_rfl
def l177r0:List AOper :=
  [.mk (some 2) (.box (.tmp 0)) none [],.mk (some 4) (.alloc [.slice none 0 0,.slice none 0 0]) none [],.mk (some 5) (.mv (.const (.bool false))) none []]
def l177r1:List AOper :=
  [.mk (some 8) (.load true 2 (.tmp 2)) none [],.mk (some 9) (.call 47 [.tmp 8]) none [0],.mk (some 10) (.un .not (.tmp 9)) none [1],.mk (some 11) (.mv (.tmp 10)) none [2,1],.mk (some 12) (.mv (.tmp 1)) (some (11,false)) [3],.mk (some 13) (.call 60 [.tmp 12,.const (.int .i64 0),.const (.int .i64 60)]) (some (11,false)) [4,3,3],.mk (some 14) (.un .not (.tmp 13)) (some (11,false)) [5,3],.mk (some 15) (.pick (.tmp 11) (.const (.bool true)) (.tmp 14)) none [3,6],.mk (some 16) (.mv (.tmp 15)) none [7,5],.mk (some 17) (.load true 2 (.tmp 2)) (some (16,false)) [8],.mk (some 18) (.call 160 [.tmp 17]) (some (16,false)) [9,8,8],.mk (some 19) (.len (.tmp 18)) (some (16,false)) [10,8],.mk (some 20) (.bin .gtr (.tmp 19) (.const (.int .i64 0))) (some (16,false)) [11,8],.mk (some 21) (.pick (.tmp 16) (.const (.bool true)) (.tmp 20)) none [8,12]]
def l177r2:List AOper :=
  [.mk (some 22) (.build [.slice none 0 0,.slice none 0 0] []) none [],.mk none (.store 2 (.tmp 4) (.tmp 22)) none [0,0],.mk (some 5) (.mv (.const (.bool false))) none [1,0,1]]
def l177r3:List AOper :=
  [.mk (some 23) (.load true 2 (.tmp 2)) none [],.mk (some 24) (.call 50 [.tmp 23]) none [0],.mk (some 6) (.alloc [.slice none 0 0,.slice none 0 0]) none [],.mk none (.store 2 (.tmp 6) (.tmp 24)) none [2,1,1,0,1,2]]
def l177r4:List AOper :=
  [.mk (some 25) (.mv (.tmp 1)) none [],.mk (some 26) (.mkslice 1 [.int .i64 0] (.tmp 25) (.tmp 25)) none [0,0],.mk (some 27) (.fld 0 (.tmp 6)) none [0,1],.mk none (.store 1 (.tmp 27) (.tmp 26)) none [2,1,0,1]]
def l177r5:List AOper :=
  [.mk (some 7) (.mv (.const (.int .i64 0))) none []]
def l177r6:List AOper :=
  [.mk (some 28) (.mv (.tmp 7)) none [],.mk (some 29) (.mv (.tmp 1)) none [],.mk (some 30) (.bin .lss (.tmp 28) (.tmp 29)) none [0,1],.mk (some 31) (.mv (.tmp 30)) none [2],.mk (some 32) (.mv (.tmp 7)) (some (31,true)) [3],.mk (some 33) (.fld 0 (.tmp 2)) (some (31,true)) [3],.mk (some 34) (.load false 1 (.tmp 33)) (some (31,true)) [5,3],.mk (some 35) (.len (.tmp 34)) (some (31,true)) [6,3],.mk (some 36) (.bin .lss (.tmp 32) (.tmp 35)) (some (31,true)) [4,7,3],.mk (some 37) (.pick (.tmp 31) (.tmp 36) (.const (.bool false))) none [3,8]]
def l177r7a:List AOper :=
  [.mk (some 40) (.fld 0 (.tmp 6)) none [],.mk (some 41) (.load false 1 (.tmp 40)) none [0],.mk (some 42) (.mv (.tmp 7)) none [],.mk (some 43) (.fld 0 (.tmp 2)) none [],.mk (some 44) (.load false 1 (.tmp 43)) none [3],.mk (some 45) (.mv (.tmp 7)) none [],.mk (some 46) (.idxA 1 (.tmp 44) (.tmp 45)) none [4,5],.mk (some 47) (.load false 1 (.tmp 46)) none [6]]
def l177r7b:List AOper :=
  [.mk (some 48) (.idxA 1 (.tmp 41) (.tmp 42)) none [1,2,0,1,2,3,4,5,6,7],.mk none (.store 1 (.tmp 48) (.tmp 47)) none [8,7,0,1,2,3,4,5,6,7]]
def l177r7:List AOper:=l177r7a ++ l177r7b
def l177r8:List AOper :=
  [.mk (some 38) (.mv (.tmp 7)) none [],.mk (some 39) (.bin .add (.tmp 38) (.const (.int .i64 1))) none [0],.mk (some 7) (.mv (.tmp 39)) none [1,0,1]]
def l177r9:List AOper :=
  [.mk (some 49) (.load true 2 (.tmp 6)) none [],.mk none (.store 2 (.tmp 4) (.tmp 49)) none [0,0],.mk (some 5) (.mv (.const (.bool true))) none [1,0,1]]
def l177:AFn :=
  (AFn.mk 50 2 (.seq (.reg l177r0) (.seq (.seq (.reg l177r1) (.cond (.tmp 21) (.seq (.reg l177r2) .ret) .skip)) (.seq (.reg l177r3) (.seq (.reg l177r4) (.seq (.seq (.reg l177r5) (.block 0 (.loop (.seq (.seq (.reg l177r6) (.cond (.tmp 37) .skip (.exit 0))) (.seq (.block 1 (.draw l177r7)) (.reg l177r8)))))) (.seq (.reg l177r9) .ret)))))) [.cell 4 true 2,.tmp 5])
theorem l177_eq:lowFn Tryz.prog 177=some l177:=by kernel_rfl
end Go.Proofs.YtkpcjppnjmhanaaGreatDoor
