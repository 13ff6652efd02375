import Derived.Test.YtahdlohpncjdbaaGreatDoorCW3
import Derived.Test.YtahdlohpncjdbaaGreatDoorProg
import Derived.KernelRfl
set_option maxRecDepth 100000
namespace Go.Proofs.YtahdlohpncjdbaaGreatDoor
open Vw Go
/-- Where the sentinel error lies. -/
class SentA where
  a:Addr
instance globs [SentA]:Inhabited GlobT:=⟨⟨[(0,[.iface 135 (.pointer (some SentA.a))])]⟩⟩
attribute [push_cast] Bool.false_eq_true List.length_replicate
attribute [bitvec_to_nat] decide_eq_true_eq decide_eq_false_iff_not Bool.not_eq_true' Bool.not_eq_false' Bool.and_eq_true Bool.or_eq_true Bool.and_eq_false_iff Bool.or_eq_false_iff Int.not_le Int.not_lt bne_iff_ne ne_eq beq_iff_eq Bool.not_eq_true Bool.not_eq_false
theorem sd {P:Prop} (h:P:=by first|assumption|rfl|omega|(simp<;>omega)|(simp_all<;>omega)):P:=h
def l3r0:List AOper :=
  [.mk (some 4) (.box (.tmp 0)) none [],.mk (some 7) (.box (.tmp 3)) none [],.mk (some 8) (.mv (.const (.bool false))) none []]
def l3r1:List AOper :=
  [.mk (some 9) (.mv (.const (.int .i64 1048576))) none []]
def l3r2:List AOper :=
  [.mk (some 20) (.load true 2 (.tmp 4)) none [],.mk (some 21) (.mv (.tmp 9)) none [],.mk (some 22) (.call 4 [.tmp 20,.tmp 21]) none [0,1],.mk (some 9) (.mv (.tmp 22)) none [2,2,0,1,2]]
def l3r3:List AOper :=
  [.mk (some 23) (.mv (.tmp 9)) none [],.mk (some 24) (.bin .lss (.tmp 23) (.const (.int .i64 0))) none [0]]
def l3r4:List AOper :=
  [.mk (some 8) (.mv (.const (.bool true))) none []]
def l3r5a:List AOper :=
  [.mk (some 26) (.load true 2 (.tmp 4)) none [],.mk (some 27) (.call 6 [.tmp 26]) none [0],.mk (some 28) (.mv (.tmp 1)) none [],.mk (some 29) (.mv (.tmp 2)) none [],.mk (some 30) (.load true 5 (.tmp 7)) none [],.mk (some 31) (.call 7 [.tmp 30]) none [4,1],.mk (some 32) (.call 5 [.tmp 27,.tmp 28,.tmp 29,.tmp 31]) none [1,2,3,5,5],.mk (some 25) (.mv (.tmp 32)) none [6],.mk (some 33) (.extract (.tmp 25) 0) none [7],.mk (some 34) (.extract (.tmp 25) 1) none [7],.mk (some 10) (.alloc [.slice none 0 0,.slice none 0 0]) none [],.mk none (.store 2 (.tmp 10) (.tmp 33)) none [10,8,6,0,1,2,3,4,5,6,7,8,10]]
def l3r5b:List AOper :=
  [.mk (some 11) (.mv (.tmp 34)) none [9,11,0,1,2,3,4,5,6,7,8,9,10,11]]
def l3r5:List AOper:=l3r5a ++ l3r5b
def l3r6:List AOper :=
  [.mk (some 35) (.load true 2 (.tmp 4)) none [],.mk (some 36) (.call 6 [.tmp 35]) none [0],.mk (some 12) (.alloc [.slice none 0 0,.slice none 0 0]) none [],.mk none (.store 2 (.tmp 12) (.tmp 36)) none [2,1,1,0,1,2]]
def l3r7a:List AOper :=
  [.mk (some 38) (.load true 2 (.tmp 12)) none [],.mk (some 39) (.mv (.tmp 1)) none [],.mk (some 40) (.mv (.tmp 2)) none [],.mk (some 41) (.load true 5 (.tmp 7)) none [],.mk (some 42) (.call 7 [.tmp 41]) none [3],.mk (some 43) (.call 8 [.tmp 38,.tmp 39,.tmp 40,.tmp 42]) none [0,1,2,4,4],.mk (some 37) (.mv (.tmp 43)) none [5],.mk (some 44) (.extract (.tmp 37) 0) none [6],.mk (some 45) (.extract (.tmp 37) 1) none [6],.mk (some 13) (.alloc [.slice none 0 0,.slice none 0 0]) none [],.mk none (.store 2 (.tmp 13) (.tmp 44)) none [9,7,5,0,1,2,3,4,5,6,7,9]]
def l3r7b:List AOper :=
  [.mk (some 14) (.mv (.tmp 45)) none [8,10,0,1,2,3,4,5,6,7,8,9,10]]
def l3r7:List AOper:=l3r7a ++ l3r7b
def l3r8:List AOper :=
  [.mk (some 46) (.load true 2 (.tmp 13)) none [],.mk (some 47) (.load true 2 (.tmp 10)) none [],.mk (some 48) (.call 9 [.tmp 46,.tmp 47]) none [0,1],.mk (some 49) (.un .not (.tmp 48)) none [2],.mk (some 50) (.mv (.tmp 49)) none [3,2],.mk (some 51) (.mv (.tmp 14)) (some (50,false)) [4],.mk (some 52) (.mv (.tmp 11)) (some (50,false)) [4],.mk (some 53) (.binB .neq (.tmp 51) (.tmp 52)) (some (50,false)) [5,6,4],.mk (some 54) (.pick (.tmp 50) (.const (.bool true)) (.tmp 53)) none [4,7]]
def l3r9:List AOper :=
  [.mk (some 8) (.mv (.const (.bool false))) none []]
def l3r10a:List AOper :=
  [.mk (some 55) (.load true 2 (.tmp 12)) none [],.mk (some 56) (.load true 2 (.tmp 4)) none [],.mk (some 57) (.call 6 [.tmp 56]) none [1]]
def l3r10b:List AOper :=
  [.mk (some 58) (.call 9 [.tmp 55,.tmp 57]) none [0,2,2],.mk (some 59) (.un .not (.tmp 58)) none [3]]
def l3r10:List AOper:=l3r10a ++ l3r10b
def l3r11:List AOper :=
  [.mk (some 8) (.mv (.const (.bool false))) none []]
def l3r12:List AOper :=
  [.mk (some 15) (.mv (.const (.int .i64 1))) none []]
def l3r13:List AOper :=
  [.mk (some 60) (.load true 2 (.tmp 12)) none [],.mk (some 61) (.mv (.tmp 15)) none [],.mk (some 62) (.call 10 [.tmp 60,.tmp 61]) none [0,1],.mk (some 15) (.mv (.tmp 62)) none [2,2,0,1,2]]
def l3r14:List AOper :=
  [.mk (some 63) (.mv (.tmp 15)) none [],.mk (some 64) (.bin .lss (.tmp 63) (.const (.int .i64 0))) none [0],.mk (some 65) (.mv (.tmp 64)) none [1],.mk (some 66) (.load true 2 (.tmp 13)) (some (65,false)) [2],.mk (some 67) (.load true 2 (.tmp 10)) (some (65,false)) [2],.mk (some 68) (.call 9 [.tmp 66,.tmp 67]) (some (65,false)) [3,4,2,2],.mk (some 69) (.un .not (.tmp 68)) (some (65,false)) [5,2],.mk (some 70) (.pick (.tmp 65) (.const (.bool true)) (.tmp 69)) none [2,6],.mk (some 71) (.mv (.tmp 70)) none [7,5],.mk (some 72) (.mv (.tmp 14)) (some (71,false)) [8],.mk (some 73) (.mv (.tmp 11)) (some (71,false)) [8],.mk (some 74) (.binB .neq (.tmp 72) (.tmp 73)) (some (71,false)) [9,10,8],.mk (some 75) (.pick (.tmp 71) (.const (.bool true)) (.tmp 74)) none [8,11]]
def l3r15:List AOper :=
  [.mk (some 8) (.mv (.const (.bool false))) none []]
def l3r16:List AOper :=
  [.mk (some 16) (.mv (.const (.int .i64 1))) none []]
def l3r17:List AOper :=
  [.mk (some 76) (.load true 2 (.tmp 13)) none [],.mk (some 77) (.mv (.tmp 16)) none [],.mk (some 78) (.call 10 [.tmp 76,.tmp 77]) none [0,1],.mk (some 16) (.mv (.tmp 78)) none [2,2,0,1,2]]
def l3r18:List AOper :=
  [.mk (some 17) (.mv (.const (.int .i64 1))) none []]
def l3r19:List AOper :=
  [.mk (some 79) (.load true 2 (.tmp 13)) none [],.mk (some 80) (.mv (.tmp 17)) none [],.mk (some 81) (.call 11 [.tmp 79,.tmp 80]) none [0,1],.mk (some 17) (.mv (.tmp 81)) none [2,2,0,1,2]]
def l3r20:List AOper :=
  [.mk (some 82) (.mv (.tmp 17)) none [],.mk (some 83) (.bin .lss (.tmp 82) (.const (.int .i64 0))) none [0]]
def l3r21:List AOper :=
  [.mk (some 8) (.mv (.const (.bool false))) none []]
def l3r22:List AOper :=
  [.mk (some 84) (.mv (.tmp 17)) none [],.mk (some 85) (.mv (.tmp 16)) none [],.mk (some 86) (.bin .neq (.tmp 84) (.tmp 85)) none [0,1]]
def l3r23:List AOper :=
  [.mk (some 8) (.mv (.const (.bool false))) none []]
def l3r24a:List AOper :=
  [.mk (some 88) (.load true 2 (.tmp 4)) none [],.mk (some 89) (.call 6 [.tmp 88]) none [0],.mk (some 90) (.mv (.tmp 1)) none [],.mk (some 91) (.mv (.tmp 2)) none [],.mk (some 92) (.load true 5 (.tmp 7)) none [],.mk (some 93) (.call 7 [.tmp 92]) none [4,1],.mk (some 94) (.call 8 [.tmp 89,.tmp 90,.tmp 91,.tmp 93]) none [1,2,3,5,5],.mk (some 87) (.mv (.tmp 94)) none [6],.mk (some 95) (.extract (.tmp 87) 0) none [7],.mk (some 96) (.extract (.tmp 87) 1) none [7],.mk (some 18) (.alloc [.slice none 0 0,.slice none 0 0]) none [],.mk none (.store 2 (.tmp 18) (.tmp 95)) none [10,8,6,0,1,2,3,4,5,6,7,8,10]]
def l3r24b:List AOper :=
  [.mk (some 19) (.mv (.tmp 96)) none [9,11,0,1,2,3,4,5,6,7,8,9,10,11]]
def l3r24:List AOper:=l3r24a ++ l3r24b
def l3r25:List AOper :=
  [.mk (some 97) (.load true 2 (.tmp 18)) none [],.mk (some 98) (.load true 2 (.tmp 10)) none [],.mk (some 99) (.call 9 [.tmp 97,.tmp 98]) none [0,1],.mk (some 100) (.un .not (.tmp 99)) none [2],.mk (some 101) (.mv (.tmp 100)) none [3,2],.mk (some 102) (.mv (.tmp 19)) (some (101,false)) [4],.mk (some 103) (.mv (.tmp 11)) (some (101,false)) [4],.mk (some 104) (.binB .neq (.tmp 102) (.tmp 103)) (some (101,false)) [5,6,4],.mk (some 105) (.pick (.tmp 101) (.const (.bool true)) (.tmp 104)) none [4,7]]
def l3r26:List AOper :=
  [.mk (some 8) (.mv (.const (.bool false))) none []]
def l3r27:List AOper :=
  [.mk (some 17) (.mv (.const (.int .i64 1))) none []]
def l3r28:List AOper :=
  [.mk (some 106) (.load true 2 (.tmp 13)) none [],.mk (some 107) (.mv (.tmp 17)) none [],.mk (some 108) (.call 11 [.tmp 106,.tmp 107]) none [0,1],.mk (some 17) (.mv (.tmp 108)) none [2,2,0,1,2]]
def l3r29:List AOper :=
  [.mk (some 109) (.mv (.tmp 17)) none [],.mk (some 110) (.bin .lss (.tmp 109) (.const (.int .i64 0))) none [0]]
def l3r30:List AOper :=
  [.mk (some 8) (.mv (.const (.bool false))) none []]
def l3r31:List AOper :=
  [.mk (some 111) (.mv (.tmp 17)) none [],.mk (some 112) (.mv (.tmp 16)) none [],.mk (some 113) (.bin .neq (.tmp 111) (.tmp 112)) none [0,1]]
def l3r32:List AOper :=
  [.mk (some 8) (.mv (.const (.bool false))) none []]
def l3r33:List AOper :=
  [.mk (some 8) (.mv (.const (.bool true))) none []]
def l3:AFn :=
  (AFn.mk 114 4 (.seq (.reg l3r0) (.seq (.reg l3r1) (.seq (.reg l3r2) (.seq (.seq (.reg l3r3) (.cond (.tmp 24) (.seq (.reg l3r4) .ret) .skip)) (.seq (.draw l3r5) (.seq (.reg l3r6) (.seq (.draw l3r7) (.seq (.seq (.reg l3r8) (.cond (.tmp 54) (.seq (.reg l3r9) .ret) .skip)) (.seq (.seq (.draw l3r10) (.cond (.tmp 59) (.seq (.reg l3r11) .ret) .skip)) (.seq (.reg l3r12) (.seq (.reg l3r13) (.seq (.seq (.reg l3r14) (.cond (.tmp 75) (.seq (.reg l3r15) .ret) .skip)) (.seq (.reg l3r16) (.seq (.reg l3r17) (.seq (.reg l3r18) (.seq (.reg l3r19) (.seq (.seq (.reg l3r20) (.cond (.tmp 83) (.seq (.reg l3r21) .ret) .skip)) (.seq (.seq (.reg l3r22) (.cond (.tmp 86) (.seq (.reg l3r23) .ret) .skip)) (.seq (.draw l3r24) (.seq (.seq (.reg l3r25) (.cond (.tmp 105) (.seq (.reg l3r26) .ret) .skip)) (.seq (.reg l3r27) (.seq (.reg l3r28) (.seq (.seq (.reg l3r29) (.cond (.tmp 110) (.seq (.reg l3r30) .ret) .skip)) (.seq (.seq (.reg l3r31) (.cond (.tmp 113) (.seq (.reg l3r32) .ret) .skip)) (.seq (.reg l3r33) .ret))))))))))))))))))))))))) [.tmp 8])
theorem l3_eq:lowFn Tryz.prog 3=some l3:=by kernel_rfl
def l4r0:List AOper :=
  [.mk (some 2) (.box (.tmp 0)) none [],.mk (some 4) (.mv (.const (.int .i64 0))) none []]
def l4r1:List AOper :=
  [.mk (some 5) (.fld 0 (.tmp 2)) none [],.mk (some 6) (.load false 1 (.tmp 5)) none [0],.mk (some 7) (.mv (.tmp 1)) none [],.mk (some 8) (.call 12 [.tmp 6,.tmp 7]) none [1,2],.mk (some 1) (.mv (.tmp 8)) none [3,3,0,1,2,3]]
def l4r2:List AOper :=
  [.mk (some 9) (.mv (.tmp 1)) none [],.mk (some 10) (.bin .lss (.tmp 9) (.const (.int .i64 0))) none [0]]
def l4r3:List AOper :=
  [.mk (some 4) (.mv (.const (.int .i64 (-1)))) none []]
def l4r4:List AOper :=
  [.mk (some 11) (.fld 1 (.tmp 2)) none [],.mk (some 12) (.load false 1 (.tmp 11)) none [0],.mk (some 13) (.mv (.tmp 1)) none [],.mk (some 14) (.call 13 [.tmp 12,.tmp 13]) none [1,2],.mk (some 1) (.mv (.tmp 14)) none [3,3,0,1,2,3]]
def l4r5:List AOper :=
  [.mk (some 15) (.mv (.tmp 1)) none [],.mk (some 16) (.bin .lss (.tmp 15) (.const (.int .i64 0))) none [0]]
def l4r6:List AOper :=
  [.mk (some 4) (.mv (.const (.int .i64 (-1)))) none []]
def l4r7:List AOper :=
  [.mk (some 17) (.mv (.tmp 1)) none [],.mk (some 4) (.mv (.tmp 17)) none [0,0]]
def l4:AFn :=
  (AFn.mk 18 2 (.seq (.reg l4r0) (.seq (.reg l4r1) (.seq (.seq (.reg l4r2) (.cond (.tmp 10) (.seq (.reg l4r3) .ret) .skip)) (.seq (.reg l4r4) (.seq (.seq (.reg l4r5) (.cond (.tmp 16) (.seq (.reg l4r6) .ret) .skip)) (.seq (.reg l4r7) .ret)))))) [.tmp 4])
theorem l4_eq:lowFn Tryz.prog 4=some l4:=by kernel_rfl
def l5r0:List AOper :=
  [.mk (some 4) (.box (.tmp 0)) none [],.mk (some 7) (.box (.tmp 3)) none [],.mk (some 8) (.alloc [.slice none 0 0,.slice none 0 0]) none [],.mk (some 9) (.mv (.const (.bool false))) none []]
def l5r1:List AOper :=
  [.mk (some 12) (.load true 2 (.tmp 4)) none [],.mk (some 13) (.call 14 [.tmp 12]) none [0],.mk (some 14) (.un .not (.tmp 13)) none [1],.mk (some 15) (.mv (.tmp 14)) none [2,1],.mk (some 16) (.load true 2 (.tmp 4)) (some (15,false)) [3],.mk (some 17) (.mv (.tmp 1)) (some (15,false)) [3],.mk (some 18) (.call 15 [.tmp 16,.tmp 17]) (some (15,false)) [4,5,3,3],.mk (some 19) (.un .not (.tmp 18)) (some (15,false)) [6,3],.mk (some 20) (.pick (.tmp 15) (.const (.bool true)) (.tmp 19)) none [3,7],.mk (some 21) (.mv (.tmp 20)) none [8,6],.mk (some 22) (.fld 1 (.tmp 4)) (some (21,false)) [9],.mk (some 23) (.load false 1 (.tmp 22)) (some (21,false)) [10,9],.mk (some 24) (.len (.tmp 23)) (some (21,false)) [11,9],.mk (some 25) (.bin .eql (.tmp 24) (.const (.int .i64 8))) (some (21,false)) [12,9],.mk (some 26) (.pick (.tmp 21) (.const (.bool true)) (.tmp 25)) none [9,13]]
def l5r2:List AOper :=
  [.mk (some 27) (.build [.slice none 0 0,.slice none 0 0] []) none [],.mk none (.store 2 (.tmp 8) (.tmp 27)) none [0,0],.mk (some 9) (.mv (.const (.bool false))) none [1,0,1]]
def l5r3a:List AOper :=
  [.mk (some 29) (.fld 1 (.tmp 4)) none [],.mk (some 30) (.load false 1 (.tmp 29)) none [0],.mk (some 31) (.mv (.tmp 1)) none [],.mk (some 32) (.idxA 5 (.tmp 30) (.tmp 31)) none [1,2],.mk (some 33) (.fld 1 (.tmp 32)) none [3],.mk (some 34) (.load true 3 (.tmp 33)) none [4],.mk (some 35) (.mv (.tmp 2)) none [],.mk (some 36) (.load true 5 (.tmp 7)) none [],.mk (some 37) (.call 16 [.tmp 34,.tmp 35,.tmp 36]) none [5,6,7],.mk (some 28) (.mv (.tmp 37)) none [8],.mk (some 38) (.extract (.tmp 28) 0) none [9],.mk (some 39) (.extract (.tmp 28) 1) none [9],.mk (some 10) (.alloc [.int .i64 0,.slice none 0 0,.slice none 0 0]) none [],.mk none (.store 3 (.tmp 10) (.tmp 38)) none [12,10,8,0,1,2,3,4,5,6,7,8,9,10,12]]
def l5r3b:List AOper :=
  [.mk (some 11) (.mv (.tmp 39)) none [11,13,0,1,2,3,4,5,6,7,8,9,10,11,12,13]]
def l5r3:List AOper:=l5r3a ++ l5r3b
def l5r4:List AOper :=
  [.mk (some 40) (.mv (.tmp 11)) none [],.mk (some 41) (.un .not (.tmp 40)) none [0]]
def l5r5:List AOper :=
  [.mk (some 42) (.build [.slice none 0 0,.slice none 0 0] []) none [],.mk none (.store 2 (.tmp 8) (.tmp 42)) none [0,0],.mk (some 9) (.mv (.const (.bool false))) none [1,0,1]]
def l5r6:List AOper :=
  [.mk (some 43) (.load true 2 (.tmp 4)) none [],.mk (some 44) (.mv (.tmp 1)) none [],.mk (some 45) (.load true 3 (.tmp 10)) none [],.mk (some 46) (.call 17 [.tmp 43,.tmp 44,.tmp 45]) none [0,1,2],.mk none (.store 2 (.tmp 8) (.tmp 46)) none [3,3,0,1,2,3],.mk (some 9) (.mv (.const (.bool true))) none [4,0,1,2,3,4]]
def l5:AFn :=
  (AFn.mk 47 4 (.seq (.reg l5r0) (.seq (.seq (.reg l5r1) (.cond (.tmp 26) (.seq (.reg l5r2) .ret) .skip)) (.seq (.draw l5r3) (.seq (.seq (.reg l5r4) (.cond (.tmp 41) (.seq (.reg l5r5) .ret) .skip)) (.seq (.reg l5r6) .ret))))) [.cell 8 true 2,.tmp 9])
theorem l5_eq:lowFn Tryz.prog 5=some l5:=by kernel_rfl
def l6r0:List AOper :=
  [.mk (some 1) (.box (.tmp 0)) none [],.mk (some 2) (.alloc [.slice none 0 0,.slice none 0 0]) none []]
def l6r1:List AOper :=
  [.mk (some 3) (.alloc [.slice none 0 0,.slice none 0 0]) none []]
def l6r2:List AOper :=
  [.mk (some 4) (.fld 0 (.tmp 1)) none [],.mk (some 5) (.load false 1 (.tmp 4)) none [0],.mk (some 6) (.call 18 [.tmp 5]) none [1],.mk (some 7) (.fld 0 (.tmp 3)) none [0,1,2],.mk none (.store 1 (.tmp 7) (.tmp 6)) none [3,2,2,0,1,2]]
def l6r3:List AOper :=
  [.mk (some 8) (.fld 1 (.tmp 1)) none [],.mk (some 9) (.load false 1 (.tmp 8)) none [0],.mk (some 10) (.call 19 [.tmp 9]) none [1],.mk (some 11) (.fld 1 (.tmp 3)) none [0,1,2],.mk none (.store 1 (.tmp 11) (.tmp 10)) none [3,2,2,0,1,2]]
def l6r4:List AOper :=
  [.mk (some 12) (.load true 2 (.tmp 3)) none [],.mk none (.store 2 (.tmp 2) (.tmp 12)) none [0,0]]
def l6:AFn :=
  (AFn.mk 13 1 (.seq (.reg l6r0) (.seq (.reg l6r1) (.seq (.reg l6r2) (.seq (.reg l6r3) (.seq (.reg l6r4) .ret))))) [.cell 2 true 2])
theorem l6_eq:lowFn Tryz.prog 6=some l6:=by kernel_rfl
def l7r0:List AOper :=
  [.mk (some 1) (.box (.tmp 0)) none [],.mk (some 2) (.alloc [.int .i64 0,.int .i64 0,.int .i64 0,.bool false,.bool false]) none []]
def l7r1:List AOper :=
  [.mk (some 3) (.alloc [.int .i64 0,.int .i64 0,.int .i64 0,.bool false,.bool false]) none []]
def l7r2:List AOper :=
  [.mk (some 4) (.fld 0 (.tmp 1)) none [],.mk (some 5) (.load false 1 (.tmp 4)) none [0],.mk (some 6) (.fld 0 (.tmp 3)) none [0,1],.mk none (.store 1 (.tmp 6) (.tmp 5)) none [2,1,0,1]]
def l7r3:List AOper :=
  [.mk (some 7) (.fld 1 (.tmp 1)) none [],.mk (some 8) (.load false 1 (.tmp 7)) none [0],.mk (some 9) (.fld 1 (.tmp 3)) none [0,1],.mk none (.store 1 (.tmp 9) (.tmp 8)) none [2,1,0,1]]
def l7r4:List AOper :=
  [.mk (some 10) (.fld 2 (.tmp 1)) none [],.mk (some 11) (.load false 1 (.tmp 10)) none [0],.mk (some 12) (.fld 2 (.tmp 3)) none [0,1],.mk none (.store 1 (.tmp 12) (.tmp 11)) none [2,1,0,1]]
def l7r5:List AOper :=
  [.mk (some 13) (.fld 3 (.tmp 1)) none [],.mk (some 14) (.load false 1 (.tmp 13)) none [0],.mk (some 15) (.fld 3 (.tmp 3)) none [0,1],.mk none (.store 1 (.tmp 15) (.tmp 14)) none [2,1,0,1]]
def l7r6:List AOper :=
  [.mk (some 16) (.fld 4 (.tmp 1)) none [],.mk (some 17) (.load false 1 (.tmp 16)) none [0],.mk (some 18) (.fld 4 (.tmp 3)) none [0,1],.mk none (.store 1 (.tmp 18) (.tmp 17)) none [2,1,0,1]]
def l7r7:List AOper :=
  [.mk (some 19) (.load true 5 (.tmp 3)) none [],.mk none (.store 5 (.tmp 2) (.tmp 19)) none [0,0]]
def l7:AFn :=
  (AFn.mk 20 1 (.seq (.reg l7r0) (.seq (.reg l7r1) (.seq (.reg l7r2) (.seq (.reg l7r3) (.seq (.reg l7r4) (.seq (.reg l7r5) (.seq (.reg l7r6) (.seq (.reg l7r7) .ret)))))))) [.cell 2 true 5])
theorem l7_eq:lowFn Tryz.prog 7=some l7:=by kernel_rfl
def l8r0:List AOper :=
  [.mk (some 4) (.box (.tmp 0)) none [],.mk (some 7) (.box (.tmp 3)) none [],.mk (some 8) (.alloc [.slice none 0 0,.slice none 0 0]) none [],.mk (some 9) (.mv (.const (.bool false))) none []]
def l8r1:List AOper :=
  [.mk (some 12) (.load true 2 (.tmp 4)) none [],.mk (some 13) (.mv (.tmp 1)) none [],.mk (some 14) (.call 20 [.tmp 12,.tmp 13]) none [0,1],.mk (some 15) (.un .not (.tmp 14)) none [2]]
def l8r2:List AOper :=
  [.mk (some 16) (.build [.slice none 0 0,.slice none 0 0] []) none [],.mk none (.store 2 (.tmp 8) (.tmp 16)) none [0,0],.mk (some 9) (.mv (.const (.bool false))) none [1,0,1]]
def l8r3a:List AOper :=
  [.mk (some 18) (.fld 1 (.tmp 4)) none [],.mk (some 19) (.load false 1 (.tmp 18)) none [0],.mk (some 20) (.mv (.tmp 1)) none [],.mk (some 21) (.idxA 5 (.tmp 19) (.tmp 20)) none [1,2],.mk (some 22) (.fld 1 (.tmp 21)) none [3],.mk (some 23) (.load true 3 (.tmp 22)) none [4],.mk (some 24) (.mv (.tmp 2)) none [],.mk (some 25) (.load true 5 (.tmp 7)) none [],.mk (some 26) (.call 21 [.tmp 23,.tmp 24,.tmp 25]) none [5,6,7],.mk (some 17) (.mv (.tmp 26)) none [8],.mk (some 27) (.extract (.tmp 17) 0) none [9],.mk (some 28) (.extract (.tmp 17) 1) none [9],.mk (some 10) (.alloc [.int .i64 0,.slice none 0 0,.slice none 0 0]) none [],.mk none (.store 3 (.tmp 10) (.tmp 27)) none [12,10,8,0,1,2,3,4,5,6,7,8,9,10,12]]
def l8r3b:List AOper :=
  [.mk (some 11) (.mv (.tmp 28)) none [11,13,0,1,2,3,4,5,6,7,8,9,10,11,12,13]]
def l8r3:List AOper:=l8r3a ++ l8r3b
def l8r4:List AOper :=
  [.mk (some 29) (.mv (.tmp 11)) none [],.mk (some 30) (.un .not (.tmp 29)) none [0]]
def l8r5:List AOper :=
  [.mk (some 31) (.build [.slice none 0 0,.slice none 0 0] []) none [],.mk none (.store 2 (.tmp 8) (.tmp 31)) none [0,0],.mk (some 9) (.mv (.const (.bool false))) none [1,0,1]]
def l8r6:List AOper :=
  [.mk (some 32) (.load true 2 (.tmp 4)) none [],.mk (some 33) (.mv (.tmp 1)) none [],.mk (some 34) (.load true 3 (.tmp 10)) none [],.mk (some 35) (.call 22 [.tmp 32,.tmp 33,.tmp 34]) none [0,1,2],.mk (some 36) (.extract (.tmp 35) 0) none [3],.mk (some 37) (.extract (.tmp 35) 1) none [3],.mk none (.store 2 (.tmp 8) (.tmp 36)) none [4,3,0,1,2,3,4,5],.mk (some 9) (.mv (.tmp 37)) none [5,6,0,1,2,3,4,5,6]]
def l8:AFn :=
  (AFn.mk 38 4 (.seq (.reg l8r0) (.seq (.seq (.reg l8r1) (.cond (.tmp 15) (.seq (.reg l8r2) .ret) .skip)) (.seq (.draw l8r3) (.seq (.seq (.reg l8r4) (.cond (.tmp 30) (.seq (.reg l8r5) .ret) .skip)) (.seq (.reg l8r6) .ret))))) [.cell 8 true 2,.tmp 9])
theorem l8_eq:lowFn Tryz.prog 8=some l8:=by kernel_rfl
def l9r0:List AOper :=
  [.mk (some 2) (.box (.tmp 0)) none [],.mk (some 3) (.box (.tmp 1)) none [],.mk (some 4) (.mv (.const (.bool false))) none []]
def l9r1:List AOper :=
  [.mk (some 5) (.fld 0 (.tmp 2)) none [],.mk (some 6) (.load false 1 (.tmp 5)) none [0],.mk (some 7) (.fld 0 (.tmp 3)) none [],.mk (some 8) (.load false 1 (.tmp 7)) none [2],.mk (some 9) (.call 23 [.tmp 6,.tmp 8]) none [1,3],.mk (some 10) (.un .not (.tmp 9)) none [4]]
def l9r2:List AOper :=
  [.mk (some 4) (.mv (.const (.bool false))) none []]
def l9r3:List AOper :=
  [.mk (some 11) (.fld 1 (.tmp 2)) none [],.mk (some 12) (.load false 1 (.tmp 11)) none [0],.mk (some 13) (.fld 1 (.tmp 3)) none [],.mk (some 14) (.load false 1 (.tmp 13)) none [2],.mk (some 15) (.call 24 [.tmp 12,.tmp 14]) none [1,3],.mk (some 16) (.un .not (.tmp 15)) none [4]]
def l9r4:List AOper :=
  [.mk (some 4) (.mv (.const (.bool false))) none []]
def l9r5:List AOper :=
  [.mk (some 4) (.mv (.const (.bool true))) none []]
def l9:AFn :=
  (AFn.mk 17 2 (.seq (.reg l9r0) (.seq (.seq (.reg l9r1) (.cond (.tmp 10) (.seq (.reg l9r2) .ret) .skip)) (.seq (.seq (.reg l9r3) (.cond (.tmp 16) (.seq (.reg l9r4) .ret) .skip)) (.seq (.reg l9r5) .ret)))) [.tmp 4])
theorem l9_eq:lowFn Tryz.prog 9=some l9:=by kernel_rfl
def l10r0:List AOper :=
  [.mk (some 2) (.box (.tmp 0)) none [],.mk (some 4) (.mv (.const (.int .i64 0))) none []]
def l10r1:List AOper :=
  [.mk (some 5) (.fld 0 (.tmp 2)) none [],.mk (some 6) (.load false 1 (.tmp 5)) none [0],.mk (some 7) (.mv (.tmp 1)) none [],.mk (some 8) (.call 25 [.tmp 6,.tmp 7]) none [1,2],.mk (some 1) (.mv (.tmp 8)) none [3,3,0,1,2,3]]
def l10r2:List AOper :=
  [.mk (some 9) (.fld 1 (.tmp 2)) none [],.mk (some 10) (.load false 1 (.tmp 9)) none [0],.mk (some 11) (.mv (.tmp 1)) none [],.mk (some 12) (.call 26 [.tmp 10,.tmp 11]) none [1,2],.mk (some 1) (.mv (.tmp 12)) none [3,3,0,1,2,3]]
def l10r3:List AOper :=
  [.mk (some 13) (.mv (.tmp 1)) none [],.mk (some 4) (.mv (.tmp 13)) none [0,0]]
def l10:AFn :=
  (AFn.mk 14 2 (.seq (.reg l10r0) (.seq (.reg l10r1) (.seq (.reg l10r2) (.seq (.reg l10r3) .ret)))) [.tmp 4])
theorem l10_eq:lowFn Tryz.prog 10=some l10:=by kernel_rfl
def l11r0:List AOper :=
  [.mk (some 2) (.box (.tmp 0)) none [],.mk (some 4) (.mv (.const (.int .i64 0))) none []]
def l11r1:List AOper :=
  [.mk (some 5) (.fld 0 (.tmp 2)) none [],.mk (some 6) (.load false 1 (.tmp 5)) none [0],.mk (some 7) (.mv (.tmp 1)) none [],.mk (some 8) (.call 27 [.tmp 6,.tmp 7]) none [1,2],.mk (some 1) (.mv (.tmp 8)) none [3,3,0,1,2,3]]
def l11r2:List AOper :=
  [.mk (some 9) (.mv (.tmp 1)) none [],.mk (some 10) (.bin .lss (.tmp 9) (.const (.int .i64 0))) none [0]]
def l11r3:List AOper :=
  [.mk (some 4) (.mv (.const (.int .i64 (-1)))) none []]
def l11r4:List AOper :=
  [.mk (some 11) (.fld 1 (.tmp 2)) none [],.mk (some 12) (.load false 1 (.tmp 11)) none [0],.mk (some 13) (.mv (.tmp 1)) none [],.mk (some 14) (.call 28 [.tmp 12,.tmp 13]) none [1,2],.mk (some 1) (.mv (.tmp 14)) none [3,3,0,1,2,3]]
def l11r5:List AOper :=
  [.mk (some 15) (.mv (.tmp 1)) none [],.mk (some 16) (.bin .lss (.tmp 15) (.const (.int .i64 0))) none [0]]
def l11r6:List AOper :=
  [.mk (some 4) (.mv (.const (.int .i64 (-1)))) none []]
def l11r7:List AOper :=
  [.mk (some 17) (.mv (.tmp 1)) none [],.mk (some 4) (.mv (.tmp 17)) none [0,0]]
def l11:AFn :=
  (AFn.mk 18 2 (.seq (.reg l11r0) (.seq (.reg l11r1) (.seq (.seq (.reg l11r2) (.cond (.tmp 10) (.seq (.reg l11r3) .ret) .skip)) (.seq (.reg l11r4) (.seq (.seq (.reg l11r5) (.cond (.tmp 16) (.seq (.reg l11r6) .ret) .skip)) (.seq (.reg l11r7) .ret)))))) [.tmp 4])
theorem l11_eq:lowFn Tryz.prog 11=some l11:=by kernel_rfl
def l12r0:List AOper :=
  [.mk (some 4) (.mv (.const (.int .i64 0))) none []]
def l12r1:List AOper :=
  [.mk (some 5) (.mv (.tmp 1)) none [],.mk (some 6) (.mv (.tmp 0)) none [],.mk (some 7) (.len (.tmp 6)) none [1],.mk (some 8) (.bin .sub (.tmp 5) (.tmp 7)) none [0,2],.mk (some 1) (.mv (.tmp 8)) none [3,0,1,2,3]]
def l12r2:List AOper :=
  [.mk (some 9) (.mv (.tmp 1)) none [],.mk (some 10) (.bin .lss (.tmp 9) (.const (.int .i64 0))) none [0]]
def l12r3:List AOper :=
  [.mk (some 4) (.mv (.const (.int .i64 (-1)))) none []]
def l12r4:List AOper :=
  [.mk (some 11) (.mv (.tmp 1)) none [],.mk (some 4) (.mv (.tmp 11)) none [0,0]]
def l12:AFn :=
  (AFn.mk 12 2 (.seq (.reg l12r0) (.seq (.reg l12r1) (.seq (.seq (.reg l12r2) (.cond (.tmp 10) (.seq (.reg l12r3) .ret) .skip)) (.seq (.reg l12r4) .ret)))) [.tmp 4])
theorem l12_eq:lowFn Tryz.prog 12=some l12:=by kernel_rfl
def l13r0:List AOper :=
  [.mk (some 4) (.mv (.const (.int .i64 0))) none []]
def l13r1:List AOper :=
  [.mk (some 6) (.mv (.tmp 1)) none [],.mk (some 7) (.mv (.tmp 0)) none [],.mk (some 8) (.len (.tmp 7)) none [1],.mk (some 9) (.bin .sub (.tmp 6) (.tmp 8)) none [0,2],.mk (some 1) (.mv (.tmp 9)) none [3,0,1,2,3]]
def l13r2:List AOper :=
  [.mk (some 10) (.mv (.tmp 1)) none [],.mk (some 11) (.bin .lss (.tmp 10) (.const (.int .i64 0))) none [0]]
def l13r3:List AOper :=
  [.mk (some 4) (.mv (.const (.int .i64 (-1)))) none []]
def l13r4:List AOper :=
  [.mk (some 5) (.mv (.const (.int .i64 0))) none []]
def l13r5:List AOper :=
  [.mk (some 12) (.mv (.tmp 5)) none [],.mk (some 13) (.mv (.tmp 0)) none [],.mk (some 14) (.len (.tmp 13)) none [1],.mk (some 15) (.bin .lss (.tmp 12) (.tmp 14)) none [0,2]]
def l13r6:List AOper :=
  [.mk (some 18) (.mv (.tmp 0)) none [],.mk (some 19) (.mv (.tmp 5)) none [],.mk (some 20) (.idxA 5 (.tmp 18) (.tmp 19)) none [0,1],.mk (some 21) (.load true 5 (.tmp 20)) none [2],.mk (some 22) (.mv (.tmp 1)) none [],.mk (some 23) (.call 29 [.tmp 21,.tmp 22]) none [3,4],.mk (some 1) (.mv (.tmp 23)) none [5,5,0,1,2,3,4,5]]
def l13r7:List AOper :=
  [.mk (some 24) (.mv (.tmp 1)) none [],.mk (some 25) (.bin .lss (.tmp 24) (.const (.int .i64 0))) none [0]]
def l13r8:List AOper :=
  [.mk (some 4) (.mv (.const (.int .i64 (-1)))) none []]
def l13r9:List AOper :=
  [.mk (some 16) (.mv (.tmp 5)) none [],.mk (some 17) (.bin .add (.tmp 16) (.const (.int .i64 1))) none [0],.mk (some 5) (.mv (.tmp 17)) none [1,0,1]]
def l13r10:List AOper :=
  [.mk (some 26) (.mv (.tmp 1)) none [],.mk (some 4) (.mv (.tmp 26)) none [0,0]]
def l13:AFn :=
  (AFn.mk 27 2 (.seq (.reg l13r0) (.seq (.reg l13r1) (.seq (.seq (.reg l13r2) (.cond (.tmp 11) (.seq (.reg l13r3) .ret) .skip)) (.seq (.seq (.reg l13r4) (.block 0 (.loop (.seq (.seq (.reg l13r5) (.cond (.tmp 15) .skip (.exit 0))) (.seq (.block 1 (.seq (.reg l13r6) (.seq (.reg l13r7) (.cond (.tmp 25) (.seq (.reg l13r8) .ret) .skip)))) (.reg l13r9)))))) (.seq (.reg l13r10) .ret))))) [.tmp 4])
theorem l13_eq:lowFn Tryz.prog 13=some l13:=by kernel_rfl
def l14r0:List AOper :=
  [.mk (some 1) (.box (.tmp 0)) none [],.mk (some 2) (.mv (.const (.bool false))) none []]
def l14r1:List AOper :=
  [.mk (some 3) (.mv (.const (.int .i64 0))) none []]
def l14r2:List AOper :=
  [.mk (some 4) (.mv (.tmp 3)) none [],.mk (some 5) (.fld 1 (.tmp 1)) none [],.mk (some 6) (.load false 1 (.tmp 5)) none [1],.mk (some 7) (.len (.tmp 6)) none [2],.mk (some 8) (.bin .lss (.tmp 4) (.tmp 7)) none [0,3]]
def l14r3:List AOper :=
  [.mk (some 11) (.load true 2 (.tmp 1)) none [],.mk (some 12) (.mv (.tmp 3)) none [],.mk (some 13) (.call 30 [.tmp 11,.tmp 12]) none [0,1],.mk (some 14) (.un .not (.tmp 13)) none [2]]
def l14r4:List AOper :=
  [.mk (some 2) (.mv (.const (.bool false))) none []]
def l14r5:List AOper :=
  [.mk (some 9) (.mv (.tmp 3)) none [],.mk (some 10) (.bin .add (.tmp 9) (.const (.int .i64 1))) none [0],.mk (some 3) (.mv (.tmp 10)) none [1,0,1]]
def l14r6:List AOper :=
  [.mk (some 15) (.fld 0 (.tmp 1)) none [],.mk (some 16) (.load false 1 (.tmp 15)) none [0],.mk (some 17) (.call 31 [.tmp 16]) none [1],.mk (some 18) (.mv (.tmp 17)) none [2,2],.mk (some 19) (.fld 1 (.tmp 1)) (some (18,true)) [3],.mk (some 20) (.load false 1 (.tmp 19)) (some (18,true)) [4,3],.mk (some 21) (.len (.tmp 20)) (some (18,true)) [5,3],.mk (some 22) (.bin .leq (.tmp 21) (.const (.int .i64 8))) (some (18,true)) [6,3],.mk (some 23) (.pick (.tmp 18) (.tmp 22) (.const (.bool false))) none [3,7],.mk (some 2) (.mv (.tmp 23)) none [8,3,0,1,2,3,4,5,6,7,8]]
def l14:AFn :=
  (AFn.mk 24 1 (.seq (.reg l14r0) (.seq (.seq (.reg l14r1) (.block 0 (.loop (.seq (.seq (.reg l14r2) (.cond (.tmp 8) .skip (.exit 0))) (.seq (.block 1 (.seq (.reg l14r3) (.cond (.tmp 14) (.seq (.reg l14r4) .ret) .skip))) (.reg l14r5)))))) (.seq (.reg l14r6) .ret))) [.tmp 2])
theorem l14_eq:lowFn Tryz.prog 14=some l14:=by kernel_rfl
def l15r0:List AOper :=
  [.mk (some 2) (.box (.tmp 0)) none [],.mk (some 4) (.mv (.const (.bool false))) none []]
def l15r1:List AOper :=
  [.mk (some 5) (.mv (.tmp 1)) none [],.mk (some 6) (.fld 1 (.tmp 2)) none [],.mk (some 7) (.load false 1 (.tmp 6)) none [1],.mk (some 8) (.len (.tmp 7)) none [2],.mk (some 9) (.bin .sub (.tmp 8) (.const (.int .i64 1))) none [3],.mk (some 10) (.call 32 [.tmp 5,.const (.int .i64 0),.tmp 9]) none [0,4],.mk (some 11) (.mv (.tmp 10)) none [5,5],.mk (some 12) (.fld 1 (.tmp 2)) (some (11,true)) [6],.mk (some 13) (.load false 1 (.tmp 12)) (some (11,true)) [7,6],.mk (some 14) (.mv (.tmp 1)) (some (11,true)) [6],.mk (some 15) (.idxA 5 (.tmp 13) (.tmp 14)) (some (11,true)) [8,9,6],.mk (some 16) (.fld 4 (.tmp 15)) (some (11,true)) [10,6],.mk (some 17) (.load false 1 (.tmp 16)) (some (11,true)) [11,6],.mk (some 18) (.pick (.tmp 11) (.tmp 17) (.const (.bool false))) none [6,12],.mk (some 4) (.mv (.tmp 18)) none [13,6,0,1,2,3,4,5,6,7,8,9,10,11,12,13]]
def l15:AFn :=
  (AFn.mk 19 2 (.seq (.reg l15r0) (.seq (.reg l15r1) .ret)) [.tmp 4])
theorem l15_eq:lowFn Tryz.prog 15=some l15:=by kernel_rfl
def l16r0:List AOper :=
  [.mk (some 3) (.box (.tmp 0)) none [],.mk (some 5) (.box (.tmp 2)) none [],.mk (some 6) (.alloc [.int .i64 0,.slice none 0 0,.slice none 0 0]) none [],.mk (some 7) (.mv (.const (.bool false))) none []]
def l16r1:List AOper :=
  [.mk (some 8) (.load true 3 (.tmp 3)) none [],.mk (some 9) (.call 33 [.tmp 8]) none [0],.mk (some 10) (.un .not (.tmp 9)) none [1],.mk (some 11) (.mv (.tmp 10)) none [2,1],.mk (some 12) (.load true 3 (.tmp 3)) (some (11,false)) [3],.mk (some 13) (.mv (.tmp 1)) (some (11,false)) [3],.mk (some 14) (.call 34 [.tmp 12,.tmp 13]) (some (11,false)) [4,5,3,3],.mk (some 15) (.un .not (.tmp 14)) (some (11,false)) [6,3],.mk (some 16) (.pick (.tmp 11) (.const (.bool true)) (.tmp 15)) none [3,7],.mk (some 17) (.mv (.tmp 16)) none [8,6],.mk (some 18) (.load true 5 (.tmp 5)) (some (17,false)) [9],.mk (some 19) (.call 35 [.tmp 18]) (some (17,false)) [10,9,9],.mk (some 20) (.un .not (.tmp 19)) (some (17,false)) [11,9],.mk (some 21) (.pick (.tmp 17) (.const (.bool true)) (.tmp 20)) none [9,12]]
def l16r2:List AOper :=
  [.mk (some 22) (.build [.int .i64 0,.slice none 0 0,.slice none 0 0] []) none [],.mk none (.store 3 (.tmp 6) (.tmp 22)) none [0,0],.mk (some 7) (.mv (.const (.bool false))) none [1,0,1]]
def l16r3:List AOper :=
  [.mk (some 23) (.load true 3 (.tmp 3)) none [],.mk (some 24) (.mv (.tmp 1)) none [],.mk (some 25) (.load true 5 (.tmp 5)) none [],.mk (some 26) (.call 37 [.tmp 23,.tmp 24,.tmp 25]) none [0,1,2],.mk (some 27) (.call 36 [.tmp 26]) none [3,3],.mk (some 28) (.extract (.tmp 27) 0) none [4],.mk (some 29) (.extract (.tmp 27) 1) none [4],.mk none (.store 3 (.tmp 6) (.tmp 28)) none [5,4,0,1,2,3,4,5,6],.mk (some 7) (.mv (.tmp 29)) none [6,7,0,1,2,3,4,5,6,7]]
def l16:AFn :=
  (AFn.mk 30 3 (.seq (.reg l16r0) (.seq (.seq (.reg l16r1) (.cond (.tmp 21) (.seq (.reg l16r2) .ret) .skip)) (.seq (.reg l16r3) .ret))) [.cell 6 true 3,.tmp 7])
theorem l16_eq:lowFn Tryz.prog 16=some l16:=by kernel_rfl
def l17r0:List AOper :=
  [.mk (some 3) (.box (.tmp 0)) none [],.mk (some 5) (.box (.tmp 2)) none [],.mk (some 6) (.alloc [.slice none 0 0,.slice none 0 0]) none []]
def l17r1:List AOper :=
  [.mk (some 8) (.load true 2 (.tmp 3)) none [],.mk (some 9) (.call 38 [.tmp 8]) none [0],.mk (some 7) (.alloc [.slice none 0 0,.slice none 0 0]) none [],.mk none (.store 2 (.tmp 7) (.tmp 9)) none [2,1,1,0,1,2]]
def l17r2a:List AOper :=
  [.mk (some 10) (.fld 1 (.tmp 7)) none [],.mk (some 11) (.load false 1 (.tmp 10)) none [0],.mk (some 12) (.mv (.tmp 1)) none [],.mk (some 13) (.load true 3 (.tmp 5)) none [],.mk (some 14) (.call 39 [.tmp 13]) none [3],.mk (some 15) (.build [.int .i64 0,.int .i64 0,.slice none 0 0,.slice none 0 0,.bool false] [(0,1,.tmp 12),(1,3,.tmp 14),(4,1,.const (.bool true))]) none [2,4],.mk (some 16) (.bslice 5 [.int .i64 0,.int .i64 0,.slice none 0 0,.slice none 0 0,.bool false] [(0,.tmp 15)] 1) none [5]]
def l17r2b:List AOper :=
  [.mk (some 17) (.append 5 (.tmp 11) (.tmp 16)) none [1,6,4],.mk (some 18) (.fld 1 (.tmp 7)) none [0,1,2,3,4,5,6,7],.mk none (.store 1 (.tmp 18) (.tmp 17)) none [8,7,7,0,1,2,3,4,5,6,7]]
def l17r2:List AOper:=l17r2a ++ l17r2b
def l17r3:List AOper :=
  [.mk (some 19) (.load true 2 (.tmp 7)) none [],.mk none (.store 2 (.tmp 6) (.tmp 19)) none [0,0]]
def l17:AFn :=
  (AFn.mk 20 3 (.seq (.reg l17r0) (.seq (.reg l17r1) (.seq (.draw l17r2) (.seq (.reg l17r3) .ret)))) [.cell 6 true 2])
theorem l17_eq:lowFn Tryz.prog 17=some l17:=by kernel_rfl
def l18r0:List AOper :=
  [.mk (some 2) (.mv (.const (.slice none 0 0))) none []]
def l18r1:List AOper :=
  [.mk (some 5) (.mv (.tmp 0)) none [],.mk (some 6) (.len (.tmp 5)) none [0],.mk (some 7) (.mkslice 1 [.int .i64 0] (.tmp 6) (.tmp 6)) none [1,1],.mk (some 3) (.mv (.tmp 7)) none [2,0,1,2]]
def l18r2:List AOper :=
  [.mk (some 4) (.mv (.const (.int .i64 0))) none []]
def l18r3:List AOper :=
  [.mk (some 8) (.mv (.tmp 4)) none [],.mk (some 9) (.mv (.tmp 0)) none [],.mk (some 10) (.len (.tmp 9)) none [1],.mk (some 11) (.bin .lss (.tmp 8) (.tmp 10)) none [0,2]]
def l18r4:List AOper :=
  [.mk (some 14) (.mv (.tmp 3)) none [],.mk (some 15) (.mv (.tmp 4)) none [],.mk (some 16) (.mv (.tmp 0)) none [],.mk (some 17) (.mv (.tmp 4)) none [],.mk (some 18) (.idxA 1 (.tmp 16) (.tmp 17)) none [2,3],.mk (some 19) (.load false 1 (.tmp 18)) none [4],.mk (some 20) (.idxA 1 (.tmp 14) (.tmp 15)) none [0,1,0,1,2,3,4,5],.mk none (.store 1 (.tmp 20) (.tmp 19)) none [6,5,0,1,2,3,4,5]]
def l18r5:List AOper :=
  [.mk (some 12) (.mv (.tmp 4)) none [],.mk (some 13) (.bin .add (.tmp 12) (.const (.int .i64 1))) none [0],.mk (some 4) (.mv (.tmp 13)) none [1,0,1]]
def l18r6:List AOper :=
  [.mk (some 21) (.mv (.tmp 3)) none [],.mk (some 2) (.mv (.tmp 21)) none [0,0]]
def l18:AFn :=
  (AFn.mk 22 1 (.seq (.reg l18r0) (.seq (.reg l18r1) (.seq (.seq (.reg l18r2) (.block 0 (.loop (.seq (.seq (.reg l18r3) (.cond (.tmp 11) .skip (.exit 0))) (.seq (.block 1 (.reg l18r4)) (.reg l18r5)))))) (.seq (.reg l18r6) .ret)))) [.tmp 2])
theorem l18_eq:lowFn Tryz.prog 18=some l18:=by kernel_rfl
def l19r0:List AOper :=
  [.mk (some 2) (.mv (.const (.slice none 0 0))) none []]
def l19r1:List AOper :=
  [.mk (some 5) (.mv (.tmp 0)) none [],.mk (some 6) (.len (.tmp 5)) none [0],.mk (some 7) (.mkslice 5 [.int .i64 0,.int .i64 0,.slice none 0 0,.slice none 0 0,.bool false] (.tmp 6) (.tmp 6)) none [1,1],.mk (some 3) (.mv (.tmp 7)) none [2,0,1,2]]
def l19r2:List AOper :=
  [.mk (some 4) (.mv (.const (.int .i64 0))) none []]
def l19r3:List AOper :=
  [.mk (some 8) (.mv (.tmp 4)) none [],.mk (some 9) (.mv (.tmp 0)) none [],.mk (some 10) (.len (.tmp 9)) none [1],.mk (some 11) (.bin .lss (.tmp 8) (.tmp 10)) none [0,2]]
def l19r4:List AOper :=
  [.mk (some 14) (.mv (.tmp 3)) none [],.mk (some 15) (.mv (.tmp 4)) none [],.mk (some 16) (.mv (.tmp 0)) none [],.mk (some 17) (.mv (.tmp 4)) none [],.mk (some 18) (.idxA 5 (.tmp 16) (.tmp 17)) none [2,3],.mk (some 19) (.load true 5 (.tmp 18)) none [4],.mk (some 20) (.call 40 [.tmp 19]) none [5],.mk (some 21) (.idxA 5 (.tmp 14) (.tmp 15)) none [0,1,0,1,2,3,4,5,6],.mk none (.store 5 (.tmp 21) (.tmp 20)) none [7,6,6,0,1,2,3,4,5,6]]
def l19r5:List AOper :=
  [.mk (some 12) (.mv (.tmp 4)) none [],.mk (some 13) (.bin .add (.tmp 12) (.const (.int .i64 1))) none [0],.mk (some 4) (.mv (.tmp 13)) none [1,0,1]]
def l19r6:List AOper :=
  [.mk (some 22) (.mv (.tmp 3)) none [],.mk (some 2) (.mv (.tmp 22)) none [0,0]]
def l19:AFn :=
  (AFn.mk 23 1 (.seq (.reg l19r0) (.seq (.reg l19r1) (.seq (.seq (.reg l19r2) (.block 0 (.loop (.seq (.seq (.reg l19r3) (.cond (.tmp 11) .skip (.exit 0))) (.seq (.block 1 (.reg l19r4)) (.reg l19r5)))))) (.seq (.reg l19r6) .ret)))) [.tmp 2])
theorem l19_eq:lowFn Tryz.prog 19=some l19:=by kernel_rfl
def l20r0:List AOper :=
  [.mk (some 2) (.box (.tmp 0)) none [],.mk (some 4) (.mv (.const (.bool false))) none []]
def l20r1:List AOper :=
  [.mk (some 5) (.load true 2 (.tmp 2)) none [],.mk (some 6) (.call 41 [.tmp 5]) none [0],.mk (some 7) (.mv (.tmp 6)) none [1,1],.mk (some 8) (.mv (.tmp 1)) (some (7,true)) [2],.mk (some 9) (.fld 1 (.tmp 2)) (some (7,true)) [2],.mk (some 10) (.load false 1 (.tmp 9)) (some (7,true)) [4,2],.mk (some 11) (.len (.tmp 10)) (some (7,true)) [5,2],.mk (some 12) (.bin .sub (.tmp 11) (.const (.int .i64 1))) (some (7,true)) [6,2],.mk (some 13) (.call 42 [.tmp 8,.tmp 12]) (some (7,true)) [3,7,2,2],.mk (some 14) (.pick (.tmp 7) (.tmp 13) (.const (.bool false))) none [2,8],.mk (some 15) (.mv (.tmp 14)) none [9,8],.mk (some 16) (.fld 1 (.tmp 2)) (some (15,true)) [10],.mk (some 17) (.load false 1 (.tmp 16)) (some (15,true)) [11,10],.mk (some 18) (.mv (.tmp 1)) (some (15,true)) [10],.mk (some 19) (.idxA 5 (.tmp 17) (.tmp 18)) (some (15,true)) [12,13,10],.mk (some 20) (.fld 4 (.tmp 19)) (some (15,true)) [14,10],.mk (some 21) (.load false 1 (.tmp 20)) (some (15,true)) [15,10],.mk (some 22) (.pick (.tmp 15) (.tmp 21) (.const (.bool false))) none [10,16],.mk (some 4) (.mv (.tmp 22)) none [17,10,0,1,2,3,4,5,6,7,8,9,10,11,12,13,14,15,16,17]]
def l20:AFn :=
  (AFn.mk 23 2 (.seq (.reg l20r0) (.seq (.reg l20r1) .ret)) [.tmp 4])
theorem l20_eq:lowFn Tryz.prog 20=some l20:=by kernel_rfl
def l21r0:List AOper :=
  [.mk (some 3) (.box (.tmp 0)) none [],.mk (some 5) (.box (.tmp 2)) none [],.mk (some 6) (.alloc [.int .i64 0,.slice none 0 0,.slice none 0 0]) none [],.mk (some 7) (.mv (.const (.bool false))) none []]
def l21r1:List AOper :=
  [.mk (some 10) (.load true 3 (.tmp 3)) none [],.mk (some 11) (.mv (.tmp 1)) none [],.mk (some 12) (.call 43 [.tmp 10,.tmp 11]) none [0,1],.mk (some 13) (.un .not (.tmp 12)) none [2],.mk (some 14) (.mv (.tmp 13)) none [3,2],.mk (some 15) (.load true 5 (.tmp 5)) (some (14,false)) [4],.mk (some 16) (.call 44 [.tmp 15]) (some (14,false)) [5,4,4],.mk (some 17) (.un .not (.tmp 16)) (some (14,false)) [6,4],.mk (some 18) (.pick (.tmp 14) (.const (.bool true)) (.tmp 17)) none [4,7]]
def l21r2:List AOper :=
  [.mk (some 19) (.build [.int .i64 0,.slice none 0 0,.slice none 0 0] []) none [],.mk none (.store 3 (.tmp 6) (.tmp 19)) none [0,0],.mk (some 7) (.mv (.const (.bool false))) none [1,0,1]]
def l21r3a:List AOper :=
  [.mk (some 20) (.load true 5 (.tmp 5)) none [],.mk (some 21) (.fld 1 (.tmp 3)) none [],.mk (some 22) (.load false 1 (.tmp 21)) none [1],.mk (some 23) (.mv (.tmp 1)) none [],.mk (some 24) (.idxA 1 (.tmp 22) (.tmp 23)) none [2,3],.mk (some 25) (.load false 1 (.tmp 24)) none [4],.mk (some 26) (.call 45 [.tmp 20,.tmp 25]) none [0,5],.mk (some 8) (.alloc [.int .i64 0,.int .i64 0,.int .i64 0]) none []]
def l21r3b:List AOper :=
  [.mk none (.store 3 (.tmp 8) (.tmp 26)) none [7,6,6,0,1,2,3,4,5,6,7]]
def l21r3:List AOper:=l21r3a ++ l21r3b
def l21r4:List AOper :=
  [.mk (some 27) (.load true 3 (.tmp 3)) none [],.mk (some 28) (.call 46 [.tmp 27]) none [0],.mk (some 9) (.alloc [.int .i64 0,.slice none 0 0,.slice none 0 0,.int .i64 0,.int .i64 0,.int .i64 0,.int .i64 0,.slice none 0 0]) none [],.mk none (.store 8 (.tmp 9) (.tmp 28)) none [2,1,1,0,1,2]]
def l21r5:List AOper :=
  [.mk (some 29) (.mv (.tmp 1)) none [],.mk (some 30) (.fld 0 (.tmp 8)) none [],.mk (some 31) (.load false 1 (.tmp 30)) none [1],.mk (some 32) (.fld 3 (.tmp 9)) none [],.mk (some 33) (.idxP 1 4 (.tmp 32) (.tmp 29)) none [3,0,0,1,2],.mk none (.store 1 (.tmp 33) (.tmp 31)) none [4,2,0,1,2]]
def l21r6a:List AOper :=
  [.mk (some 34) (.fld 7 (.tmp 9)) none [],.mk (some 35) (.load false 1 (.tmp 34)) none [0],.mk (some 36) (.mv (.tmp 1)) none [],.mk (some 37) (.load true 3 (.tmp 8)) none [],.mk (some 38) (.call 48 [.tmp 37]) none [3],.mk (some 39) (.fld 2 (.tmp 3)) none [],.mk (some 40) (.load false 1 (.tmp 39)) none [5],.mk (some 41) (.mv (.tmp 1)) none [],.mk (some 42) (.idxA 1 (.tmp 40) (.tmp 41)) none [6,7],.mk (some 43) (.load false 1 (.tmp 42)) none [8],.mk (some 44) (.fld 2 (.tmp 8)) none [],.mk (some 45) (.load false 1 (.tmp 44)) none [10],.mk (some 46) (.bin .mul (.tmp 43) (.tmp 45)) none [9,11],.mk (some 47) (.call 47 [.tmp 38,.tmp 46]) none [4,12,4]]
def l21r6b:List AOper :=
  [.mk (some 48) (.idxA 2 (.tmp 35) (.tmp 36)) none [1,2,0,1,2,3,4,5,6,7,8,9,10,11,12,13],.mk none (.store 2 (.tmp 48) (.tmp 47)) none [14,13,13,0,1,2,3,4,5,6,7,8,9,10,11,12,13]]
def l21r6:List AOper:=l21r6a ++ l21r6b
def l21r7:List AOper :=
  [.mk (some 49) (.load true 8 (.tmp 9)) none [],.mk (some 50) (.call 49 [.tmp 49]) none [0],.mk none (.store 3 (.tmp 6) (.tmp 50)) none [1,1,0,1],.mk (some 7) (.mv (.const (.bool true))) none [2,0,1,2]]
def l21:AFn :=
  (AFn.mk 51 3 (.seq (.reg l21r0) (.seq (.seq (.reg l21r1) (.cond (.tmp 18) (.seq (.reg l21r2) .ret) .skip)) (.seq (.draw l21r3) (.seq (.reg l21r4) (.seq (.reg l21r5) (.seq (.draw l21r6) (.seq (.reg l21r7) .ret))))))) [.cell 6 true 3,.tmp 7])
theorem l21_eq:lowFn Tryz.prog 21=some l21:=by kernel_rfl
def l22r0:List AOper :=
  [.mk (some 3) (.box (.tmp 0)) none [],.mk (some 5) (.box (.tmp 2)) none [],.mk (some 6) (.alloc [.slice none 0 0,.slice none 0 0]) none [],.mk (some 7) (.mv (.const (.bool false))) none []]
def l22r1:List AOper :=
  [.mk (some 9) (.fld 1 (.tmp 3)) none [],.mk (some 10) (.load false 1 (.tmp 9)) none [0],.mk (some 11) (.len (.tmp 10)) none [1],.mk (some 12) (.bin .eql (.tmp 11) (.const (.int .i64 8))) none [2]]
def l22r2:List AOper :=
  [.mk (some 13) (.build [.slice none 0 0,.slice none 0 0] []) none [],.mk none (.store 2 (.tmp 6) (.tmp 13)) none [0,0],.mk (some 7) (.mv (.const (.bool false))) none [1,0,1]]
def l22r3:List AOper :=
  [.mk (some 14) (.load true 2 (.tmp 3)) none [],.mk (some 15) (.call 50 [.tmp 14]) none [0],.mk (some 8) (.alloc [.slice none 0 0,.slice none 0 0]) none [],.mk none (.store 2 (.tmp 8) (.tmp 15)) none [2,1,1,0,1,2]]
def l22r4a:List AOper :=
  [.mk (some 16) (.fld 1 (.tmp 8)) none [],.mk (some 17) (.load false 1 (.tmp 16)) none [0],.mk (some 18) (.mv (.tmp 1)) none [],.mk (some 19) (.load true 3 (.tmp 5)) none [],.mk (some 20) (.call 51 [.tmp 19]) none [3],.mk (some 21) (.build [.int .i64 0,.int .i64 0,.slice none 0 0,.slice none 0 0,.bool false] [(0,1,.tmp 18),(1,3,.tmp 20),(4,1,.const (.bool true))]) none [2,4],.mk (some 22) (.bslice 5 [.int .i64 0,.int .i64 0,.slice none 0 0,.slice none 0 0,.bool false] [(0,.tmp 21)] 1) none [5]]
def l22r4b:List AOper :=
  [.mk (some 23) (.append 5 (.tmp 17) (.tmp 22)) none [1,6,4],.mk (some 24) (.fld 1 (.tmp 8)) none [0,1,2,3,4,5,6,7],.mk none (.store 1 (.tmp 24) (.tmp 23)) none [8,7,7,0,1,2,3,4,5,6,7]]
def l22r4:List AOper:=l22r4a ++ l22r4b
def l22r5:List AOper :=
  [.mk (some 25) (.load true 2 (.tmp 8)) none [],.mk none (.store 2 (.tmp 6) (.tmp 25)) none [0,0],.mk (some 7) (.mv (.const (.bool true))) none [1,0,1]]
def l22:AFn :=
  (AFn.mk 26 3 (.seq (.reg l22r0) (.seq (.seq (.reg l22r1) (.cond (.tmp 12) (.seq (.reg l22r2) .ret) .skip)) (.seq (.reg l22r3) (.seq (.draw l22r4) (.seq (.reg l22r5) .ret))))) [.cell 6 true 2,.tmp 7])
theorem l22_eq:lowFn Tryz.prog 22=some l22:=by kernel_rfl
def l23r0:List AOper :=
  [.mk (some 4) (.mv (.const (.bool false))) none []]
def l23r1:List AOper :=
  [.mk (some 6) (.mv (.tmp 0)) none [],.mk (some 7) (.len (.tmp 6)) none [0],.mk (some 8) (.mv (.tmp 1)) none [],.mk (some 9) (.len (.tmp 8)) none [2],.mk (some 10) (.bin .neq (.tmp 7) (.tmp 9)) none [1,3]]
def l23r2:List AOper :=
  [.mk (some 4) (.mv (.const (.bool false))) none []]
def l23r3:List AOper :=
  [.mk (some 5) (.mv (.const (.int .i64 0))) none []]
def l23r4:List AOper :=
  [.mk (some 11) (.mv (.tmp 5)) none [],.mk (some 12) (.mv (.tmp 0)) none [],.mk (some 13) (.len (.tmp 12)) none [1],.mk (some 14) (.bin .lss (.tmp 11) (.tmp 13)) none [0,2]]
def l23r5a:List AOper :=
  [.mk (some 17) (.mv (.tmp 0)) none [],.mk (some 18) (.mv (.tmp 5)) none [],.mk (some 19) (.idxA 1 (.tmp 17) (.tmp 18)) none [0,1],.mk (some 20) (.load false 1 (.tmp 19)) none [2],.mk (some 21) (.mv (.tmp 1)) none [],.mk (some 22) (.mv (.tmp 5)) none [],.mk (some 23) (.idxA 1 (.tmp 21) (.tmp 22)) none [4,5],.mk (some 24) (.load false 1 (.tmp 23)) none [6]]
def l23r5b:List AOper :=
  [.mk (some 25) (.bin .neq (.tmp 20) (.tmp 24)) none [3,7]]
def l23r5:List AOper:=l23r5a ++ l23r5b
def l23r6:List AOper :=
  [.mk (some 4) (.mv (.const (.bool false))) none []]
def l23r7:List AOper :=
  [.mk (some 15) (.mv (.tmp 5)) none [],.mk (some 16) (.bin .add (.tmp 15) (.const (.int .i64 1))) none [0],.mk (some 5) (.mv (.tmp 16)) none [1,0,1]]
def l23r8:List AOper :=
  [.mk (some 4) (.mv (.const (.bool true))) none []]
def l23:AFn :=
  (AFn.mk 26 2 (.seq (.reg l23r0) (.seq (.seq (.reg l23r1) (.cond (.tmp 10) (.seq (.reg l23r2) .ret) .skip)) (.seq (.seq (.reg l23r3) (.block 0 (.loop (.seq (.seq (.reg l23r4) (.cond (.tmp 14) .skip (.exit 0))) (.seq (.block 1 (.seq (.draw l23r5) (.cond (.tmp 25) (.seq (.reg l23r6) .ret) .skip))) (.reg l23r7)))))) (.seq (.reg l23r8) .ret)))) [.tmp 4])
theorem l23_eq:lowFn Tryz.prog 23=some l23:=by kernel_rfl
def l24r0:List AOper :=
  [.mk (some 4) (.mv (.const (.bool false))) none []]
def l24r1:List AOper :=
  [.mk (some 6) (.mv (.tmp 0)) none [],.mk (some 7) (.len (.tmp 6)) none [0],.mk (some 8) (.mv (.tmp 1)) none [],.mk (some 9) (.len (.tmp 8)) none [2],.mk (some 10) (.bin .neq (.tmp 7) (.tmp 9)) none [1,3]]
def l24r2:List AOper :=
  [.mk (some 4) (.mv (.const (.bool false))) none []]
def l24r3:List AOper :=
  [.mk (some 5) (.mv (.const (.int .i64 0))) none []]
def l24r4:List AOper :=
  [.mk (some 11) (.mv (.tmp 5)) none [],.mk (some 12) (.mv (.tmp 0)) none [],.mk (some 13) (.len (.tmp 12)) none [1],.mk (some 14) (.bin .lss (.tmp 11) (.tmp 13)) none [0,2]]
def l24r5a:List AOper :=
  [.mk (some 17) (.mv (.tmp 0)) none [],.mk (some 18) (.mv (.tmp 5)) none [],.mk (some 19) (.idxA 5 (.tmp 17) (.tmp 18)) none [0,1],.mk (some 20) (.load true 5 (.tmp 19)) none [2],.mk (some 21) (.mv (.tmp 1)) none [],.mk (some 22) (.mv (.tmp 5)) none [],.mk (some 23) (.idxA 5 (.tmp 21) (.tmp 22)) none [4,5],.mk (some 24) (.load true 5 (.tmp 23)) none [6]]
def l24r5b:List AOper :=
  [.mk (some 25) (.call 52 [.tmp 20,.tmp 24]) none [3,7],.mk (some 26) (.un .not (.tmp 25)) none [8]]
def l24r5:List AOper:=l24r5a ++ l24r5b
def l24r6:List AOper :=
  [.mk (some 4) (.mv (.const (.bool false))) none []]
def l24r7:List AOper :=
  [.mk (some 15) (.mv (.tmp 5)) none [],.mk (some 16) (.bin .add (.tmp 15) (.const (.int .i64 1))) none [0],.mk (some 5) (.mv (.tmp 16)) none [1,0,1]]
def l24r8:List AOper :=
  [.mk (some 4) (.mv (.const (.bool true))) none []]
def l24:AFn :=
  (AFn.mk 27 2 (.seq (.reg l24r0) (.seq (.seq (.reg l24r1) (.cond (.tmp 10) (.seq (.reg l24r2) .ret) .skip)) (.seq (.seq (.reg l24r3) (.block 0 (.loop (.seq (.seq (.reg l24r4) (.cond (.tmp 14) .skip (.exit 0))) (.seq (.block 1 (.seq (.draw l24r5) (.cond (.tmp 26) (.seq (.reg l24r6) .ret) .skip))) (.reg l24r7)))))) (.seq (.reg l24r8) .ret)))) [.tmp 4])
theorem l24_eq:lowFn Tryz.prog 24=some l24:=by kernel_rfl
def l25r0:List AOper :=
  [.mk (some 4) (.mv (.const (.int .i64 0))) none []]
def l25r1:List AOper :=
  [.mk (some 5) (.mv (.const (.int .i64 0))) none []]
def l25r2:List AOper :=
  [.mk (some 6) (.mv (.tmp 5)) none [],.mk (some 7) (.mv (.tmp 0)) none [],.mk (some 8) (.len (.tmp 7)) none [1],.mk (some 9) (.bin .lss (.tmp 6) (.tmp 8)) none [0,2]]
def l25r3:List AOper :=
  [.mk (some 12) (.mv (.tmp 0)) none [],.mk (some 13) (.mv (.tmp 5)) none [],.mk (some 14) (.mv (.tmp 1)) none [],.mk (some 15) (.idxA 1 (.tmp 12) (.tmp 13)) none [0,1,0,1,2],.mk none (.store 1 (.tmp 15) (.tmp 14)) none [3,2,0,1,2]]
def l25r4:List AOper :=
  [.mk (some 16) (.mv (.tmp 1)) none [],.mk (some 17) (.bin .add (.tmp 16) (.const (.int .i64 1))) none [0],.mk (some 1) (.mv (.tmp 17)) none [1,0,1]]
def l25r5:List AOper :=
  [.mk (some 10) (.mv (.tmp 5)) none [],.mk (some 11) (.bin .add (.tmp 10) (.const (.int .i64 1))) none [0],.mk (some 5) (.mv (.tmp 11)) none [1,0,1]]
def l25r6:List AOper :=
  [.mk (some 18) (.mv (.tmp 1)) none [],.mk (some 4) (.mv (.tmp 18)) none [0,0]]
def l25:AFn :=
  (AFn.mk 19 2 (.seq (.reg l25r0) (.seq (.seq (.reg l25r1) (.block 0 (.loop (.seq (.seq (.reg l25r2) (.cond (.tmp 9) .skip (.exit 0))) (.seq (.block 1 (.seq (.reg l25r3) (.reg l25r4))) (.reg l25r5)))))) (.seq (.reg l25r6) .ret))) [.tmp 4])
theorem l25_eq:lowFn Tryz.prog 25=some l25:=by kernel_rfl
def l26r0:List AOper :=
  [.mk (some 4) (.mv (.const (.int .i64 0))) none []]
def l26r1:List AOper :=
  [.mk (some 5) (.mv (.const (.int .i64 0))) none []]
def l26r2:List AOper :=
  [.mk (some 6) (.mv (.tmp 5)) none [],.mk (some 7) (.mv (.tmp 0)) none [],.mk (some 8) (.len (.tmp 7)) none [1],.mk (some 9) (.bin .lss (.tmp 6) (.tmp 8)) none [0,2]]
def l26r3:List AOper :=
  [.mk (some 12) (.mv (.tmp 0)) none [],.mk (some 13) (.mv (.tmp 5)) none [],.mk (some 14) (.mv (.tmp 1)) none [],.mk (some 15) (.idxA 5 (.tmp 12) (.tmp 13)) none [0,1,0,1,2],.mk (some 16) (.fld 0 (.tmp 15)) none [3,0,1,2],.mk none (.store 1 (.tmp 16) (.tmp 14)) none [4,2,0,1,2]]
def l26r4:List AOper :=
  [.mk (some 17) (.mv (.tmp 1)) none [],.mk (some 18) (.bin .add (.tmp 17) (.const (.int .i64 1))) none [0],.mk (some 1) (.mv (.tmp 18)) none [1,0,1]]
def l26r5:List AOper :=
  [.mk (some 19) (.mv (.tmp 0)) none [],.mk (some 20) (.mv (.tmp 5)) none [],.mk (some 21) (.mv (.tmp 1)) none [],.mk (some 22) (.idxA 5 (.tmp 19) (.tmp 20)) none [0,1,0,1,2],.mk (some 23) (.fld 1 (.tmp 22)) none [3,0,1,2],.mk (some 24) (.fld 0 (.tmp 23)) none [4,0,1,2],.mk none (.store 1 (.tmp 24) (.tmp 21)) none [5,2,0,1,2]]
def l26r6:List AOper :=
  [.mk (some 25) (.mv (.tmp 1)) none [],.mk (some 26) (.bin .add (.tmp 25) (.const (.int .i64 1))) none [0],.mk (some 1) (.mv (.tmp 26)) none [1,0,1]]
def l26r7:List AOper :=
  [.mk (some 27) (.mv (.tmp 0)) none [],.mk (some 28) (.mv (.tmp 5)) none [],.mk (some 29) (.idxA 5 (.tmp 27) (.tmp 28)) none [0,1],.mk (some 30) (.fld 1 (.tmp 29)) none [2],.mk (some 31) (.fld 1 (.tmp 30)) none [3],.mk (some 32) (.load false 1 (.tmp 31)) none [4],.mk (some 33) (.mv (.tmp 1)) none [],.mk (some 34) (.call 25 [.tmp 32,.tmp 33]) none [5,6],.mk (some 1) (.mv (.tmp 34)) none [7,7,0,1,2,3,4,5,6,7]]
def l26r8:List AOper :=
  [.mk (some 35) (.mv (.tmp 0)) none [],.mk (some 36) (.mv (.tmp 5)) none [],.mk (some 37) (.idxA 5 (.tmp 35) (.tmp 36)) none [0,1],.mk (some 38) (.fld 1 (.tmp 37)) none [2],.mk (some 39) (.fld 2 (.tmp 38)) none [3],.mk (some 40) (.load false 1 (.tmp 39)) none [4],.mk (some 41) (.mv (.tmp 1)) none [],.mk (some 42) (.call 25 [.tmp 40,.tmp 41]) none [5,6],.mk (some 1) (.mv (.tmp 42)) none [7,7,0,1,2,3,4,5,6,7]]
def l26r9:List AOper :=
  [.mk (some 43) (.mv (.tmp 0)) none [],.mk (some 44) (.mv (.tmp 5)) none [],.mk (some 45) (.mv (.tmp 1)) none [],.mk (some 46) (.bin .rem (.tmp 45) (.const (.int .i64 3))) none [2],.mk (some 47) (.bin .eql (.tmp 46) (.const (.int .i64 0))) none [3],.mk (some 48) (.idxA 5 (.tmp 43) (.tmp 44)) none [0,1,0,1,2,3,4],.mk (some 49) (.fld 4 (.tmp 48)) none [5,0,1,2,3,4],.mk none (.store 1 (.tmp 49) (.tmp 47)) none [6,4,0,1,2,3,4]]
def l26r10:List AOper :=
  [.mk (some 50) (.mv (.tmp 1)) none [],.mk (some 51) (.bin .add (.tmp 50) (.const (.int .i64 1))) none [0],.mk (some 1) (.mv (.tmp 51)) none [1,0,1]]
def l26r11:List AOper :=
  [.mk (some 10) (.mv (.tmp 5)) none [],.mk (some 11) (.bin .add (.tmp 10) (.const (.int .i64 1))) none [0],.mk (some 5) (.mv (.tmp 11)) none [1,0,1]]
def l26r12:List AOper :=
  [.mk (some 52) (.mv (.tmp 1)) none [],.mk (some 4) (.mv (.tmp 52)) none [0,0]]
def l26:AFn :=
  (AFn.mk 53 2 (.seq (.reg l26r0) (.seq (.seq (.reg l26r1) (.block 0 (.loop (.seq (.seq (.reg l26r2) (.cond (.tmp 9) .skip (.exit 0))) (.seq (.block 1 (.seq (.reg l26r3) (.seq (.reg l26r4) (.seq (.reg l26r5) (.seq (.reg l26r6) (.seq (.reg l26r7) (.seq (.reg l26r8) (.seq (.reg l26r9) (.reg l26r10))))))))) (.reg l26r11)))))) (.seq (.reg l26r12) .ret))) [.tmp 4])
theorem l26_eq:lowFn Tryz.prog 26=some l26:=by kernel_rfl
def l27r0:List AOper :=
  [.mk (some 4) (.mv (.const (.int .i64 0))) none []]
def l27r1:List AOper :=
  [.mk (some 5) (.mv (.const (.int .i64 0))) none []]
def l27r2:List AOper :=
  [.mk (some 6) (.mv (.tmp 5)) none [],.mk (some 7) (.mv (.tmp 0)) none [],.mk (some 8) (.len (.tmp 7)) none [1],.mk (some 9) (.bin .lss (.tmp 6) (.tmp 8)) none [0,2]]
def l27r3:List AOper :=
  [.mk (some 12) (.mv (.tmp 0)) none [],.mk (some 13) (.mv (.tmp 5)) none [],.mk (some 14) (.idxA 1 (.tmp 12) (.tmp 13)) none [0,1],.mk (some 15) (.load false 1 (.tmp 14)) none [2],.mk (some 16) (.mv (.tmp 1)) none [],.mk (some 17) (.bin .neq (.tmp 15) (.tmp 16)) none [3,4]]
def l27r4:List AOper :=
  [.mk (some 4) (.mv (.const (.int .i64 (-1)))) none []]
def l27r5:List AOper :=
  [.mk (some 18) (.mv (.tmp 1)) none [],.mk (some 19) (.bin .add (.tmp 18) (.const (.int .i64 1))) none [0],.mk (some 1) (.mv (.tmp 19)) none [1,0,1]]
def l27r6:List AOper :=
  [.mk (some 10) (.mv (.tmp 5)) none [],.mk (some 11) (.bin .add (.tmp 10) (.const (.int .i64 1))) none [0],.mk (some 5) (.mv (.tmp 11)) none [1,0,1]]
def l27r7:List AOper :=
  [.mk (some 20) (.mv (.tmp 1)) none [],.mk (some 4) (.mv (.tmp 20)) none [0,0]]
def l27:AFn :=
  (AFn.mk 21 2 (.seq (.reg l27r0) (.seq (.seq (.reg l27r1) (.block 0 (.loop (.seq (.seq (.reg l27r2) (.cond (.tmp 9) .skip (.exit 0))) (.seq (.block 1 (.seq (.seq (.reg l27r3) (.cond (.tmp 17) (.seq (.reg l27r4) .ret) .skip)) (.reg l27r5))) (.reg l27r6)))))) (.seq (.reg l27r7) .ret))) [.tmp 4])
theorem l27_eq:lowFn Tryz.prog 27=some l27:=by kernel_rfl
def l28r0:List AOper :=
  [.mk (some 4) (.mv (.const (.int .i64 0))) none []]
def l28r1:List AOper :=
  [.mk (some 5) (.mv (.const (.int .i64 0))) none []]
def l28r2:List AOper :=
  [.mk (some 6) (.mv (.tmp 5)) none [],.mk (some 7) (.mv (.tmp 0)) none [],.mk (some 8) (.len (.tmp 7)) none [1],.mk (some 9) (.bin .lss (.tmp 6) (.tmp 8)) none [0,2]]
def l28r3:List AOper :=
  [.mk (some 12) (.mv (.tmp 0)) none [],.mk (some 13) (.mv (.tmp 5)) none [],.mk (some 14) (.idxA 5 (.tmp 12) (.tmp 13)) none [0,1],.mk (some 15) (.fld 0 (.tmp 14)) none [2],.mk (some 16) (.load false 1 (.tmp 15)) none [3],.mk (some 17) (.mv (.tmp 1)) none [],.mk (some 18) (.bin .neq (.tmp 16) (.tmp 17)) none [4,5]]
def l28r4:List AOper :=
  [.mk (some 4) (.mv (.const (.int .i64 (-1)))) none []]
def l28r5:List AOper :=
  [.mk (some 19) (.mv (.tmp 1)) none [],.mk (some 20) (.bin .add (.tmp 19) (.const (.int .i64 1))) none [0],.mk (some 1) (.mv (.tmp 20)) none [1,0,1]]
def l28r6:List AOper :=
  [.mk (some 21) (.mv (.tmp 0)) none [],.mk (some 22) (.mv (.tmp 5)) none [],.mk (some 23) (.idxA 5 (.tmp 21) (.tmp 22)) none [0,1],.mk (some 24) (.fld 1 (.tmp 23)) none [2],.mk (some 25) (.fld 0 (.tmp 24)) none [3],.mk (some 26) (.load false 1 (.tmp 25)) none [4],.mk (some 27) (.mv (.tmp 1)) none [],.mk (some 28) (.bin .neq (.tmp 26) (.tmp 27)) none [5,6]]
def l28r7:List AOper :=
  [.mk (some 4) (.mv (.const (.int .i64 (-1)))) none []]
def l28r8:List AOper :=
  [.mk (some 29) (.mv (.tmp 1)) none [],.mk (some 30) (.bin .add (.tmp 29) (.const (.int .i64 1))) none [0],.mk (some 1) (.mv (.tmp 30)) none [1,0,1]]
def l28r9:List AOper :=
  [.mk (some 31) (.mv (.tmp 0)) none [],.mk (some 32) (.mv (.tmp 5)) none [],.mk (some 33) (.idxA 5 (.tmp 31) (.tmp 32)) none [0,1],.mk (some 34) (.fld 1 (.tmp 33)) none [2],.mk (some 35) (.fld 1 (.tmp 34)) none [3],.mk (some 36) (.load false 1 (.tmp 35)) none [4],.mk (some 37) (.mv (.tmp 1)) none [],.mk (some 38) (.call 27 [.tmp 36,.tmp 37]) none [5,6],.mk (some 1) (.mv (.tmp 38)) none [7,7,0,1,2,3,4,5,6,7]]
def l28r10:List AOper :=
  [.mk (some 39) (.mv (.tmp 1)) none [],.mk (some 40) (.bin .lss (.tmp 39) (.const (.int .i64 0))) none [0]]
def l28r11:List AOper :=
  [.mk (some 4) (.mv (.const (.int .i64 (-1)))) none []]
def l28r12:List AOper :=
  [.mk (some 41) (.mv (.tmp 0)) none [],.mk (some 42) (.mv (.tmp 5)) none [],.mk (some 43) (.idxA 5 (.tmp 41) (.tmp 42)) none [0,1],.mk (some 44) (.fld 1 (.tmp 43)) none [2],.mk (some 45) (.fld 2 (.tmp 44)) none [3],.mk (some 46) (.load false 1 (.tmp 45)) none [4],.mk (some 47) (.mv (.tmp 1)) none [],.mk (some 48) (.call 27 [.tmp 46,.tmp 47]) none [5,6],.mk (some 1) (.mv (.tmp 48)) none [7,7,0,1,2,3,4,5,6,7]]
def l28r13:List AOper :=
  [.mk (some 49) (.mv (.tmp 1)) none [],.mk (some 50) (.bin .lss (.tmp 49) (.const (.int .i64 0))) none [0]]
def l28r14:List AOper :=
  [.mk (some 4) (.mv (.const (.int .i64 (-1)))) none []]
def l28r15:List AOper :=
  [.mk (some 51) (.mv (.tmp 0)) none [],.mk (some 52) (.mv (.tmp 5)) none [],.mk (some 53) (.idxA 5 (.tmp 51) (.tmp 52)) none [0,1],.mk (some 54) (.fld 4 (.tmp 53)) none [2],.mk (some 55) (.load false 1 (.tmp 54)) none [3],.mk (some 56) (.mv (.tmp 1)) none [],.mk (some 57) (.bin .rem (.tmp 56) (.const (.int .i64 3))) none [5],.mk (some 58) (.bin .eql (.tmp 57) (.const (.int .i64 0))) none [6],.mk (some 59) (.binB .neq (.tmp 55) (.tmp 58)) none [4,7]]
def l28r16:List AOper :=
  [.mk (some 4) (.mv (.const (.int .i64 (-1)))) none []]
def l28r17:List AOper :=
  [.mk (some 60) (.mv (.tmp 1)) none [],.mk (some 61) (.bin .add (.tmp 60) (.const (.int .i64 1))) none [0],.mk (some 1) (.mv (.tmp 61)) none [1,0,1]]
def l28r18:List AOper :=
  [.mk (some 10) (.mv (.tmp 5)) none [],.mk (some 11) (.bin .add (.tmp 10) (.const (.int .i64 1))) none [0],.mk (some 5) (.mv (.tmp 11)) none [1,0,1]]
def l28r19:List AOper :=
  [.mk (some 62) (.mv (.tmp 1)) none [],.mk (some 4) (.mv (.tmp 62)) none [0,0]]
def l28:AFn :=
  (AFn.mk 63 2 (.seq (.reg l28r0) (.seq (.seq (.reg l28r1) (.block 0 (.loop (.seq (.seq (.reg l28r2) (.cond (.tmp 9) .skip (.exit 0))) (.seq (.block 1 (.seq (.seq (.reg l28r3) (.cond (.tmp 18) (.seq (.reg l28r4) .ret) .skip)) (.seq (.reg l28r5) (.seq (.seq (.reg l28r6) (.cond (.tmp 28) (.seq (.reg l28r7) .ret) .skip)) (.seq (.reg l28r8) (.seq (.reg l28r9) (.seq (.seq (.reg l28r10) (.cond (.tmp 40) (.seq (.reg l28r11) .ret) .skip)) (.seq (.reg l28r12) (.seq (.seq (.reg l28r13) (.cond (.tmp 50) (.seq (.reg l28r14) .ret) .skip)) (.seq (.seq (.reg l28r15) (.cond (.tmp 59) (.seq (.reg l28r16) .ret) .skip)) (.reg l28r17))))))))))) (.reg l28r18)))))) (.seq (.reg l28r19) .ret))) [.tmp 4])
theorem l28_eq:lowFn Tryz.prog 28=some l28:=by kernel_rfl
def l29r0:List AOper :=
  [.mk (some 2) (.box (.tmp 0)) none [],.mk (some 4) (.mv (.const (.int .i64 0))) none []]
def l29r1:List AOper :=
  [.mk (some 5) (.fld 1 (.tmp 2)) none [],.mk (some 6) (.load true 3 (.tmp 5)) none [0],.mk (some 7) (.mv (.tmp 1)) none [],.mk (some 8) (.call 53 [.tmp 6,.tmp 7]) none [1,2],.mk (some 1) (.mv (.tmp 8)) none [3,3,0,1,2,3]]
def l29r2:List AOper :=
  [.mk (some 9) (.mv (.tmp 1)) none [],.mk (some 10) (.bin .lss (.tmp 9) (.const (.int .i64 0))) none [0]]
def l29r3:List AOper :=
  [.mk (some 4) (.mv (.const (.int .i64 (-1)))) none []]
def l29r4:List AOper :=
  [.mk (some 11) (.mv (.tmp 1)) none [],.mk (some 4) (.mv (.tmp 11)) none [0,0]]
def l29:AFn :=
  (AFn.mk 12 2 (.seq (.reg l29r0) (.seq (.reg l29r1) (.seq (.seq (.reg l29r2) (.cond (.tmp 10) (.seq (.reg l29r3) .ret) .skip)) (.seq (.reg l29r4) .ret)))) [.tmp 4])
theorem l29_eq:lowFn Tryz.prog 29=some l29:=by kernel_rfl
def l30r0:List AOper :=
  [.mk (some 2) (.box (.tmp 0)) none [],.mk (some 4) (.mv (.const (.bool false))) none []]
def l30r1:List AOper :=
  [.mk (some 6) (.fld 1 (.tmp 2)) none [],.mk (some 7) (.load false 1 (.tmp 6)) none [0],.mk (some 8) (.mv (.tmp 1)) none [],.mk (some 9) (.idxA 5 (.tmp 7) (.tmp 8)) none [1,2],.mk (some 10) (.load true 5 (.tmp 9)) none [3],.mk (some 5) (.alloc [.int .i64 0,.int .i64 0,.slice none 0 0,.slice none 0 0,.bool false]) none [],.mk none (.store 5 (.tmp 5) (.tmp 10)) none [5,4,0,1,2,3,4,5]]
def l30r2:List AOper :=
  [.mk (some 11) (.fld 0 (.tmp 5)) none [],.mk (some 12) (.load false 1 (.tmp 11)) none [0],.mk (some 13) (.mv (.tmp 1)) none [],.mk (some 14) (.bin .sub (.tmp 13) (.const (.int .i64 1))) none [2],.mk (some 15) (.call 32 [.tmp 12,.const (.int .i64 (-1)),.tmp 14]) none [1,3],.mk (some 16) (.un .not (.tmp 15)) none [4],.mk (some 17) (.mv (.tmp 16)) none [5,4],.mk (some 18) (.fld 1 (.tmp 5)) (some (17,false)) [6],.mk (some 19) (.load true 3 (.tmp 18)) (some (17,false)) [7,6],.mk (some 20) (.call 33 [.tmp 19]) (some (17,false)) [8,6,6],.mk (some 21) (.un .not (.tmp 20)) (some (17,false)) [9,6],.mk (some 22) (.pick (.tmp 17) (.const (.bool true)) (.tmp 21)) none [6,10]]
def l30r3:List AOper :=
  [.mk (some 4) (.mv (.const (.bool false))) none []]
def l30r4:List AOper :=
  [.mk (some 23) (.fld 4 (.tmp 5)) none [],.mk (some 24) (.load false 1 (.tmp 23)) none [0],.mk (some 25) (.un .not (.tmp 24)) none [1],.mk (some 26) (.mv (.tmp 25)) none [2],.mk (some 27) (.fld 1 (.tmp 5)) (some (26,false)) [3],.mk (some 28) (.load true 3 (.tmp 27)) (some (26,false)) [4,3],.mk (some 29) (.fld 0 (.tmp 2)) (some (26,false)) [3],.mk (some 30) (.load false 1 (.tmp 29)) (some (26,false)) [6,3],.mk (some 31) (.len (.tmp 30)) (some (26,false)) [7,3],.mk (some 32) (.call 54 [.tmp 28,.tmp 31]) (some (26,false)) [5,8,3,3],.mk (some 33) (.mv (.tmp 32)) (some (26,false)) [9,9,3],.mk (some 34) (.fld 0 (.tmp 5)) (some (33,true)) [10],.mk (some 35) (.load false 1 (.tmp 34)) (some (33,true)) [11,10],.mk (some 36) (.bin .lss (.tmp 35) (.const (.int .i64 0))) (some (33,true)) [12,10],.mk (some 37) (.mv (.tmp 36)) (some (33,true)) [13,10,10],.mk (some 38) (.fld 1 (.tmp 2)) (some (37,false)) [14],.mk (some 39) (.load false 1 (.tmp 38)) (some (37,false)) [15,14],.mk (some 40) (.fld 0 (.tmp 5)) (some (37,false)) [14],.mk (some 41) (.load false 1 (.tmp 40)) (some (37,false)) [17,14],.mk (some 42) (.idxA 5 (.tmp 39) (.tmp 41)) (some (37,false)) [16,18,14],.mk (some 43) (.fld 4 (.tmp 42)) (some (37,false)) [19,14],.mk (some 44) (.load false 1 (.tmp 43)) (some (37,false)) [20,14],.mk (some 45) (.pick (.tmp 37) (.const (.bool true)) (.tmp 44)) (some (33,true)) [14,21,10],.mk (some 46) (.pick (.tmp 33) (.tmp 45) (.const (.bool false))) (some (26,false)) [10,22,3],.mk (some 47) (.pick (.tmp 26) (.const (.bool true)) (.tmp 46)) none [3,23],.mk (some 4) (.mv (.tmp 47)) none [24,14,0,1,2,3,4,5,6,7,8,9,10,11,12,13,14,15,16,17,18,19,20,21,22,23,24]]
def l30:AFn :=
  (AFn.mk 48 2 (.seq (.reg l30r0) (.seq (.reg l30r1) (.seq (.seq (.reg l30r2) (.cond (.tmp 22) (.seq (.reg l30r3) .ret) .skip)) (.seq (.reg l30r4) .ret)))) [.tmp 4])
theorem l30_eq:lowFn Tryz.prog 30=some l30:=by kernel_rfl
def l31r0:List AOper :=
  [.mk (some 2) (.mv (.const (.bool false))) none []]
def l31r1:List AOper :=
  [.mk (some 3) (.mv (.tmp 0)) none [],.mk (some 4) (.len (.tmp 3)) none [0],.mk (some 5) (.bin .leq (.tmp 4) (.const (.int .i64 60))) none [1],.mk (some 6) (.mv (.tmp 5)) none [2],.mk (some 7) (.mv (.tmp 0)) (some (6,true)) [3],.mk (some 8) (.call 55 [.tmp 7,.const (.int .i64 0),.const (.int .i64 255)]) (some (6,true)) [4,3,3],.mk (some 9) (.pick (.tmp 6) (.tmp 8) (.const (.bool false))) none [3,5],.mk (some 2) (.mv (.tmp 9)) none [6,5,0,1,2,3,4,5,6]]
def l31:AFn :=
  (AFn.mk 10 1 (.seq (.reg l31r0) (.seq (.reg l31r1) .ret)) [.tmp 2])
theorem l31_eq:lowFn Tryz.prog 31=some l31:=by kernel_rfl
def l32r0:List AOper :=
  [.mk (some 6) (.mv (.const (.bool false))) none []]
def l32r1:List AOper :=
  [.mk (some 7) (.mv (.tmp 1)) none [],.mk (some 8) (.mv (.tmp 0)) none [],.mk (some 9) (.bin .leq (.tmp 7) (.tmp 8)) none [0,1],.mk (some 10) (.mv (.tmp 9)) none [2],.mk (some 11) (.mv (.tmp 0)) (some (10,true)) [3],.mk (some 12) (.mv (.tmp 2)) (some (10,true)) [3],.mk (some 13) (.bin .leq (.tmp 11) (.tmp 12)) (some (10,true)) [4,5,3],.mk (some 14) (.pick (.tmp 10) (.tmp 13) (.const (.bool false))) none [3,6],.mk (some 6) (.mv (.tmp 14)) none [7,3,0,1,2,3,4,5,6,7]]
def l32:AFn :=
  (AFn.mk 15 3 (.seq (.reg l32r0) (.seq (.reg l32r1) .ret)) [.tmp 6])
theorem l32_eq:lowFn Tryz.prog 32=some l32:=by kernel_rfl
def l33r0:List AOper :=
  [.mk (some 1) (.box (.tmp 0)) none [],.mk (some 2) (.mv (.const (.bool false))) none []]
def l33r1:List AOper :=
  [.mk (some 3) (.fld 1 (.tmp 1)) none [],.mk (some 4) (.load false 1 (.tmp 3)) none [0],.mk (some 5) (.call 56 [.tmp 4]) none [1],.mk (some 6) (.mv (.tmp 5)) none [2,2],.mk (some 7) (.fld 2 (.tmp 1)) (some (6,true)) [3],.mk (some 8) (.load false 1 (.tmp 7)) (some (6,true)) [4,3],.mk (some 9) (.len (.tmp 8)) (some (6,true)) [5,3],.mk (some 10) (.fld 1 (.tmp 1)) (some (6,true)) [3],.mk (some 11) (.load false 1 (.tmp 10)) (some (6,true)) [7,3],.mk (some 12) (.len (.tmp 11)) (some (6,true)) [8,3],.mk (some 13) (.bin .eql (.tmp 9) (.tmp 12)) (some (6,true)) [6,9,3],.mk (some 14) (.pick (.tmp 6) (.tmp 13) (.const (.bool false))) none [3,10],.mk (some 15) (.mv (.tmp 14)) none [11,3],.mk (some 16) (.fld 2 (.tmp 1)) (some (15,true)) [12],.mk (some 17) (.load false 1 (.tmp 16)) (some (15,true)) [13,12],.mk (some 18) (.call 55 [.tmp 17,.const (.int .i64 (-60)),.const (.int .i64 60)]) (some (15,true)) [14,12,12],.mk (some 19) (.pick (.tmp 15) (.tmp 18) (.const (.bool false))) none [12,15],.mk (some 20) (.mv (.tmp 19)) none [16,15],.mk (some 21) (.fld 0 (.tmp 1)) (some (20,true)) [17],.mk (some 22) (.load false 1 (.tmp 21)) (some (20,true)) [18,17],.mk (some 23) (.call 32 [.tmp 22,.const (.int .i64 0),.const (.int .i64 60)]) (some (20,true)) [19,17,17],.mk (some 24) (.pick (.tmp 20) (.tmp 23) (.const (.bool false))) none [17,20],.mk (some 25) (.mv (.tmp 24)) none [21,20],.mk (some 26) (.fld 1 (.tmp 1)) (some (25,true)) [22],.mk (some 27) (.load false 1 (.tmp 26)) (some (25,true)) [23,22],.mk (some 28) (.call 57 [.tmp 27]) (some (25,true)) [24,22,22],.mk (some 29) (.bin .eql (.tmp 28) (.const (.int .i64 0))) (some (25,true)) [25,22],.mk (some 30) (.mv (.tmp 29)) (some (25,true)) [26,25,22],.mk (some 31) (.load true 3 (.tmp 1)) (some (30,false)) [27],.mk (some 32) (.call 58 [.tmp 31]) (some (30,false)) [28,27,27],.mk (some 33) (.call 55 [.tmp 32,.const (.int .i64 0),.const (.int .i64 59)]) (some (30,false)) [29,29,27],.mk (some 34) (.pick (.tmp 30) (.const (.bool true)) (.tmp 33)) (some (25,true)) [27,30,22],.mk (some 35) (.pick (.tmp 25) (.tmp 34) (.const (.bool false))) none [22,31],.mk (some 2) (.mv (.tmp 35)) none [32,30,0,1,2,3,4,5,6,7,8,9,10,11,12,13,14,15,16,17,18,19,20,21,22,23,24,25,26,27,28,29,30,31,32]]
def l33:AFn :=
  (AFn.mk 36 1 (.seq (.reg l33r0) (.seq (.reg l33r1) .ret)) [.tmp 2])
theorem l33_eq:lowFn Tryz.prog 33=some l33:=by kernel_rfl
def l34r0:List AOper :=
  [.mk (some 2) (.box (.tmp 0)) none [],.mk (some 4) (.mv (.const (.bool false))) none []]
def l34r1:List AOper :=
  [.mk (some 5) (.mv (.tmp 1)) none [],.mk (some 6) (.fld 1 (.tmp 2)) none [],.mk (some 7) (.load false 1 (.tmp 6)) none [1],.mk (some 8) (.len (.tmp 7)) none [2],.mk (some 9) (.bin .sub (.tmp 8) (.const (.int .i64 1))) none [3],.mk (some 10) (.call 32 [.tmp 5,.const (.int .i64 0),.tmp 9]) none [0,4],.mk (some 4) (.mv (.tmp 10)) none [5,5,0,1,2,3,4,5]]
def l34:AFn :=
  (AFn.mk 11 2 (.seq (.reg l34r0) (.seq (.reg l34r1) .ret)) [.tmp 4])
theorem l34_eq:lowFn Tryz.prog 34=some l34:=by kernel_rfl
def l35r0:List AOper :=
  [.mk (some 1) (.box (.tmp 0)) none [],.mk (some 2) (.mv (.const (.bool false))) none []]
def l35r1:List AOper :=
  [.mk (some 3) (.fld 0 (.tmp 1)) none [],.mk (some 4) (.load false 1 (.tmp 3)) none [0],.mk (some 5) (.call 32 [.tmp 4,.const (.int .i64 (-100)),.const (.int .i64 100)]) none [1],.mk (some 6) (.mv (.tmp 5)) none [2,2],.mk (some 7) (.fld 1 (.tmp 1)) (some (6,true)) [3],.mk (some 8) (.load false 1 (.tmp 7)) (some (6,true)) [4,3],.mk (some 9) (.call 32 [.tmp 8,.const (.int .i64 (-100)),.const (.int .i64 100)]) (some (6,true)) [5,3,3],.mk (some 10) (.pick (.tmp 6) (.tmp 9) (.const (.bool false))) none [3,6],.mk (some 11) (.mv (.tmp 10)) none [7,6],.mk (some 12) (.fld 2 (.tmp 1)) (some (11,true)) [8],.mk (some 13) (.load false 1 (.tmp 12)) (some (11,true)) [9,8],.mk (some 14) (.call 32 [.tmp 13,.const (.int .i64 (-200)),.const (.int .i64 200)]) (some (11,true)) [10,8,8],.mk (some 15) (.pick (.tmp 11) (.tmp 14) (.const (.bool false))) none [8,11],.mk (some 16) (.mv (.tmp 15)) none [12,11],.mk (some 17) (.fld 2 (.tmp 1)) (some (16,true)) [13],.mk (some 18) (.load false 1 (.tmp 17)) (some (16,true)) [14,13],.mk (some 19) (.bin .neq (.tmp 18) (.const (.int .i64 0))) (some (16,true)) [15,13],.mk (some 20) (.pick (.tmp 16) (.tmp 19) (.const (.bool false))) none [13,16],.mk (some 21) (.mv (.tmp 20)) none [17,13],.mk (some 22) (.fld 3 (.tmp 1)) (some (21,true)) [18],.mk (some 23) (.load false 1 (.tmp 22)) (some (21,true)) [19,18],.mk (some 24) (.mv (.tmp 23)) (some (21,true)) [20,18,18],.mk (some 25) (.fld 0 (.tmp 1)) (some (24,false)) [21],.mk (some 26) (.load false 1 (.tmp 25)) (some (24,false)) [22,21],.mk (some 27) (.bin .eql (.tmp 26) (.const (.int .i64 0))) (some (24,false)) [23,21],.mk (some 28) (.pick (.tmp 24) (.const (.bool true)) (.tmp 27)) (some (21,true)) [21,24,18],.mk (some 29) (.pick (.tmp 21) (.tmp 28) (.const (.bool false))) none [18,25],.mk (some 30) (.mv (.tmp 29)) none [26,21],.mk (some 31) (.fld 4 (.tmp 1)) (some (30,true)) [27],.mk (some 32) (.load false 1 (.tmp 31)) (some (30,true)) [28,27],.mk (some 33) (.mv (.tmp 32)) (some (30,true)) [29,27,27],.mk (some 34) (.fld 1 (.tmp 1)) (some (33,false)) [30],.mk (some 35) (.load false 1 (.tmp 34)) (some (33,false)) [31,30],.mk (some 36) (.bin .eql (.tmp 35) (.const (.int .i64 0))) (some (33,false)) [32,30],.mk (some 37) (.pick (.tmp 33) (.const (.bool true)) (.tmp 36)) (some (30,true)) [30,33,27],.mk (some 38) (.pick (.tmp 30) (.tmp 37) (.const (.bool false))) none [27,34],.mk (some 2) (.mv (.tmp 38)) none [35,30,0,1,2,3,4,5,6,7,8,9,10,11,12,13,14,15,16,17,18,19,20,21,22,23,24,25,26,27,28,29,30,31,32,33,34,35]]
def l35:AFn :=
  (AFn.mk 39 1 (.seq (.reg l35r0) (.seq (.reg l35r1) .ret)) [.tmp 2])
theorem l35_eq:lowFn Tryz.prog 35=some l35:=by kernel_rfl
def l36r0:List AOper :=
  [.mk (some 1) (.box (.tmp 0)) none [],.mk (some 2) (.alloc [.int .i64 0,.slice none 0 0,.slice none 0 0]) none [],.mk (some 3) (.mv (.const (.bool false))) none []]
def l36r1:List AOper :=
  [.mk (some 4) (.load true 3 (.tmp 1)) none [],.mk (some 5) (.call 33 [.tmp 4]) none [0],.mk (some 6) (.un .not (.tmp 5)) none [1]]
def l36r2:List AOper :=
  [.mk (some 7) (.build [.int .i64 0,.slice none 0 0,.slice none 0 0] []) none [],.mk none (.store 3 (.tmp 2) (.tmp 7)) none [0,0],.mk (some 3) (.mv (.const (.bool false))) none [1,0,1]]
def l36r3:List AOper :=
  [.mk (some 8) (.load true 3 (.tmp 1)) none [],.mk (some 9) (.call 39 [.tmp 8]) none [0],.mk none (.store 3 (.tmp 2) (.tmp 9)) none [1,1,0,1],.mk (some 3) (.mv (.const (.bool true))) none [2,0,1,2]]
def l36:AFn :=
  (AFn.mk 10 1 (.seq (.reg l36r0) (.seq (.seq (.reg l36r1) (.cond (.tmp 6) (.seq (.reg l36r2) .ret) .skip)) (.seq (.reg l36r3) .ret))) [.cell 2 true 3,.tmp 3])
theorem l36_eq:lowFn Tryz.prog 36=some l36:=by kernel_rfl
def l37r0:List AOper :=
  [.mk (some 3) (.box (.tmp 0)) none [],.mk (some 5) (.box (.tmp 2)) none [],.mk (some 6) (.alloc [.int .i64 0,.slice none 0 0,.slice none 0 0]) none []]
def l37r1:List AOper :=
  [.mk (some 10) (.load true 3 (.tmp 3)) none [],.mk (some 11) (.call 39 [.tmp 10]) none [0],.mk (some 7) (.alloc [.int .i64 0,.slice none 0 0,.slice none 0 0]) none [],.mk none (.store 3 (.tmp 7) (.tmp 11)) none [2,1,1,0,1,2]]
def l37r2a:List AOper :=
  [.mk (some 12) (.fld 1 (.tmp 3)) none [],.mk (some 13) (.load false 1 (.tmp 12)) none [0],.mk (some 14) (.mv (.tmp 1)) none [],.mk (some 15) (.idxA 1 (.tmp 13) (.tmp 14)) none [1,2],.mk (some 16) (.load false 1 (.tmp 15)) none [3],.mk (some 17) (.load true 5 (.tmp 5)) none [],.mk (some 18) (.call 60 [.tmp 16,.tmp 17]) none [4,5],.mk (some 19) (.call 59 [.tmp 18]) none [6,6],.mk (some 8) (.alloc [.int .i64 0,.int .i64 0,.int .i64 0]) none []]
def l37r2b:List AOper :=
  [.mk none (.store 3 (.tmp 8) (.tmp 19)) none [8,7,7,0,1,2,3,4,5,6,7,8]]
def l37r2:List AOper:=l37r2a ++ l37r2b
def l37r3:List AOper :=
  [.mk (some 20) (.load true 3 (.tmp 8)) none [],.mk (some 21) (.call 61 [.tmp 20]) none [0],.mk (some 9) (.mv (.tmp 21)) none [1,1,0,1]]
def l37r4:List AOper :=
  [.mk (some 22) (.fld 1 (.tmp 7)) none [],.mk (some 23) (.load false 1 (.tmp 22)) none [0],.mk (some 24) (.mv (.tmp 1)) none [],.mk (some 25) (.mv (.tmp 9)) none [],.mk (some 26) (.len (.tmp 25)) none [3],.mk (some 27) (.idxA 1 (.tmp 23) (.tmp 24)) none [1,2,0,1,2,3,4],.mk none (.store 1 (.tmp 27) (.tmp 26)) none [5,4,0,1,2,3,4]]
def l37r5a:List AOper :=
  [.mk (some 28) (.fld 0 (.tmp 3)) none [],.mk (some 29) (.load false 1 (.tmp 28)) none [0],.mk (some 30) (.fld 0 (.tmp 8)) none [],.mk (some 31) (.load false 1 (.tmp 30)) none [2],.mk (some 32) (.fld 2 (.tmp 3)) none [],.mk (some 33) (.load false 1 (.tmp 32)) none [4],.mk (some 34) (.mv (.tmp 1)) none [],.mk (some 35) (.idxA 1 (.tmp 33) (.tmp 34)) none [5,6],.mk (some 36) (.load false 1 (.tmp 35)) none [7],.mk (some 37) (.bin .mul (.tmp 31) (.tmp 36)) none [3,8]]
def l37r5b:List AOper :=
  [.mk (some 38) (.bin .add (.tmp 29) (.tmp 37)) none [1,9],.mk (some 39) (.fld 0 (.tmp 7)) none [0,1,2,3,4,5,6,7,8,9,10],.mk none (.store 1 (.tmp 39) (.tmp 38)) none [11,10,0,1,2,3,4,5,6,7,8,9,10]]
def l37r5:List AOper:=l37r5a ++ l37r5b
def l37r6a:List AOper :=
  [.mk (some 40) (.fld 2 (.tmp 7)) none [],.mk (some 41) (.load false 1 (.tmp 40)) none [0],.mk (some 42) (.mv (.tmp 1)) none [],.mk (some 43) (.fld 2 (.tmp 8)) none [],.mk (some 44) (.load false 1 (.tmp 43)) none [3],.mk (some 45) (.fld 2 (.tmp 3)) none [],.mk (some 46) (.load false 1 (.tmp 45)) none [5],.mk (some 47) (.mv (.tmp 1)) none [],.mk (some 48) (.idxA 1 (.tmp 46) (.tmp 47)) none [6,7],.mk (some 49) (.load false 1 (.tmp 48)) none [8],.mk (some 50) (.bin .mul (.tmp 44) (.tmp 49)) none [4,9]]
def l37r6b:List AOper :=
  [.mk (some 51) (.idxA 1 (.tmp 41) (.tmp 42)) none [1,2,0,1,2,3,4,5,6,7,8,9,10],.mk none (.store 1 (.tmp 51) (.tmp 50)) none [11,10,0,1,2,3,4,5,6,7,8,9,10]]
def l37r6:List AOper:=l37r6a ++ l37r6b
def l37r7:List AOper :=
  [.mk (some 52) (.mv (.tmp 9)) none [],.mk (some 53) (.len (.tmp 52)) none [0],.mk (some 54) (.bin .leq (.tmp 53) (.const (.int .i64 1))) none [1]]
def l37r8:List AOper :=
  [.mk (some 55) (.fld 2 (.tmp 7)) none [],.mk (some 56) (.load false 1 (.tmp 55)) none [0],.mk (some 57) (.mv (.tmp 1)) none [],.mk (some 58) (.idxA 1 (.tmp 56) (.tmp 57)) none [1,2,0,1,2],.mk none (.store 1 (.tmp 58) (.const (.int .i64 0))) none [3,0,1,2]]
def l37r9:List AOper :=
  [.mk (some 59) (.load true 3 (.tmp 7)) none [],.mk (some 60) (.call 62 [.tmp 59]) none [0],.mk none (.store 3 (.tmp 6) (.tmp 60)) none [1,1,0,1]]
def l37:AFn :=
  (AFn.mk 61 3 (.seq (.reg l37r0) (.seq (.reg l37r1) (.seq (.draw l37r2) (.seq (.reg l37r3) (.seq (.reg l37r4) (.seq (.draw l37r5) (.seq (.draw l37r6) (.seq (.seq (.reg l37r7) (.cond (.tmp 54) (.reg l37r8) .skip)) (.seq (.reg l37r9) .ret))))))))) [.cell 6 true 3])
theorem l37_eq:lowFn Tryz.prog 37=some l37:=by kernel_rfl
def l38r0:List AOper :=
  [.mk (some 1) (.box (.tmp 0)) none [],.mk (some 2) (.alloc [.slice none 0 0,.slice none 0 0]) none []]
def l38r1:List AOper :=
  [.mk (some 6) (.fld 0 (.tmp 1)) none [],.mk (some 7) (.load false 1 (.tmp 6)) none [0],.mk (some 8) (.call 63 [.tmp 7]) none [1],.mk (some 9) (.build [.slice none 0 0,.slice none 0 0] [(0,1,.tmp 8)]) none [2],.mk (some 3) (.alloc [.slice none 0 0,.slice none 0 0]) none [],.mk none (.store 2 (.tmp 3) (.tmp 9)) none [4,3,2,0,1,2,3,4]]
def l38r2:List AOper :=
  [.mk (some 4) (.mv (.const (.int .i64 0))) none []]
def l38r3:List AOper :=
  [.mk (some 10) (.mv (.tmp 4)) none [],.mk (some 11) (.fld 1 (.tmp 1)) none [],.mk (some 12) (.load false 1 (.tmp 11)) none [1],.mk (some 13) (.len (.tmp 12)) none [2],.mk (some 14) (.bin .lss (.tmp 10) (.tmp 13)) none [0,3]]
def l38r4:List AOper :=
  [.mk (some 17) (.fld 1 (.tmp 1)) none [],.mk (some 18) (.load false 1 (.tmp 17)) none [0],.mk (some 19) (.mv (.tmp 4)) none [],.mk (some 20) (.idxA 5 (.tmp 18) (.tmp 19)) none [1,2],.mk (some 21) (.load true 5 (.tmp 20)) none [3],.mk (some 5) (.alloc [.int .i64 0,.int .i64 0,.slice none 0 0,.slice none 0 0,.bool false]) none [],.mk none (.store 5 (.tmp 5) (.tmp 21)) none [5,4,0,1,2,3,4,5]]
def l38r5:List AOper :=
  [.mk (some 22) (.fld 1 (.tmp 5)) none [],.mk (some 23) (.load true 3 (.tmp 22)) none [0],.mk (some 24) (.call 39 [.tmp 23]) none [1],.mk (some 25) (.fld 1 (.tmp 5)) none [0,1,2],.mk none (.store 3 (.tmp 25) (.tmp 24)) none [3,2,2,0,1,2]]
def l38r6:List AOper :=
  [.mk (some 26) (.fld 1 (.tmp 3)) none [],.mk (some 27) (.load false 1 (.tmp 26)) none [0],.mk (some 28) (.load true 5 (.tmp 5)) none [],.mk (some 29) (.bslice 5 [.int .i64 0,.int .i64 0,.slice none 0 0,.slice none 0 0,.bool false] [(0,.tmp 28)] 1) none [2],.mk (some 30) (.append 5 (.tmp 27) (.tmp 29)) none [1,3],.mk (some 31) (.fld 1 (.tmp 3)) none [0,1,2,3,4],.mk none (.store 1 (.tmp 31) (.tmp 30)) none [5,4,4,0,1,2,3,4]]
def l38r7:List AOper :=
  [.mk (some 15) (.mv (.tmp 4)) none [],.mk (some 16) (.bin .add (.tmp 15) (.const (.int .i64 1))) none [0],.mk (some 4) (.mv (.tmp 16)) none [1,0,1]]
def l38r8:List AOper :=
  [.mk (some 32) (.load true 2 (.tmp 3)) none [],.mk none (.store 2 (.tmp 2) (.tmp 32)) none [0,0]]
def l38:AFn :=
  (AFn.mk 33 1 (.seq (.reg l38r0) (.seq (.reg l38r1) (.seq (.seq (.reg l38r2) (.block 0 (.loop (.seq (.seq (.reg l38r3) (.cond (.tmp 14) .skip (.exit 0))) (.seq (.block 1 (.seq (.reg l38r4) (.seq (.reg l38r5) (.reg l38r6)))) (.reg l38r7)))))) (.seq (.reg l38r8) .ret)))) [.cell 2 true 2])
theorem l38_eq:lowFn Tryz.prog 38=some l38:=by kernel_rfl
def l39r0:List AOper :=
  [.mk (some 1) (.box (.tmp 0)) none [],.mk (some 2) (.alloc [.int .i64 0,.slice none 0 0,.slice none 0 0]) none []]
def l39r1a:List AOper :=
  [.mk (some 3) (.fld 0 (.tmp 1)) none [],.mk (some 4) (.load false 1 (.tmp 3)) none [0],.mk (some 5) (.fld 1 (.tmp 1)) none [],.mk (some 6) (.load false 1 (.tmp 5)) none [2],.mk (some 7) (.call 63 [.tmp 6]) none [3],.mk (some 8) (.fld 2 (.tmp 1)) none [],.mk (some 9) (.load false 1 (.tmp 8)) none [5],.mk (some 10) (.call 63 [.tmp 9]) none [6,4]]
def l39r1b:List AOper :=
  [.mk (some 11) (.build [.int .i64 0,.slice none 0 0,.slice none 0 0] [(0,1,.tmp 4),(1,1,.tmp 7),(2,1,.tmp 10)]) none [1,4,7],.mk none (.store 3 (.tmp 2) (.tmp 11)) none [8,7,0,1,2,3,4,5,6,7,8]]
def l39r1:List AOper:=l39r1a ++ l39r1b
def l39:AFn :=
  (AFn.mk 12 1 (.seq (.reg l39r0) (.seq (.draw l39r1) .ret)) [.cell 2 true 3])
theorem l39_eq:lowFn Tryz.prog 39=some l39:=by kernel_rfl
def l40r0:List AOper :=
  [.mk (some 1) (.box (.tmp 0)) none [],.mk (some 2) (.alloc [.int .i64 0,.int .i64 0,.slice none 0 0,.slice none 0 0,.bool false]) none []]
def l40r1:List AOper :=
  [.mk (some 3) (.alloc [.int .i64 0,.int .i64 0,.slice none 0 0,.slice none 0 0,.bool false]) none []]
def l40r2:List AOper :=
  [.mk (some 4) (.fld 0 (.tmp 1)) none [],.mk (some 5) (.load false 1 (.tmp 4)) none [0],.mk (some 6) (.fld 0 (.tmp 3)) none [0,1],.mk none (.store 1 (.tmp 6) (.tmp 5)) none [2,1,0,1]]
def l40r3:List AOper :=
  [.mk (some 7) (.fld 1 (.tmp 1)) none [],.mk (some 8) (.load true 3 (.tmp 7)) none [0],.mk (some 9) (.call 64 [.tmp 8]) none [1],.mk (some 10) (.fld 1 (.tmp 3)) none [0,1,2],.mk none (.store 3 (.tmp 10) (.tmp 9)) none [3,2,2,0,1,2]]
def l40r4:List AOper :=
  [.mk (some 11) (.fld 4 (.tmp 1)) none [],.mk (some 12) (.load false 1 (.tmp 11)) none [0],.mk (some 13) (.fld 4 (.tmp 3)) none [0,1],.mk none (.store 1 (.tmp 13) (.tmp 12)) none [2,1,0,1]]
def l40r5:List AOper :=
  [.mk (some 14) (.load true 5 (.tmp 3)) none [],.mk none (.store 5 (.tmp 2) (.tmp 14)) none [0,0]]
def l40:AFn :=
  (AFn.mk 15 1 (.seq (.reg l40r0) (.seq (.reg l40r1) (.seq (.reg l40r2) (.seq (.reg l40r3) (.seq (.reg l40r4) (.seq (.reg l40r5) .ret)))))) [.cell 2 true 5])
theorem l40_eq:lowFn Tryz.prog 40=some l40:=by kernel_rfl
def l41r0:List AOper :=
  [.mk (some 1) (.box (.tmp 0)) none [],.mk (some 2) (.mv (.const (.bool false))) none []]
def l41r1:List AOper :=
  [.mk (some 7) (.fld 0 (.tmp 1)) none [],.mk (some 8) (.load false 1 (.tmp 7)) none [0],.mk (some 9) (.call 65 [.tmp 8]) none [1],.mk (some 10) (.un .not (.tmp 9)) none [2],.mk (some 11) (.mv (.tmp 10)) none [3,2],.mk (some 12) (.fld 1 (.tmp 1)) (some (11,false)) [4],.mk (some 13) (.load false 1 (.tmp 12)) (some (11,false)) [5,4],.mk (some 14) (.len (.tmp 13)) (some (11,false)) [6,4],.mk (some 15) (.bin .gtr (.tmp 14) (.const (.int .i64 8))) (some (11,false)) [7,4],.mk (some 16) (.pick (.tmp 11) (.const (.bool true)) (.tmp 15)) none [4,8]]
def l41r2:List AOper :=
  [.mk (some 2) (.mv (.const (.bool false))) none []]
def l41r3:List AOper :=
  [.mk (some 17) (.fld 1 (.tmp 1)) none [],.mk (some 18) (.load false 1 (.tmp 17)) none [0],.mk (some 19) (.len (.tmp 18)) none [1],.mk (some 20) (.mv (.const (.int .i64 0))) none []]
def l41r4:List AOper :=
  [.mk (some 21) (.bin .lss (.tmp 20) (.tmp 19)) none []]
def l41r5:List AOper :=
  [.mk (some 22) (.mv (.tmp 20)) none [],.mk (some 23) (.idxA 5 (.tmp 18) (.tmp 20)) none [],.mk (some 24) (.load true 5 (.tmp 23)) none [1],.mk (some 4) (.alloc [.int .i64 0,.int .i64 0,.slice none 0 0,.slice none 0 0,.bool false]) none [],.mk (some 3) (.mv (.tmp 22)) none [0,0,1,2,3],.mk none (.store 5 (.tmp 4) (.tmp 24)) none [3,2,4,0,1,2,3,4]]
def l41r6:List AOper :=
  [.mk (some 25) (.load true 5 (.tmp 4)) none [],.mk (some 26) (.mv (.tmp 3)) none [],.mk (some 27) (.fld 0 (.tmp 1)) none [],.mk (some 28) (.load false 1 (.tmp 27)) none [2],.mk (some 29) (.len (.tmp 28)) none [3],.mk (some 30) (.call 66 [.tmp 25,.tmp 26,.tmp 29]) none [0,1,4],.mk (some 31) (.un .not (.tmp 30)) none [5]]
def l41r7:List AOper :=
  [.mk (some 2) (.mv (.const (.bool false))) none []]
def l41r8:List AOper :=
  [.mk (some 32) (.bin .add (.tmp 20) (.const (.int .i64 1))) none [],.mk (some 20) (.mv (.tmp 32)) none [0]]
def l41r9:List AOper :=
  [.mk (some 33) (.fld 1 (.tmp 1)) none [],.mk (some 34) (.load false 1 (.tmp 33)) none [0],.mk (some 35) (.len (.tmp 34)) none [1],.mk (some 36) (.mv (.const (.int .i64 0))) none []]
def l41r10:List AOper :=
  [.mk (some 37) (.bin .lss (.tmp 36) (.tmp 35)) none []]
def l41r11:List AOper :=
  [.mk (some 38) (.mv (.tmp 36)) none [],.mk (some 39) (.idxA 5 (.tmp 34) (.tmp 36)) none [],.mk (some 40) (.load true 5 (.tmp 39)) none [1],.mk (some 6) (.alloc [.int .i64 0,.int .i64 0,.slice none 0 0,.slice none 0 0,.bool false]) none [],.mk (some 5) (.mv (.tmp 38)) none [0,0,1,2,3],.mk none (.store 5 (.tmp 6) (.tmp 40)) none [3,2,4,0,1,2,3,4]]
def l41r12a:List AOper :=
  [.mk (some 41) (.fld 4 (.tmp 6)) none [],.mk (some 42) (.load false 1 (.tmp 41)) none [0],.mk (some 43) (.un .not (.tmp 42)) none [1],.mk (some 44) (.mv (.tmp 43)) none [2],.mk (some 45) (.load true 2 (.tmp 1)) (some (44,true)) [3],.mk (some 46) (.mv (.tmp 5)) (some (44,true)) [3],.mk (some 47) (.call 68 [.tmp 45,.tmp 46]) (some (44,true)) [4,5,3,3],.mk (some 48) (.call 69 [.tmp 47]) (some (44,true)) [6,6,3],.mk (some 49) (.load false 1 (.global 0)) (some (44,true)) [3]]
def l41r12b:List AOper :=
  [.mk (some 50) (.call 67 [.tmp 48,.tmp 49]) (some (44,true)) [7,8,7,3],.mk (some 51) (.pick (.tmp 44) (.tmp 50) (.const (.bool false))) none [3,9]]
def l41r12:List AOper:=l41r12a ++ l41r12b
def l41r13:List AOper :=
  [.mk (some 2) (.mv (.const (.bool false))) none []]
def l41r14:List AOper :=
  [.mk (some 52) (.bin .add (.tmp 36) (.const (.int .i64 1))) none [],.mk (some 36) (.mv (.tmp 52)) none [0]]
def l41r15:List AOper :=
  [.mk (some 2) (.mv (.const (.bool true))) none []]
def l41:AFn :=
  (AFn.mk 53 1 (.seq (.reg l41r0) (.seq (.seq (.reg l41r1) (.cond (.tmp 16) (.seq (.reg l41r2) .ret) .skip)) (.seq (.seq (.reg l41r3) (.block 0 (.loop (.seq (.reg l41r4) (.seq (.cond (.tmp 21) .skip (.exit 0)) (.seq (.block 1 (.seq (.reg l41r5) (.seq (.reg l41r6) (.cond (.tmp 31) (.seq (.reg l41r7) .ret) .skip)))) (.reg l41r8))))))) (.seq (.seq (.reg l41r9) (.block 2 (.loop (.seq (.reg l41r10) (.seq (.cond (.tmp 37) .skip (.exit 2)) (.seq (.block 3 (.seq (.reg l41r11) (.seq (.draw l41r12) (.cond (.tmp 51) (.seq (.reg l41r13) .ret) .skip)))) (.reg l41r14))))))) (.seq (.reg l41r15) .ret))))) [.tmp 2])
theorem l41_eq:lowFn Tryz.prog 41=some l41:=by kernel_rfl
def l42r0:List AOper :=
  [.mk (some 4) (.mv (.const (.bool false))) none []]
def l42r1:List AOper :=
  [.mk (some 5) (.mv (.tmp 0)) none [],.mk (some 6) (.bin .leq (.const (.int .i64 0)) (.tmp 5)) none [0],.mk (some 7) (.mv (.tmp 6)) none [1],.mk (some 8) (.mv (.tmp 0)) (some (7,true)) [2],.mk (some 9) (.mv (.tmp 1)) (some (7,true)) [2],.mk (some 10) (.bin .leq (.tmp 8) (.tmp 9)) (some (7,true)) [3,4,2],.mk (some 11) (.pick (.tmp 7) (.tmp 10) (.const (.bool false))) none [2,5],.mk (some 4) (.mv (.tmp 11)) none [6,2,0,1,2,3,4,5,6]]
def l42:AFn :=
  (AFn.mk 12 2 (.seq (.reg l42r0) (.seq (.reg l42r1) .ret)) [.tmp 4])
theorem l42_eq:lowFn Tryz.prog 42=some l42:=by kernel_rfl
def l43r0:List AOper :=
  [.mk (some 2) (.box (.tmp 0)) none [],.mk (some 4) (.mv (.const (.bool false))) none []]
def l43r1:List AOper :=
  [.mk (some 5) (.load true 3 (.tmp 2)) none [],.mk (some 6) (.call 70 [.tmp 5]) none [0],.mk (some 7) (.mv (.tmp 6)) none [1,1],.mk (some 8) (.mv (.tmp 1)) (some (7,true)) [2],.mk (some 9) (.fld 1 (.tmp 2)) (some (7,true)) [2],.mk (some 10) (.load false 1 (.tmp 9)) (some (7,true)) [4,2],.mk (some 11) (.len (.tmp 10)) (some (7,true)) [5,2],.mk (some 12) (.bin .sub (.tmp 11) (.const (.int .i64 1))) (some (7,true)) [6,2],.mk (some 13) (.call 42 [.tmp 8,.tmp 12]) (some (7,true)) [3,7,2,2],.mk (some 14) (.pick (.tmp 7) (.tmp 13) (.const (.bool false))) none [2,8],.mk (some 4) (.mv (.tmp 14)) none [9,8,0,1,2,3,4,5,6,7,8,9]]
def l43:AFn :=
  (AFn.mk 15 2 (.seq (.reg l43r0) (.seq (.reg l43r1) .ret)) [.tmp 4])
theorem l43_eq:lowFn Tryz.prog 43=some l43:=by kernel_rfl
def l44r0:List AOper :=
  [.mk (some 1) (.box (.tmp 0)) none [],.mk (some 2) (.mv (.const (.bool false))) none []]
def l44r1:List AOper :=
  [.mk (some 3) (.fld 0 (.tmp 1)) none [],.mk (some 4) (.load false 1 (.tmp 3)) none [0],.mk (some 5) (.fld 3 (.tmp 1)) none [],.mk (some 6) (.load false 1 (.tmp 5)) none [2],.mk (some 7) (.call 71 [.tmp 4,.tmp 6]) none [1,3],.mk (some 8) (.mv (.tmp 7)) none [4,4],.mk (some 9) (.fld 1 (.tmp 1)) (some (8,true)) [5],.mk (some 10) (.load false 1 (.tmp 9)) (some (8,true)) [6,5],.mk (some 11) (.fld 4 (.tmp 1)) (some (8,true)) [5],.mk (some 12) (.load false 1 (.tmp 11)) (some (8,true)) [8,5],.mk (some 13) (.call 71 [.tmp 10,.tmp 12]) (some (8,true)) [7,9,5,5],.mk (some 14) (.pick (.tmp 8) (.tmp 13) (.const (.bool false))) none [5,10],.mk (some 15) (.mv (.tmp 14)) none [11,10],.mk (some 16) (.fld 2 (.tmp 1)) (some (15,true)) [12],.mk (some 17) (.load false 1 (.tmp 16)) (some (15,true)) [13,12],.mk (some 18) (.call 72 [.tmp 17]) (some (15,true)) [14,12,12],.mk (some 19) (.pick (.tmp 15) (.tmp 18) (.const (.bool false))) none [12,15],.mk (some 2) (.mv (.tmp 19)) none [16,15,0,1,2,3,4,5,6,7,8,9,10,11,12,13,14,15,16]]
def l44:AFn :=
  (AFn.mk 20 1 (.seq (.reg l44r0) (.seq (.reg l44r1) .ret)) [.tmp 2])
theorem l44_eq:lowFn Tryz.prog 44=some l44:=by kernel_rfl
def l45r0:List AOper :=
  [.mk (some 2) (.box (.tmp 0)) none [],.mk (some 4) (.alloc [.int .i64 0,.int .i64 0,.int .i64 0]) none []]
def l45r1:List AOper :=
  [.mk (some 8) (.mv (.tmp 1)) none [],.mk (some 5) (.mv (.const (.int .i64 0))) none [],.mk (some 6) (.mv (.tmp 8)) none [0,1,0,1]]
def l45r2:List AOper :=
  [.mk (some 9) (.mv (.tmp 5)) none [],.mk (some 10) (.mv (.tmp 6)) none [],.mk (some 11) (.fld 2 (.tmp 2)) none [],.mk (some 12) (.load false 1 (.tmp 11)) none [2],.mk (some 13) (.build [.int .i64 0,.int .i64 0,.int .i64 0] [(0,1,.tmp 9),(1,1,.tmp 10),(2,1,.tmp 12)]) none [0,1,3],.mk (some 7) (.alloc [.int .i64 0,.int .i64 0,.int .i64 0]) none [],.mk none (.store 3 (.tmp 7) (.tmp 13)) none [5,4,0,1,2,3,4,5]]
def l45r3:List AOper :=
  [.mk (some 14) (.fld 2 (.tmp 2)) none [],.mk (some 15) (.load false 1 (.tmp 14)) none [0],.mk (some 16) (.bin .lss (.tmp 15) (.const (.int .i64 0))) none [1]]
def l45r4:List AOper :=
  [.mk (some 17) (.mv (.tmp 1)) none [],.mk (some 18) (.bin .sub (.tmp 17) (.const (.int .i64 1))) none [0],.mk (some 5) (.mv (.const (.int .i64 (-1)))) none [],.mk (some 6) (.mv (.tmp 18)) none [1,2,0,1,2]]
def l45r5:List AOper :=
  [.mk (some 19) (.mv (.tmp 6)) none [],.mk (some 20) (.mv (.tmp 5)) none [],.mk (some 21) (.fld 0 (.tmp 7)) none [0],.mk none (.store 1 (.tmp 21) (.tmp 19)) none [2,0,0],.mk (some 22) (.fld 1 (.tmp 7)) none [0,1,2,3],.mk none (.store 1 (.tmp 22) (.tmp 20)) none [4,1,3,0,1,2,3]]
def l45r6:List AOper :=
  [.mk (some 23) (.fld 3 (.tmp 2)) none [],.mk (some 24) (.load false 1 (.tmp 23)) none [0]]
def l45r7:List AOper :=
  [.mk (some 25) (.fld 0 (.tmp 2)) none [],.mk (some 26) (.load false 1 (.tmp 25)) none [0],.mk (some 27) (.mv (.tmp 1)) none [],.mk (some 28) (.mv (.tmp 5)) none [],.mk (some 29) (.mv (.tmp 6)) none [],.mk (some 30) (.call 73 [.tmp 26,.tmp 27,.tmp 28,.tmp 29]) none [1,2,3,4],.mk (some 31) (.fld 0 (.tmp 7)) none [0,1,2,3,4,5],.mk none (.store 1 (.tmp 31) (.tmp 30)) none [6,5,5,0,1,2,3,4,5]]
def l45r8:List AOper :=
  [.mk (some 32) (.fld 4 (.tmp 2)) none [],.mk (some 33) (.load false 1 (.tmp 32)) none [0]]
def l45r9:List AOper :=
  [.mk (some 34) (.fld 1 (.tmp 2)) none [],.mk (some 35) (.load false 1 (.tmp 34)) none [0],.mk (some 36) (.mv (.tmp 1)) none [],.mk (some 37) (.mv (.tmp 5)) none [],.mk (some 38) (.mv (.tmp 6)) none [],.mk (some 39) (.call 73 [.tmp 35,.tmp 36,.tmp 37,.tmp 38]) none [1,2,3,4],.mk (some 40) (.fld 1 (.tmp 7)) none [0,1,2,3,4,5],.mk none (.store 1 (.tmp 40) (.tmp 39)) none [6,5,5,0,1,2,3,4,5]]
def l45r10:List AOper :=
  [.mk (some 41) (.load true 3 (.tmp 7)) none [],.mk none (.store 3 (.tmp 4) (.tmp 41)) none [0,0]]
def l45:AFn :=
  (AFn.mk 42 2 (.seq (.reg l45r0) (.seq (.reg l45r1) (.seq (.reg l45r2) (.seq (.seq (.reg l45r3) (.cond (.tmp 16) (.seq (.reg l45r4) (.reg l45r5)) .skip)) (.seq (.seq (.reg l45r6) (.cond (.tmp 24) (.reg l45r7) .skip)) (.seq (.seq (.reg l45r8) (.cond (.tmp 33) (.reg l45r9) .skip)) (.seq (.reg l45r10) .ret))))))) [.cell 4 true 3])
theorem l45_eq:lowFn Tryz.prog 45=some l45:=by kernel_rfl
def l46r0:List AOper :=
  [.mk (some 1) (.box (.tmp 0)) none [],.mk (some 2) (.alloc [.int .i64 0,.slice none 0 0,.slice none 0 0,.int .i64 0,.int .i64 0,.int .i64 0,.int .i64 0,.slice none 0 0]) none []]
def l46r1:List AOper :=
  [.mk (some 6) (.load true 3 (.tmp 1)) none [],.mk (some 7) (.build [.int .i64 0,.slice none 0 0,.slice none 0 0,.int .i64 0,.int .i64 0,.int .i64 0,.int .i64 0,.slice none 0 0] [(0,3,.tmp 6)]) none [0],.mk (some 3) (.alloc [.int .i64 0,.slice none 0 0,.slice none 0 0,.int .i64 0,.int .i64 0,.int .i64 0,.int .i64 0,.slice none 0 0]) none [],.mk none (.store 8 (.tmp 3) (.tmp 7)) none [2,1,0,1,2]]
def l46r2:List AOper :=
  [.mk (some 8) (.fld 1 (.tmp 1)) none [],.mk (some 9) (.load false 1 (.tmp 8)) none [0],.mk (some 10) (.len (.tmp 9)) none [1],.mk (some 11) (.mv (.const (.int .i64 0))) none []]
def l46r3:List AOper :=
  [.mk (some 12) (.bin .lss (.tmp 11) (.tmp 10)) none []]
def l46r4:List AOper :=
  [.mk (some 13) (.mv (.tmp 11)) none [],.mk (some 14) (.idxA 1 (.tmp 9) (.tmp 11)) none [],.mk (some 15) (.load false 1 (.tmp 14)) none [1],.mk (some 4) (.mv (.tmp 13)) none [0,0,1,2],.mk (some 5) (.mv (.tmp 15)) none [2,3,0,1,2,3]]
def l46r5a:List AOper :=
  [.mk (some 16) (.fld 7 (.tmp 3)) none [],.mk (some 17) (.load false 1 (.tmp 16)) none [0],.mk (some 18) (.mv (.tmp 5)) none [],.mk (some 19) (.fld 2 (.tmp 1)) none [],.mk (some 20) (.load false 1 (.tmp 19)) none [3],.mk (some 21) (.mv (.tmp 4)) none [],.mk (some 22) (.idxA 1 (.tmp 20) (.tmp 21)) none [4,5],.mk (some 23) (.load false 1 (.tmp 22)) none [6],.mk (some 24) (.build [.int .i64 0,.int .i64 0] [(0,1,.tmp 18),(1,1,.tmp 23)]) none [2,7],.mk (some 25) (.bslice 2 [.int .i64 0,.int .i64 0] [(0,.tmp 24)] 1) none [8]]
def l46r5b:List AOper :=
  [.mk (some 26) (.append 2 (.tmp 17) (.tmp 25)) none [1,9],.mk (some 27) (.fld 7 (.tmp 3)) none [0,1,2,3,4,5,6,7,8,9,10],.mk none (.store 1 (.tmp 27) (.tmp 26)) none [11,10,10,0,1,2,3,4,5,6,7,8,9,10]]
def l46r5:List AOper:=l46r5a ++ l46r5b
def l46r6:List AOper :=
  [.mk (some 28) (.bin .add (.tmp 11) (.const (.int .i64 1))) none [],.mk (some 11) (.mv (.tmp 28)) none [0]]
def l46r7:List AOper :=
  [.mk (some 29) (.load true 8 (.tmp 3)) none [],.mk none (.store 8 (.tmp 2) (.tmp 29)) none [0,0]]
def l46:AFn :=
  (AFn.mk 30 1 (.seq (.reg l46r0) (.seq (.reg l46r1) (.seq (.seq (.reg l46r2) (.block 0 (.loop (.seq (.reg l46r3) (.seq (.cond (.tmp 12) .skip (.exit 0)) (.seq (.block 1 (.seq (.reg l46r4) (.draw l46r5))) (.reg l46r6))))))) (.seq (.reg l46r7) .ret)))) [.cell 2 true 8])
theorem l46_eq:lowFn Tryz.prog 46=some l46:=by kernel_rfl
def l47r0:List AOper :=
  [.mk (some 4) (.alloc [.int .i64 0,.int .i64 0]) none []]
def l47r1:List AOper :=
  [.mk (some 5) (.mv (.tmp 0)) none [],.mk (some 6) (.bin .lss (.tmp 5) (.const (.int .i64 2))) none [0]]
def l47r2:List AOper :=
  [.mk (some 7) (.mv (.tmp 0)) none [],.mk (some 8) (.build [.int .i64 0,.int .i64 0] [(0,1,.tmp 7)]) none [0],.mk none (.store 2 (.tmp 4) (.tmp 8)) none [1,0,1]]
def l47r3:List AOper :=
  [.mk (some 9) (.mv (.tmp 0)) none [],.mk (some 10) (.mv (.tmp 1)) none [],.mk (some 11) (.build [.int .i64 0,.int .i64 0] [(0,1,.tmp 9),(1,1,.tmp 10)]) none [0,1],.mk none (.store 2 (.tmp 4) (.tmp 11)) none [2,0,1,2]]
def l47:AFn :=
  (AFn.mk 12 2 (.seq (.reg l47r0) (.seq (.seq (.reg l47r1) (.cond (.tmp 6) (.seq (.reg l47r2) .ret) .skip)) (.seq (.reg l47r3) .ret))) [.cell 4 true 2])
theorem l47_eq:lowFn Tryz.prog 47=some l47:=by kernel_rfl
def l48r0:List AOper :=
  [.mk (some 1) (.box (.tmp 0)) none [],.mk (some 2) (.mv (.const (.int .i64 0))) none []]
def l48r1a:List AOper :=
  [.mk (some 5) (.fld 1 (.tmp 1)) none [],.mk (some 6) (.load false 1 (.tmp 5)) none [0],.mk (some 7) (.fld 0 (.tmp 1)) none [],.mk (some 8) (.load false 1 (.tmp 7)) none [2],.mk (some 9) (.bin .sub (.tmp 6) (.tmp 8)) none [1,3],.mk (some 10) (.fld 2 (.tmp 1)) none [],.mk (some 11) (.load false 1 (.tmp 10)) none [5],.mk (some 3) (.mv (.tmp 9)) none [4,0,1,2,3,4]]
def l48r1b:List AOper :=
  [.mk (some 4) (.mv (.tmp 11)) none [6,7,0,1,2,3,4,5,6,7]]
def l48r1:List AOper:=l48r1a ++ l48r1b
def l48r2:List AOper :=
  [.mk (some 12) (.mv (.tmp 4)) none [],.mk (some 13) (.bin .lss (.tmp 12) (.const (.int .i64 0))) none [0]]
def l48r3:List AOper :=
  [.mk (some 14) (.mv (.tmp 3)) none [],.mk (some 15) (.un .neg (.tmp 14)) none [0],.mk (some 16) (.mv (.tmp 4)) none [],.mk (some 17) (.un .neg (.tmp 16)) none [2],.mk (some 3) (.mv (.tmp 15)) none [1,0,1],.mk (some 4) (.mv (.tmp 17)) none [3,4,0,1,2,3,4]]
def l48r4:List AOper :=
  [.mk (some 18) (.mv (.tmp 3)) none [],.mk (some 19) (.bin .leq (.tmp 18) (.const (.int .i64 0))) none [0]]
def l48r5:List AOper :=
  [.mk (some 2) (.mv (.const (.int .i64 0))) none []]
def l48r6:List AOper :=
  [.mk (some 20) (.mv (.tmp 3)) none [],.mk (some 21) (.mv (.tmp 4)) none [],.mk (some 22) (.bin .add (.tmp 20) (.tmp 21)) none [0,1],.mk (some 23) (.bin .sub (.tmp 22) (.const (.int .i64 1))) none [2],.mk (some 24) (.mv (.tmp 4)) none [],.mk (some 25) (.bin .quo (.tmp 23) (.tmp 24)) none [3,4],.mk (some 2) (.mv (.tmp 25)) none [5,0,1,2,3,4,5]]
def l48:AFn :=
  (AFn.mk 26 1 (.seq (.reg l48r0) (.seq (.draw l48r1) (.seq (.seq (.reg l48r2) (.cond (.tmp 13) (.reg l48r3) .skip)) (.seq (.seq (.reg l48r4) (.cond (.tmp 19) (.seq (.reg l48r5) .ret) .skip)) (.seq (.reg l48r6) .ret))))) [.tmp 2])
theorem l48_eq:lowFn Tryz.prog 48=some l48:=by kernel_rfl
def l49r0:List AOper :=
  [.mk (some 1) (.box (.tmp 0)) none [],.mk (some 2) (.alloc [.int .i64 0,.slice none 0 0,.slice none 0 0]) none []]
def l49r1:List AOper :=
  [.mk (some 4) (.load true 8 (.tmp 1)) none [],.mk (some 5) (.call 74 [.tmp 4]) none [0],.mk (some 3) (.alloc [.int .i64 0,.slice none 0 0,.slice none 0 0]) none [],.mk none (.store 3 (.tmp 3) (.tmp 5)) none [2,1,1,0,1,2]]
def l49r2:List AOper :=
  [.mk (some 6) (.load true 3 (.tmp 3)) none [],.mk (some 7) (.call 75 [.tmp 6]) none [0],.mk (some 8) (.bin .eql (.tmp 7) (.const (.int .i64 0))) none [1]]
def l49r3a:List AOper :=
  [.mk (some 9) (.fld 1 (.tmp 3)) none [],.mk (some 10) (.load false 1 (.tmp 9)) none [0],.mk (some 11) (.len (.tmp 10)) none [1],.mk (some 12) (.mkslice 1 [.int .i64 0] (.tmp 11) (.tmp 11)) none [2,2],.mk (some 13) (.fld 0 (.tmp 3)) none [0,1],.mk none (.store 1 (.tmp 13) (.const (.int .i64 0))) none [4,0,1]]
def l49r3b:List AOper :=
  [.mk (some 14) (.fld 2 (.tmp 3)) none [0,1,2,3,4,5],.mk none (.store 1 (.tmp 14) (.tmp 12)) none [6,3,5,0,1,2,3,4,5]]
def l49r3:List AOper:=l49r3a ++ l49r3b
def l49r4:List AOper :=
  [.mk (some 15) (.load true 3 (.tmp 3)) none [],.mk none (.store 3 (.tmp 2) (.tmp 15)) none [0,0]]
def l49:AFn :=
  (AFn.mk 16 1 (.seq (.reg l49r0) (.seq (.reg l49r1) (.seq (.seq (.reg l49r2) (.cond (.tmp 8) (.draw l49r3) .skip)) (.seq (.reg l49r4) .ret)))) [.cell 2 true 3])
theorem l49_eq:lowFn Tryz.prog 49=some l49:=by kernel_rfl
def l50r0:List AOper :=
  [.mk (some 1) (.box (.tmp 0)) none [],.mk (some 2) (.alloc [.slice none 0 0,.slice none 0 0]) none []]
def l50r1:List AOper :=
  [.mk (some 6) (.fld 0 (.tmp 1)) none [],.mk (some 7) (.load false 1 (.tmp 6)) none [0],.mk (some 8) (.call 76 [.tmp 7]) none [1],.mk (some 9) (.build [.slice none 0 0,.slice none 0 0] [(0,1,.tmp 8)]) none [2],.mk (some 3) (.alloc [.slice none 0 0,.slice none 0 0]) none [],.mk none (.store 2 (.tmp 3) (.tmp 9)) none [4,3,2,0,1,2,3,4]]
def l50r2:List AOper :=
  [.mk (some 10) (.fld 1 (.tmp 1)) none [],.mk (some 11) (.load false 1 (.tmp 10)) none [0],.mk (some 12) (.len (.tmp 11)) none [1],.mk (some 13) (.mv (.const (.int .i64 0))) none []]
def l50r3:List AOper :=
  [.mk (some 14) (.bin .lss (.tmp 13) (.tmp 12)) none []]
def l50r4:List AOper :=
  [.mk (some 15) (.idxA 5 (.tmp 11) (.tmp 13)) none [],.mk (some 16) (.load true 5 (.tmp 15)) none [0],.mk (some 5) (.alloc [.int .i64 0,.int .i64 0,.slice none 0 0,.slice none 0 0,.bool false]) none [],.mk none (.store 5 (.tmp 5) (.tmp 16)) none [2,1,0,1,2]]
def l50r5a:List AOper :=
  [.mk (some 17) (.fld 1 (.tmp 3)) none [],.mk (some 18) (.load false 1 (.tmp 17)) none [0],.mk (some 19) (.fld 0 (.tmp 5)) none [],.mk (some 20) (.load false 1 (.tmp 19)) none [2],.mk (some 21) (.fld 1 (.tmp 5)) none [],.mk (some 22) (.load true 3 (.tmp 21)) none [4],.mk (some 23) (.call 51 [.tmp 22]) none [5],.mk (some 24) (.fld 4 (.tmp 5)) none [],.mk (some 25) (.load false 1 (.tmp 24)) none [7],.mk (some 26) (.build [.int .i64 0,.int .i64 0,.slice none 0 0,.slice none 0 0,.bool false] [(0,1,.tmp 20),(1,3,.tmp 23),(4,1,.tmp 25)]) none [3,6,8],.mk (some 27) (.bslice 5 [.int .i64 0,.int .i64 0,.slice none 0 0,.slice none 0 0,.bool false] [(0,.tmp 26)] 1) none [9]]
def l50r5b:List AOper :=
  [.mk (some 28) (.append 5 (.tmp 18) (.tmp 27)) none [1,10,6],.mk (some 29) (.fld 1 (.tmp 3)) none [0,1,2,3,4,5,6,7,8,9,10,11],.mk none (.store 1 (.tmp 29) (.tmp 28)) none [12,11,11,0,1,2,3,4,5,6,7,8,9,10,11]]
def l50r5:List AOper:=l50r5a ++ l50r5b
def l50r6:List AOper :=
  [.mk (some 30) (.bin .add (.tmp 13) (.const (.int .i64 1))) none [],.mk (some 13) (.mv (.tmp 30)) none [0]]
def l50r7:List AOper :=
  [.mk (some 31) (.load true 2 (.tmp 3)) none [],.mk none (.store 2 (.tmp 2) (.tmp 31)) none [0,0]]
def l50:AFn :=
  (AFn.mk 32 1 (.seq (.reg l50r0) (.seq (.reg l50r1) (.seq (.seq (.reg l50r2) (.block 0 (.loop (.seq (.reg l50r3) (.seq (.cond (.tmp 14) .skip (.exit 0)) (.seq (.block 1 (.seq (.reg l50r4) (.draw l50r5))) (.reg l50r6))))))) (.seq (.reg l50r7) .ret)))) [.cell 2 true 2])
theorem l50_eq:lowFn Tryz.prog 50=some l50:=by kernel_rfl
def l51r0:List AOper :=
  [.mk (some 1) (.box (.tmp 0)) none [],.mk (some 2) (.alloc [.int .i64 0,.slice none 0 0,.slice none 0 0]) none []]
def l51r1a:List AOper :=
  [.mk (some 3) (.fld 0 (.tmp 1)) none [],.mk (some 4) (.load false 1 (.tmp 3)) none [0],.mk (some 5) (.fld 1 (.tmp 1)) none [],.mk (some 6) (.load false 1 (.tmp 5)) none [2],.mk (some 7) (.call 76 [.tmp 6]) none [3],.mk (some 8) (.fld 2 (.tmp 1)) none [],.mk (some 9) (.load false 1 (.tmp 8)) none [5],.mk (some 10) (.call 76 [.tmp 9]) none [6,4]]
def l51r1b:List AOper :=
  [.mk (some 11) (.build [.int .i64 0,.slice none 0 0,.slice none 0 0] [(0,1,.tmp 4),(1,1,.tmp 7),(2,1,.tmp 10)]) none [1,4,7],.mk none (.store 3 (.tmp 2) (.tmp 11)) none [8,7,0,1,2,3,4,5,6,7,8]]
def l51r1:List AOper:=l51r1a ++ l51r1b
def l51:AFn :=
  (AFn.mk 12 1 (.seq (.reg l51r0) (.seq (.draw l51r1) .ret)) [.cell 2 true 3])
theorem l51_eq:lowFn Tryz.prog 51=some l51:=by kernel_rfl
def l52r0:List AOper :=
  [.mk (some 2) (.box (.tmp 0)) none [],.mk (some 3) (.box (.tmp 1)) none [],.mk (some 4) (.mv (.const (.bool false))) none []]
def l52r1:List AOper :=
  [.mk (some 5) (.fld 0 (.tmp 2)) none [],.mk (some 6) (.load false 1 (.tmp 5)) none [0],.mk (some 7) (.fld 0 (.tmp 3)) none [],.mk (some 8) (.load false 1 (.tmp 7)) none [2],.mk (some 9) (.bin .neq (.tmp 6) (.tmp 8)) none [1,3]]
def l52r2:List AOper :=
  [.mk (some 4) (.mv (.const (.bool false))) none []]
def l52r3:List AOper :=
  [.mk (some 10) (.fld 1 (.tmp 2)) none [],.mk (some 11) (.load true 3 (.tmp 10)) none [0],.mk (some 12) (.fld 1 (.tmp 3)) none [],.mk (some 13) (.load true 3 (.tmp 12)) none [2],.mk (some 14) (.call 77 [.tmp 11,.tmp 13]) none [1,3],.mk (some 15) (.un .not (.tmp 14)) none [4]]
def l52r4:List AOper :=
  [.mk (some 4) (.mv (.const (.bool false))) none []]
def l52r5:List AOper :=
  [.mk (some 16) (.fld 4 (.tmp 2)) none [],.mk (some 17) (.load false 1 (.tmp 16)) none [0],.mk (some 18) (.fld 4 (.tmp 3)) none [],.mk (some 19) (.load false 1 (.tmp 18)) none [2],.mk (some 20) (.binB .neq (.tmp 17) (.tmp 19)) none [1,3]]
def l52r6:List AOper :=
  [.mk (some 4) (.mv (.const (.bool false))) none []]
def l52r7:List AOper :=
  [.mk (some 4) (.mv (.const (.bool true))) none []]
def l52:AFn :=
  (AFn.mk 21 2 (.seq (.reg l52r0) (.seq (.seq (.reg l52r1) (.cond (.tmp 9) (.seq (.reg l52r2) .ret) .skip)) (.seq (.seq (.reg l52r3) (.cond (.tmp 15) (.seq (.reg l52r4) .ret) .skip)) (.seq (.seq (.reg l52r5) (.cond (.tmp 20) (.seq (.reg l52r6) .ret) .skip)) (.seq (.reg l52r7) .ret))))) [.tmp 4])
theorem l52_eq:lowFn Tryz.prog 52=some l52:=by kernel_rfl
def l53r0:List AOper :=
  [.mk (some 2) (.box (.tmp 0)) none [],.mk (some 4) (.mv (.const (.int .i64 0))) none []]
def l53r1:List AOper :=
  [.mk (some 5) (.fld 1 (.tmp 2)) none [],.mk (some 6) (.load false 1 (.tmp 5)) none [0],.mk (some 7) (.mv (.tmp 1)) none [],.mk (some 8) (.call 12 [.tmp 6,.tmp 7]) none [1,2],.mk (some 1) (.mv (.tmp 8)) none [3,3,0,1,2,3]]
def l53r2:List AOper :=
  [.mk (some 9) (.mv (.tmp 1)) none [],.mk (some 10) (.bin .lss (.tmp 9) (.const (.int .i64 0))) none [0]]
def l53r3:List AOper :=
  [.mk (some 4) (.mv (.const (.int .i64 (-1)))) none []]
def l53r4:List AOper :=
  [.mk (some 11) (.fld 2 (.tmp 2)) none [],.mk (some 12) (.load false 1 (.tmp 11)) none [0],.mk (some 13) (.mv (.tmp 1)) none [],.mk (some 14) (.call 12 [.tmp 12,.tmp 13]) none [1,2],.mk (some 1) (.mv (.tmp 14)) none [3,3,0,1,2,3]]
def l53r5:List AOper :=
  [.mk (some 15) (.mv (.tmp 1)) none [],.mk (some 16) (.bin .lss (.tmp 15) (.const (.int .i64 0))) none [0]]
def l53r6:List AOper :=
  [.mk (some 4) (.mv (.const (.int .i64 (-1)))) none []]
def l53r7:List AOper :=
  [.mk (some 17) (.mv (.tmp 1)) none [],.mk (some 4) (.mv (.tmp 17)) none [0,0]]
def l53:AFn :=
  (AFn.mk 18 2 (.seq (.reg l53r0) (.seq (.reg l53r1) (.seq (.seq (.reg l53r2) (.cond (.tmp 10) (.seq (.reg l53r3) .ret) .skip)) (.seq (.reg l53r4) (.seq (.seq (.reg l53r5) (.cond (.tmp 16) (.seq (.reg l53r6) .ret) .skip)) (.seq (.reg l53r7) .ret)))))) [.tmp 4])
theorem l53_eq:lowFn Tryz.prog 53=some l53:=by kernel_rfl
def l54r0:List AOper :=
  [.mk (some 2) (.box (.tmp 0)) none [],.mk (some 4) (.mv (.const (.bool false))) none []]
def l54r1:List AOper :=
  [.mk (some 5) (.load true 3 (.tmp 2)) none [],.mk (some 6) (.call 58 [.tmp 5]) none [0],.mk (some 7) (.mv (.tmp 1)) none [],.mk (some 8) (.bin .sub (.tmp 7) (.const (.int .i64 1))) none [2],.mk (some 9) (.call 55 [.tmp 6,.const (.int .i64 0),.tmp 8]) none [1,3,1],.mk (some 4) (.mv (.tmp 9)) none [4,4,0,1,2,3,4]]
def l54:AFn :=
  (AFn.mk 10 2 (.seq (.reg l54r0) (.seq (.reg l54r1) .ret)) [.tmp 4])
theorem l54_eq:lowFn Tryz.prog 54=some l54:=by kernel_rfl
def l55r0:List AOper :=
  [.mk (some 6) (.mv (.const (.bool false))) none []]
def l55r1:List AOper :=
  [.mk (some 7) (.mv (.const (.int .i64 0))) none []]
def l55r2:List AOper :=
  [.mk (some 8) (.mv (.tmp 7)) none [],.mk (some 9) (.mv (.tmp 0)) none [],.mk (some 10) (.len (.tmp 9)) none [1],.mk (some 11) (.bin .lss (.tmp 8) (.tmp 10)) none [0,2]]
def l55r3:List AOper :=
  [.mk (some 14) (.mv (.tmp 0)) none [],.mk (some 15) (.mv (.tmp 7)) none [],.mk (some 16) (.idxA 1 (.tmp 14) (.tmp 15)) none [0,1],.mk (some 17) (.load false 1 (.tmp 16)) none [2],.mk (some 18) (.mv (.tmp 1)) none [],.mk (some 19) (.mv (.tmp 2)) none [],.mk (some 20) (.call 32 [.tmp 17,.tmp 18,.tmp 19]) none [3,4,5],.mk (some 21) (.un .not (.tmp 20)) none [6]]
def l55r4:List AOper :=
  [.mk (some 6) (.mv (.const (.bool false))) none []]
def l55r5:List AOper :=
  [.mk (some 12) (.mv (.tmp 7)) none [],.mk (some 13) (.bin .add (.tmp 12) (.const (.int .i64 1))) none [0],.mk (some 7) (.mv (.tmp 13)) none [1,0,1]]
def l55r6:List AOper :=
  [.mk (some 6) (.mv (.const (.bool true))) none []]
def l55:AFn :=
  (AFn.mk 22 3 (.seq (.reg l55r0) (.seq (.seq (.reg l55r1) (.block 0 (.loop (.seq (.seq (.reg l55r2) (.cond (.tmp 11) .skip (.exit 0))) (.seq (.block 1 (.seq (.reg l55r3) (.cond (.tmp 21) (.seq (.reg l55r4) .ret) .skip))) (.reg l55r5)))))) (.seq (.reg l55r6) .ret))) [.tmp 6])
theorem l55_eq:lowFn Tryz.prog 55=some l55:=by kernel_rfl
def l56r0:List AOper :=
  [.mk (some 2) (.mv (.const (.bool false))) none []]
def l56r1:List AOper :=
  [.mk (some 3) (.mv (.tmp 0)) none [],.mk (some 4) (.len (.tmp 3)) none [0],.mk (some 5) (.bin .leq (.tmp 4) (.const (.int .i64 4))) none [1],.mk (some 6) (.mv (.tmp 5)) none [2],.mk (some 7) (.mv (.tmp 0)) (some (6,true)) [3],.mk (some 8) (.call 55 [.tmp 7,.const (.int .i64 0),.const (.int .i64 60)]) (some (6,true)) [4,3,3],.mk (some 9) (.pick (.tmp 6) (.tmp 8) (.const (.bool false))) none [3,5],.mk (some 10) (.mv (.tmp 9)) none [6,5],.mk (some 11) (.mv (.tmp 0)) (some (10,true)) [7],.mk (some 12) (.call 57 [.tmp 11]) (some (10,true)) [8,7,7],.mk (some 13) (.bin .leq (.tmp 12) (.const (.int .i64 60))) (some (10,true)) [9,7],.mk (some 14) (.pick (.tmp 10) (.tmp 13) (.const (.bool false))) none [7,10],.mk (some 2) (.mv (.tmp 14)) none [11,9,0,1,2,3,4,5,6,7,8,9,10,11]]
def l56:AFn :=
  (AFn.mk 15 1 (.seq (.reg l56r0) (.seq (.reg l56r1) .ret)) [.tmp 2])
theorem l56_eq:lowFn Tryz.prog 56=some l56:=by kernel_rfl
def l57r0:List AOper :=
  [.mk (some 2) (.mv (.const (.int .i64 0))) none []]
def l57r1:List AOper :=
  [.mk (some 3) (.mv (.const (.int .i64 1))) none []]
def l57r2:List AOper :=
  [.mk (some 4) (.mv (.const (.int .i64 0))) none []]
def l57r3:List AOper :=
  [.mk (some 5) (.mv (.tmp 4)) none [],.mk (some 6) (.mv (.tmp 0)) none [],.mk (some 7) (.len (.tmp 6)) none [1],.mk (some 8) (.bin .lss (.tmp 5) (.tmp 7)) none [0,2]]
def l57r4:List AOper :=
  [.mk (some 11) (.mv (.tmp 3)) none [],.mk (some 12) (.mv (.tmp 0)) none [],.mk (some 13) (.mv (.tmp 4)) none [],.mk (some 14) (.idxA 1 (.tmp 12) (.tmp 13)) none [1,2],.mk (some 15) (.load false 1 (.tmp 14)) none [3],.mk (some 16) (.bin .mul (.tmp 11) (.tmp 15)) none [0,4],.mk (some 3) (.mv (.tmp 16)) none [5,0,1,2,3,4,5]]
def l57r5:List AOper :=
  [.mk (some 9) (.mv (.tmp 4)) none [],.mk (some 10) (.bin .add (.tmp 9) (.const (.int .i64 1))) none [0],.mk (some 4) (.mv (.tmp 10)) none [1,0,1]]
def l57r6:List AOper :=
  [.mk (some 17) (.mv (.tmp 3)) none [],.mk (some 2) (.mv (.tmp 17)) none [0,0]]
def l57:AFn :=
  (AFn.mk 18 1 (.seq (.reg l57r0) (.seq (.reg l57r1) (.seq (.seq (.reg l57r2) (.block 0 (.loop (.seq (.seq (.reg l57r3) (.cond (.tmp 8) .skip (.exit 0))) (.seq (.block 1 (.reg l57r4)) (.reg l57r5)))))) (.seq (.reg l57r6) .ret)))) [.tmp 2])
theorem l57_eq:lowFn Tryz.prog 57=some l57:=by kernel_rfl
def l58r0:List AOper :=
  [.mk (some 1) (.box (.tmp 0)) none [],.mk (some 2) (.mv (.const (.slice none 0 0))) none []]
def l58r1:List AOper :=
  [.mk (some 5) (.bslice 1 [.int .i64 0] [] 0) none [],.mk (some 3) (.mv (.tmp 5)) none [0,0]]
def l58r2:List AOper :=
  [.mk (some 4) (.mv (.const (.int .i64 0))) none []]
def l58r3:List AOper :=
  [.mk (some 6) (.mv (.tmp 4)) none [],.mk (some 7) (.fld 1 (.tmp 1)) none [],.mk (some 8) (.load false 1 (.tmp 7)) none [1],.mk (some 9) (.call 57 [.tmp 8]) none [2],.mk (some 10) (.bin .lss (.tmp 6) (.tmp 9)) none [0,3]]
def l58r4a:List AOper :=
  [.mk (some 13) (.mv (.tmp 3)) none [],.mk (some 14) (.load true 3 (.tmp 1)) none [],.mk (some 15) (.fld 1 (.tmp 1)) none [],.mk (some 16) (.load false 1 (.tmp 15)) none [2],.mk (some 17) (.mv (.tmp 4)) none [],.mk (some 18) (.call 79 [.tmp 16,.tmp 17]) none [3,4],.mk (some 19) (.call 78 [.tmp 14,.tmp 18]) none [1,5,5],.mk (some 20) (.bslice 1 [.int .i64 0] [(0,.tmp 19)] 1) none [6]]
def l58r4b:List AOper :=
  [.mk (some 21) (.append 1 (.tmp 13) (.tmp 20)) none [0,7,6],.mk (some 3) (.mv (.tmp 21)) none [8,8,0,1,2,3,4,5,6,7,8]]
def l58r4:List AOper:=l58r4a ++ l58r4b
def l58r5:List AOper :=
  [.mk (some 11) (.mv (.tmp 4)) none [],.mk (some 12) (.bin .add (.tmp 11) (.const (.int .i64 1))) none [0],.mk (some 4) (.mv (.tmp 12)) none [1,0,1]]
def l58r6:List AOper :=
  [.mk (some 22) (.mv (.tmp 3)) none [],.mk (some 2) (.mv (.tmp 22)) none [0,0]]
def l58:AFn :=
  (AFn.mk 23 1 (.seq (.reg l58r0) (.seq (.reg l58r1) (.seq (.seq (.reg l58r2) (.block 0 (.loop (.seq (.seq (.reg l58r3) (.cond (.tmp 10) .skip (.exit 0))) (.seq (.block 1 (.draw l58r4)) (.reg l58r5)))))) (.seq (.reg l58r6) .ret)))) [.tmp 2])
theorem l58_eq:lowFn Tryz.prog 58=some l58:=by kernel_rfl
def l59r0:List AOper :=
  [.mk (some 2) (.alloc [.int .i64 0,.int .i64 0,.int .i64 0]) none []]
def l59r1:List AOper :=
  [.mk (some 5) (.mv (.tmp 0)) none [],.mk (some 6) (.len (.tmp 5)) none [0]]
def l59r2:List AOper :=
  [.mk (some 8) (.bin .eql (.tmp 6) (.const (.int .i64 0))) none [],.mk (some 7) (.mv (.tmp 8)) none [0]]
def l59r3:List AOper :=
  [.mk (some 9) (.build [.int .i64 0,.int .i64 0,.int .i64 0] [(0,1,.const (.int .i64 0)),(1,1,.const (.int .i64 0)),(2,1,.const (.int .i64 1))]) none [],.mk none (.store 3 (.tmp 2) (.tmp 9)) none [0,0]]
def l59r4:List AOper :=
  [.mk (some 11) (.bin .eql (.tmp 6) (.const (.int .i64 1))) none [],.mk (some 10) (.mv (.tmp 11)) none [0]]
def l59r5a:List AOper :=
  [.mk (some 12) (.mv (.tmp 0)) none [],.mk (some 13) (.idxA 1 (.tmp 12) (.const (.int .i64 0))) none [0],.mk (some 14) (.load false 1 (.tmp 13)) none [1],.mk (some 15) (.mv (.tmp 0)) none [],.mk (some 16) (.idxA 1 (.tmp 15) (.const (.int .i64 0))) none [3],.mk (some 17) (.load false 1 (.tmp 16)) none [4],.mk (some 18) (.bin .add (.tmp 17) (.const (.int .i64 1))) none [5]]
def l59r5b:List AOper :=
  [.mk (some 19) (.build [.int .i64 0,.int .i64 0,.int .i64 0] [(0,1,.tmp 14),(1,1,.tmp 18),(2,1,.const (.int .i64 1))]) none [2,6],.mk none (.store 3 (.tmp 2) (.tmp 19)) none [7,0,1,2,3,4,5,6,7]]
def l59r5:List AOper:=l59r5a ++ l59r5b
def l59r6a:List AOper :=
  [.mk (some 20) (.mv (.tmp 0)) none [],.mk (some 21) (.idxA 1 (.tmp 20) (.const (.int .i64 1))) none [0],.mk (some 22) (.load false 1 (.tmp 21)) none [1],.mk (some 23) (.mv (.tmp 0)) none [],.mk (some 24) (.idxA 1 (.tmp 23) (.const (.int .i64 0))) none [3],.mk (some 25) (.load false 1 (.tmp 24)) none [4]]
def l59r6b:List AOper :=
  [.mk (some 26) (.bin .sub (.tmp 22) (.tmp 25)) none [2,5],.mk (some 3) (.mv (.tmp 26)) none [6,0,1,2,3,4,5,6]]
def l59r6:List AOper:=l59r6a ++ l59r6b
def l59r7:List AOper :=
  [.mk (some 27) (.mv (.tmp 0)) none [],.mk (some 28) (.mv (.tmp 0)) none [],.mk (some 29) (.len (.tmp 28)) none [1],.mk (some 30) (.bin .sub (.tmp 29) (.const (.int .i64 1))) none [2],.mk (some 31) (.idxA 1 (.tmp 27) (.tmp 30)) none [0,3],.mk (some 32) (.load false 1 (.tmp 31)) none [4],.mk (some 33) (.bin .add (.tmp 32) (.const (.int .i64 1))) none [5],.mk (some 4) (.mv (.tmp 33)) none [6,0,1,2,3,4,5,6]]
def l59r8:List AOper :=
  [.mk (some 34) (.mv (.tmp 3)) none [],.mk (some 35) (.bin .lss (.tmp 34) (.const (.int .i64 0))) none [0]]
def l59r9:List AOper :=
  [.mk (some 36) (.mv (.tmp 0)) none [],.mk (some 37) (.mv (.tmp 0)) none [],.mk (some 38) (.len (.tmp 37)) none [1],.mk (some 39) (.bin .sub (.tmp 38) (.const (.int .i64 1))) none [2],.mk (some 40) (.idxA 1 (.tmp 36) (.tmp 39)) none [0,3],.mk (some 41) (.load false 1 (.tmp 40)) none [4],.mk (some 42) (.bin .sub (.tmp 41) (.const (.int .i64 1))) none [5],.mk (some 4) (.mv (.tmp 42)) none [6,0,1,2,3,4,5,6]]
def l59r10:List AOper :=
  [.mk (some 43) (.mv (.tmp 0)) none [],.mk (some 44) (.idxA 1 (.tmp 43) (.const (.int .i64 0))) none [0],.mk (some 45) (.load false 1 (.tmp 44)) none [1],.mk (some 46) (.mv (.tmp 4)) none [],.mk (some 47) (.mv (.tmp 3)) none [],.mk (some 48) (.build [.int .i64 0,.int .i64 0,.int .i64 0] [(0,1,.tmp 45),(1,1,.tmp 46),(2,1,.tmp 47)]) none [2,3,4],.mk none (.store 3 (.tmp 2) (.tmp 48)) none [5,0,1,2,3,4,5]]
def l59:AFn :=
  (AFn.mk 49 1 (.seq (.reg l59r0) (.seq (.seq (.reg l59r1) (.block 0 (.seq (.reg l59r2) (.cond (.tmp 7) (.seq (.reg l59r3) .ret) (.seq (.reg l59r4) (.cond (.tmp 10) (.seq (.draw l59r5) .ret) .skip)))))) (.seq (.draw l59r6) (.seq (.reg l59r7) (.seq (.seq (.reg l59r8) (.cond (.tmp 35) (.reg l59r9) .skip)) (.seq (.reg l59r10) .ret)))))) [.cell 2 true 3])
theorem l59_eq:lowFn Tryz.prog 59=some l59:=by kernel_rfl
def l60r0:List AOper :=
  [.mk (some 3) (.box (.tmp 1)) none [],.mk (some 4) (.mv (.const (.slice none 0 0))) none []]
def l60r1:List AOper :=
  [.mk (some 5) (.mv (.const (.int .i64 0))) none []]
def l60r2:List AOper :=
  [.mk (some 7) (.mv (.tmp 0)) none [],.mk (some 6) (.mv (.tmp 7)) none [0,0]]
def l60r3:List AOper :=
  [.mk (some 8) (.fld 2 (.tmp 3)) none [],.mk (some 9) (.load false 1 (.tmp 8)) none [0],.mk (some 10) (.bin .lss (.tmp 9) (.const (.int .i64 0))) none [1]]
def l60r4:List AOper :=
  [.mk (some 11) (.mv (.tmp 0)) none [],.mk (some 12) (.bin .sub (.tmp 11) (.const (.int .i64 1))) none [0],.mk (some 5) (.mv (.tmp 12)) none [1,0,1]]
def l60r5:List AOper :=
  [.mk (some 6) (.mv (.const (.int .i64 (-1)))) none []]
def l60r6:List AOper :=
  [.mk (some 13) (.fld 3 (.tmp 3)) none [],.mk (some 14) (.load false 1 (.tmp 13)) none [0]]
def l60r7:List AOper :=
  [.mk (some 15) (.mv (.tmp 0)) none [],.mk (some 16) (.fld 0 (.tmp 3)) none [],.mk (some 17) (.load false 1 (.tmp 16)) none [1],.mk (some 18) (.fld 2 (.tmp 3)) none [],.mk (some 19) (.load false 1 (.tmp 18)) none [3],.mk (some 20) (.call 80 [.tmp 15,.tmp 17,.tmp 19]) none [0,2,4],.mk (some 5) (.mv (.tmp 20)) none [5,5,0,1,2,3,4,5]]
def l60r8:List AOper :=
  [.mk (some 21) (.fld 4 (.tmp 3)) none [],.mk (some 22) (.load false 1 (.tmp 21)) none [0]]
def l60r9:List AOper :=
  [.mk (some 23) (.mv (.tmp 0)) none [],.mk (some 24) (.fld 1 (.tmp 3)) none [],.mk (some 25) (.load false 1 (.tmp 24)) none [1],.mk (some 26) (.fld 2 (.tmp 3)) none [],.mk (some 27) (.load false 1 (.tmp 26)) none [3],.mk (some 28) (.call 80 [.tmp 23,.tmp 25,.tmp 27]) none [0,2,4],.mk (some 6) (.mv (.tmp 28)) none [5,5,0,1,2,3,4,5]]
def l60r10:List AOper :=
  [.mk (some 29) (.mv (.tmp 5)) none [],.mk (some 30) (.mv (.tmp 6)) none [],.mk (some 31) (.fld 2 (.tmp 3)) none [],.mk (some 32) (.load false 1 (.tmp 31)) none [2],.mk (some 33) (.build [.int .i64 0,.int .i64 0,.int .i64 0] [(0,1,.tmp 29),(1,1,.tmp 30),(2,1,.tmp 32)]) none [0,1,3],.mk (some 34) (.call 61 [.tmp 33]) none [4],.mk (some 4) (.mv (.tmp 34)) none [5,5,0,1,2,3,4,5]]
def l60:AFn :=
  (AFn.mk 35 2 (.seq (.reg l60r0) (.seq (.reg l60r1) (.seq (.reg l60r2) (.seq (.seq (.reg l60r3) (.cond (.tmp 10) (.seq (.reg l60r4) (.reg l60r5)) .skip)) (.seq (.seq (.reg l60r6) (.cond (.tmp 14) (.reg l60r7) .skip)) (.seq (.seq (.reg l60r8) (.cond (.tmp 22) (.reg l60r9) .skip)) (.seq (.reg l60r10) .ret))))))) [.tmp 4])
theorem l60_eq:lowFn Tryz.prog 60=some l60:=by kernel_rfl
def l61r0:List AOper :=
  [.mk (some 1) (.box (.tmp 0)) none [],.mk (some 2) (.mv (.const (.slice none 0 0))) none []]
def l61r1:List AOper :=
  [.mk (some 5) (.bslice 1 [.int .i64 0] [] 0) none [],.mk (some 3) (.mv (.tmp 5)) none [0,0]]
def l61r2:List AOper :=
  [.mk (some 6) (.fld 0 (.tmp 1)) none [],.mk (some 7) (.load false 1 (.tmp 6)) none [0],.mk (some 4) (.mv (.tmp 7)) none [1,0,1]]
def l61r3:List AOper :=
  [.mk (some 8) (.fld 2 (.tmp 1)) none [],.mk (some 9) (.load false 1 (.tmp 8)) none [0],.mk (some 10) (.bin .gtr (.tmp 9) (.const (.int .i64 0))) none [1],.mk (some 11) (.mv (.tmp 10)) none [2],.mk (some 12) (.mv (.tmp 4)) (some (11,true)) [3],.mk (some 13) (.fld 1 (.tmp 1)) (some (11,true)) [3],.mk (some 14) (.load false 1 (.tmp 13)) (some (11,true)) [5,3],.mk (some 15) (.bin .lss (.tmp 12) (.tmp 14)) (some (11,true)) [4,6,3],.mk (some 16) (.pick (.tmp 11) (.tmp 15) (.const (.bool false))) none [3,7],.mk (some 17) (.mv (.tmp 16)) none [8,3],.mk (some 18) (.fld 2 (.tmp 1)) (some (17,false)) [9],.mk (some 19) (.load false 1 (.tmp 18)) (some (17,false)) [10,9],.mk (some 20) (.bin .lss (.tmp 19) (.const (.int .i64 0))) (some (17,false)) [11,9],.mk (some 21) (.mv (.tmp 20)) (some (17,false)) [12,9,9],.mk (some 22) (.mv (.tmp 4)) (some (21,true)) [13],.mk (some 23) (.fld 1 (.tmp 1)) (some (21,true)) [13],.mk (some 24) (.load false 1 (.tmp 23)) (some (21,true)) [15,13],.mk (some 25) (.bin .gtr (.tmp 22) (.tmp 24)) (some (21,true)) [14,16,13],.mk (some 26) (.pick (.tmp 21) (.tmp 25) (.const (.bool false))) (some (17,false)) [13,17,9],.mk (some 27) (.pick (.tmp 17) (.const (.bool true)) (.tmp 26)) none [9,18]]
def l61r4:List AOper :=
  [.mk (some 32) (.mv (.tmp 3)) none [],.mk (some 33) (.mv (.tmp 4)) none [],.mk (some 34) (.bslice 1 [.int .i64 0] [(0,.tmp 33)] 1) none [1],.mk (some 35) (.append 1 (.tmp 32) (.tmp 34)) none [0,2],.mk (some 3) (.mv (.tmp 35)) none [3,3,0,1,2,3]]
def l61r5:List AOper :=
  [.mk (some 28) (.mv (.tmp 4)) none [],.mk (some 29) (.fld 2 (.tmp 1)) none [],.mk (some 30) (.load false 1 (.tmp 29)) none [1],.mk (some 31) (.bin .add (.tmp 28) (.tmp 30)) none [0,2],.mk (some 4) (.mv (.tmp 31)) none [3,0,1,2,3]]
def l61r6:List AOper :=
  [.mk (some 36) (.mv (.tmp 3)) none [],.mk (some 2) (.mv (.tmp 36)) none [0,0]]
def l61:AFn :=
  (AFn.mk 37 1 (.seq (.reg l61r0) (.seq (.reg l61r1) (.seq (.seq (.reg l61r2) (.block 0 (.loop (.seq (.seq (.reg l61r3) (.cond (.tmp 27) .skip (.exit 0))) (.seq (.block 1 (.reg l61r4)) (.reg l61r5)))))) (.seq (.reg l61r6) .ret)))) [.tmp 2])
theorem l61_eq:lowFn Tryz.prog 61=some l61:=by kernel_rfl
def l62r0:List AOper :=
  [.mk (some 1) (.box (.tmp 0)) none [],.mk (some 2) (.alloc [.int .i64 0,.slice none 0 0,.slice none 0 0]) none []]
def l62r1:List AOper :=
  [.mk (some 3) (.fld 1 (.tmp 1)) none [],.mk (some 4) (.load false 1 (.tmp 3)) none [0],.mk (some 5) (.call 57 [.tmp 4]) none [1],.mk (some 6) (.bin .eql (.tmp 5) (.const (.int .i64 0))) none [2]]
def l62r2a:List AOper :=
  [.mk (some 7) (.fld 1 (.tmp 1)) none [],.mk (some 8) (.load false 1 (.tmp 7)) none [0],.mk (some 9) (.fld 1 (.tmp 1)) none [],.mk (some 10) (.load false 1 (.tmp 9)) none [2],.mk (some 11) (.len (.tmp 10)) none [3],.mk (some 12) (.mkslice 1 [.int .i64 0] (.tmp 11) (.tmp 11)) none [4,4]]
def l62r2b:List AOper :=
  [.mk (some 13) (.build [.int .i64 0,.slice none 0 0,.slice none 0 0] [(1,1,.tmp 8),(2,1,.tmp 12)]) none [1,5],.mk none (.store 3 (.tmp 2) (.tmp 13)) none [6,0,1,2,3,4,5,6]]
def l62r2:List AOper:=l62r2a ++ l62r2b
def l62r3:List AOper :=
  [.mk (some 14) (.load true 3 (.tmp 1)) none [],.mk none (.store 3 (.tmp 2) (.tmp 14)) none [0,0]]
def l62:AFn :=
  (AFn.mk 15 1 (.seq (.reg l62r0) (.seq (.seq (.reg l62r1) (.cond (.tmp 6) (.seq (.draw l62r2) .ret) .skip)) (.seq (.reg l62r3) .ret))) [.cell 2 true 3])
theorem l62_eq:lowFn Tryz.prog 62=some l62:=by kernel_rfl
def l63r0:List AOper :=
  [.mk (some 2) (.mv (.const (.slice none 0 0))) none []]
def l63r1:List AOper :=
  [.mk (some 3) (.bslice 1 [.int .i64 0] [] 0) none [],.mk (some 4) (.mv (.tmp 0)) none [],.mk (some 5) (.append 1 (.tmp 3) (.tmp 4)) none [0,1],.mk (some 2) (.mv (.tmp 5)) none [2,2,0,1,2]]
def l63:AFn :=
  (AFn.mk 6 1 (.seq (.reg l63r0) (.seq (.reg l63r1) .ret)) [.tmp 2])
theorem l63_eq:lowFn Tryz.prog 63=some l63:=by kernel_rfl
def l64r0:List AOper :=
  [.mk (some 1) (.box (.tmp 0)) none [],.mk (some 2) (.alloc [.int .i64 0,.slice none 0 0,.slice none 0 0]) none []]
def l64r1:List AOper :=
  [.mk (some 3) (.alloc [.int .i64 0,.slice none 0 0,.slice none 0 0]) none []]
def l64r2:List AOper :=
  [.mk (some 4) (.fld 0 (.tmp 1)) none [],.mk (some 5) (.load false 1 (.tmp 4)) none [0],.mk (some 6) (.fld 0 (.tmp 3)) none [0,1],.mk none (.store 1 (.tmp 6) (.tmp 5)) none [2,1,0,1]]
def l64r3:List AOper :=
  [.mk (some 7) (.fld 1 (.tmp 1)) none [],.mk (some 8) (.load false 1 (.tmp 7)) none [0],.mk (some 9) (.call 18 [.tmp 8]) none [1],.mk (some 10) (.fld 1 (.tmp 3)) none [0,1,2],.mk none (.store 1 (.tmp 10) (.tmp 9)) none [3,2,2,0,1,2]]
def l64r4:List AOper :=
  [.mk (some 11) (.fld 2 (.tmp 1)) none [],.mk (some 12) (.load false 1 (.tmp 11)) none [0],.mk (some 13) (.call 18 [.tmp 12]) none [1],.mk (some 14) (.fld 2 (.tmp 3)) none [0,1,2],.mk none (.store 1 (.tmp 14) (.tmp 13)) none [3,2,2,0,1,2]]
def l64r5:List AOper :=
  [.mk (some 15) (.load true 3 (.tmp 3)) none [],.mk none (.store 3 (.tmp 2) (.tmp 15)) none [0,0]]
def l64:AFn :=
  (AFn.mk 16 1 (.seq (.reg l64r0) (.seq (.reg l64r1) (.seq (.reg l64r2) (.seq (.reg l64r3) (.seq (.reg l64r4) (.seq (.reg l64r5) .ret)))))) [.cell 2 true 3])
theorem l64_eq:lowFn Tryz.prog 64=some l64:=by kernel_rfl
def l65r0:List AOper :=
  [.mk (some 2) (.mv (.const (.bool false))) none []]
def l65r1:List AOper :=
  [.mk (some 3) (.mv (.tmp 0)) none [],.mk (some 4) (.len (.tmp 3)) none [0],.mk (some 5) (.call 81 [.tmp 4]) none [1],.mk (some 6) (.mv (.tmp 5)) none [2,2],.mk (some 7) (.mv (.tmp 0)) (some (6,true)) [3],.mk (some 8) (.call 82 [.tmp 7]) (some (6,true)) [4,3,3],.mk (some 9) (.pick (.tmp 6) (.tmp 8) (.const (.bool false))) none [3,5],.mk (some 2) (.mv (.tmp 9)) none [6,5,0,1,2,3,4,5,6]]
def l65:AFn :=
  (AFn.mk 10 1 (.seq (.reg l65r0) (.seq (.reg l65r1) .ret)) [.tmp 2])
theorem l65_eq:lowFn Tryz.prog 65=some l65:=by kernel_rfl
def l66r0:List AOper :=
  [.mk (some 3) (.box (.tmp 0)) none [],.mk (some 6) (.mv (.const (.bool false))) none []]
def l66r1:List AOper :=
  [.mk (some 7) (.fld 1 (.tmp 3)) none [],.mk (some 8) (.load true 3 (.tmp 7)) none [0],.mk (some 9) (.call 70 [.tmp 8]) none [1],.mk (some 10) (.un .not (.tmp 9)) none [2],.mk (some 11) (.mv (.tmp 10)) none [3,2],.mk (some 12) (.fld 0 (.tmp 3)) (some (11,false)) [4],.mk (some 13) (.load false 1 (.tmp 12)) (some (11,false)) [5,4],.mk (some 14) (.bin .lss (.tmp 13) (.const (.int .i64 (-1)))) (some (11,false)) [6,4],.mk (some 15) (.pick (.tmp 11) (.const (.bool true)) (.tmp 14)) none [4,7],.mk (some 16) (.mv (.tmp 15)) none [8,4],.mk (some 17) (.fld 0 (.tmp 3)) (some (16,false)) [9],.mk (some 18) (.load false 1 (.tmp 17)) (some (16,false)) [10,9],.mk (some 19) (.mv (.tmp 1)) (some (16,false)) [9],.mk (some 20) (.bin .geq (.tmp 18) (.tmp 19)) (some (16,false)) [11,12,9],.mk (some 21) (.pick (.tmp 16) (.const (.bool true)) (.tmp 20)) none [9,13]]
def l66r2:List AOper :=
  [.mk (some 6) (.mv (.const (.bool false))) none []]
def l66r3:List AOper :=
  [.mk (some 22) (.fld 4 (.tmp 3)) none [],.mk (some 23) (.load false 1 (.tmp 22)) none [0],.mk (some 24) (.un .not (.tmp 23)) none [1],.mk (some 25) (.mv (.tmp 24)) none [2],.mk (some 26) (.fld 1 (.tmp 3)) (some (25,false)) [3],.mk (some 27) (.load true 3 (.tmp 26)) (some (25,false)) [4,3],.mk (some 28) (.mv (.tmp 2)) (some (25,false)) [3],.mk (some 29) (.call 83 [.tmp 27,.tmp 28]) (some (25,false)) [5,6,3,3],.mk (some 30) (.pick (.tmp 25) (.const (.bool true)) (.tmp 29)) none [3,7],.mk (some 6) (.mv (.tmp 30)) none [8,7,0,1,2,3,4,5,6,7,8]]
def l66:AFn :=
  (AFn.mk 31 3 (.seq (.reg l66r0) (.seq (.seq (.reg l66r1) (.cond (.tmp 21) (.seq (.reg l66r2) .ret) .skip)) (.seq (.reg l66r3) .ret))) [.tmp 6])
theorem l66_eq:lowFn Tryz.prog 66=some l66:=by kernel_rfl
def l67r0:List AOper :=
  [.mk (some 4) (.mv (.const (.bool false))) none []]
def l67r1:List AOper :=
  [.mk (some 6) (.mv (.tmp 0)) none [],.mk (some 7) (.bin .eql (.tmp 6) (.const .nilIface)) none [0],.mk (some 8) (.mv (.tmp 7)) none [1],.mk (some 9) (.mv (.tmp 1)) (some (8,false)) [2],.mk (some 10) (.bin .eql (.tmp 9) (.const .nilIface)) (some (8,false)) [3,2],.mk (some 11) (.pick (.tmp 8) (.const (.bool true)) (.tmp 10)) none [2,4]]
def l67r2:List AOper :=
  [.mk (some 12) (.mv (.tmp 0)) none [],.mk (some 13) (.mv (.tmp 1)) none [],.mk (some 14) (.bin .eql (.tmp 12) (.tmp 13)) none [0,1],.mk (some 4) (.mv (.tmp 14)) none [2,0,1,2]]
def l67r3:List AOper :=
  [.mk (some 15) (.mv (.tmp 1)) none [],.mk (some 16) (.raw (Op.call (Call.mk (Callee.value (.func 84)) (Array.mk [.tmp 15]) (Array.mk [20])))) none [0],.mk (some 17) (.raw (Op.call (Call.mk (Callee.invoke (.tmp 16) "Comparable") (Array.mk []) (Array.mk [])))) none [1,1],.mk (some 5) (.mv (.tmp 17)) none [2,2,0,1,2]]
def l67r4:List AOper :=
  [.mk (some 18) (.mv (.tmp 0)) none [],.mk (some 19) (.mv (.tmp 1)) none [],.mk (some 20) (.mv (.tmp 5)) none [],.mk (some 21) (.call 85 [.tmp 18,.tmp 19,.tmp 20]) none [0,1,2],.mk (some 4) (.mv (.tmp 21)) none [3,3,0,1,2,3]]
def l67:AFn :=
  (AFn.mk 22 2 (.seq (.reg l67r0) (.seq (.seq (.reg l67r1) (.cond (.tmp 11) (.seq (.reg l67r2) .ret) .skip)) (.seq (.reg l67r3) (.seq (.reg l67r4) .ret)))) [.tmp 4])
theorem l67_eq:lowFn Tryz.prog 67=some l67:=by kernel_rfl
def l68r0:List AOper :=
  [.mk (some 2) (.box (.tmp 0)) none [],.mk (some 4) (.mv (.const (.pointer none))) none []]
def l68r1:List AOper :=
  [.mk (some 10) (.build [.slice none 0 0] []) none [],.mk (some 11) (.box (.tmp 10)) none [0],.mk (some 5) (.mv (.tmp 11)) none [1,0,1]]
def l68r2:List AOper :=
  [.mk (some 6) (.mv (.const (.slice none 0 0))) none []]
def l68r3:List AOper :=
  [.mk (some 12) (.fld 1 (.tmp 2)) none [],.mk (some 13) (.load false 1 (.tmp 12)) none [0],.mk (some 14) (.len (.tmp 13)) none [1],.mk (some 15) (.mv (.const (.int .i64 0))) none []]
def l68r4:List AOper :=
  [.mk (some 16) (.bin .lss (.tmp 15) (.tmp 14)) none []]
def l68r5:List AOper :=
  [.mk (some 17) (.mv (.tmp 15)) none [],.mk (some 18) (.idxA 5 (.tmp 13) (.tmp 15)) none [],.mk (some 19) (.load true 5 (.tmp 18)) none [1],.mk (some 8) (.alloc [.int .i64 0,.int .i64 0,.slice none 0 0,.slice none 0 0,.bool false]) none [],.mk (some 7) (.mv (.tmp 17)) none [0,0,1,2,3],.mk none (.store 5 (.tmp 8) (.tmp 19)) none [3,2,4,0,1,2,3,4]]
def l68r6:List AOper :=
  [.mk (some 20) (.mv (.tmp 5)) none [],.mk (some 9) (.mv (.tmp 20)) none [0,0]]
def l68r7:List AOper :=
  [.mk (some 21) (.fld 0 (.tmp 8)) none [],.mk (some 22) (.load false 1 (.tmp 21)) none [0],.mk (some 23) (.bin .neq (.tmp 22) (.const (.int .i64 (-1)))) none [1]]
def l68r8:List AOper :=
  [.mk (some 24) (.mv (.tmp 6)) none [],.mk (some 25) (.fld 0 (.tmp 8)) none [],.mk (some 26) (.load false 1 (.tmp 25)) none [1],.mk (some 27) (.idxA 1 (.tmp 24) (.tmp 26)) none [0,2],.mk (some 28) (.load false 1 (.tmp 27)) none [3],.mk (some 9) (.mv (.tmp 28)) none [4,0,1,2,3,4]]
def l68r9:List AOper :=
  [.mk (some 29) (.mv (.tmp 6)) none [],.mk (some 30) (.mv (.tmp 9)) none [],.mk (some 31) (.mv (.tmp 7)) none [],.mk (some 32) (.fld 4 (.tmp 8)) none [],.mk (some 33) (.load false 1 (.tmp 32)) none [3],.mk (some 34) (.call 86 [.tmp 30,.tmp 31,.tmp 33]) none [1,2,4],.mk (some 35) (.bslice 1 [.pointer none] [(0,.tmp 34)] 1) none [5],.mk (some 36) (.append 1 (.tmp 29) (.tmp 35)) none [0,6,5],.mk (some 6) (.mv (.tmp 36)) none [7,7,0,1,2,3,4,5,6,7]]
def l68r10:List AOper :=
  [.mk (some 37) (.bin .add (.tmp 15) (.const (.int .i64 1))) none [],.mk (some 15) (.mv (.tmp 37)) none [0]]
def l68r11:List AOper :=
  [.mk (some 38) (.mv (.tmp 1)) none [],.mk (some 39) (.bin .eql (.tmp 38) (.const (.int .i64 (-1)))) none [0]]
def l68r12:List AOper :=
  [.mk (some 40) (.mv (.tmp 5)) none [],.mk (some 4) (.mv (.tmp 40)) none [0,0]]
def l68r13:List AOper :=
  [.mk (some 41) (.mv (.tmp 6)) none [],.mk (some 42) (.mv (.tmp 1)) none [],.mk (some 43) (.idxA 1 (.tmp 41) (.tmp 42)) none [0,1],.mk (some 44) (.load false 1 (.tmp 43)) none [2],.mk (some 4) (.mv (.tmp 44)) none [3,0,1,2,3]]
def l68:AFn :=
  (AFn.mk 45 2 (.seq (.reg l68r0) (.seq (.reg l68r1) (.seq (.reg l68r2) (.seq (.seq (.reg l68r3) (.block 0 (.loop (.seq (.reg l68r4) (.seq (.cond (.tmp 16) .skip (.exit 0)) (.seq (.block 1 (.seq (.reg l68r5) (.seq (.reg l68r6) (.seq (.seq (.reg l68r7) (.cond (.tmp 23) (.reg l68r8) .skip)) (.reg l68r9))))) (.reg l68r10))))))) (.seq (.seq (.reg l68r11) (.cond (.tmp 39) (.seq (.reg l68r12) .ret) .skip)) (.seq (.reg l68r13) .ret)))))) [.tmp 4])
theorem l68_eq:lowFn Tryz.prog 68=some l68:=by kernel_rfl
def l69r0:List AOper :=
  [.mk (some 2) (.mv (.const .nilIface)) none []]
def l69r1:List AOper :=
  [.mk (some 3) (.mv (.tmp 0)) none [],.mk (some 4) (.nilck (.tmp 3)) none [0],.mk (some 5) (.fld 0 (.tmp 4)) none [1],.mk (some 6) (.load false 1 (.tmp 5)) none [2],.mk (some 7) (.len (.tmp 6)) none [3],.mk (some 8) (.bin .gtr (.tmp 7) (.const (.int .i64 0))) none [4]]
def l69r2:List AOper :=
  [.mk (some 9) (.load false 1 (.global 0)) none [],.mk (some 2) (.mv (.tmp 9)) none [0,0]]
def l69r3:List AOper :=
  [.mk (some 2) (.mv (.const .nilIface)) none []]
def l69:AFn :=
  (AFn.mk 10 1 (.seq (.reg l69r0) (.seq (.seq (.reg l69r1) (.cond (.tmp 8) (.seq (.reg l69r2) .ret) .skip)) (.seq (.reg l69r3) .ret))) [.tmp 2])
theorem l69_eq:lowFn Tryz.prog 69=some l69:=by kernel_rfl
def l70r0:List AOper :=
  [.mk (some 1) (.box (.tmp 0)) none [],.mk (some 2) (.mv (.const (.bool false))) none []]
def l70r1:List AOper :=
  [.mk (some 5) (.fld 1 (.tmp 1)) none [],.mk (some 6) (.load false 1 (.tmp 5)) none [0],.mk (some 7) (.call 87 [.tmp 6]) none [1],.mk (some 8) (.un .not (.tmp 7)) none [2],.mk (some 9) (.mv (.tmp 8)) none [3,2],.mk (some 10) (.fld 2 (.tmp 1)) (some (9,false)) [4],.mk (some 11) (.load false 1 (.tmp 10)) (some (9,false)) [5,4],.mk (some 12) (.fld 1 (.tmp 1)) (some (9,false)) [4],.mk (some 13) (.load false 1 (.tmp 12)) (some (9,false)) [7,4],.mk (some 14) (.len (.tmp 13)) (some (9,false)) [8,4],.mk (some 15) (.call 88 [.tmp 11,.tmp 14]) (some (9,false)) [6,9,4,4],.mk (some 16) (.un .not (.tmp 15)) (some (9,false)) [10,4],.mk (some 17) (.pick (.tmp 9) (.const (.bool true)) (.tmp 16)) none [4,11],.mk (some 18) (.mv (.tmp 17)) none [12,10],.mk (some 19) (.fld 0 (.tmp 1)) (some (18,false)) [13],.mk (some 20) (.load false 1 (.tmp 19)) (some (18,false)) [14,13],.mk (some 21) (.call 42 [.tmp 20,.const (.int .i64 60)]) (some (18,false)) [15,13,13],.mk (some 22) (.un .not (.tmp 21)) (some (18,false)) [16,13],.mk (some 23) (.pick (.tmp 18) (.const (.bool true)) (.tmp 22)) none [13,17]]
def l70r2:List AOper :=
  [.mk (some 2) (.mv (.const (.bool false))) none []]
def l70r3:List AOper :=
  [.mk (some 25) (.load true 3 (.tmp 1)) none [],.mk (some 26) (.call 89 [.tmp 25]) none [0],.mk (some 24) (.mv (.tmp 26)) none [1],.mk (some 27) (.extract (.tmp 24) 0) none [2],.mk (some 28) (.extract (.tmp 24) 1) none [2],.mk (some 3) (.mv (.tmp 27)) none [3,1,0,1,2,3],.mk (some 4) (.mv (.tmp 28)) none [4,5,0,1,2,3,4,5]]
def l70r4:List AOper :=
  [.mk (some 29) (.load true 3 (.tmp 1)) none [],.mk (some 30) (.call 75 [.tmp 29]) none [0],.mk (some 31) (.bin .eql (.tmp 30) (.const (.int .i64 0))) none [1],.mk (some 32) (.mv (.tmp 31)) none [2,1],.mk (some 33) (.mv (.tmp 3)) (some (32,false)) [3],.mk (some 34) (.bin .geq (.tmp 33) (.const (.int .i64 0))) (some (32,false)) [4,3],.mk (some 35) (.mv (.tmp 34)) (some (32,false)) [5,3,3],.mk (some 36) (.mv (.tmp 4)) (some (35,true)) [6],.mk (some 37) (.bin .lss (.tmp 36) (.const (.int .i64 60))) (some (35,true)) [7,6],.mk (some 38) (.pick (.tmp 35) (.tmp 37) (.const (.bool false))) (some (32,false)) [6,8,3],.mk (some 39) (.pick (.tmp 32) (.const (.bool true)) (.tmp 38)) none [3,9],.mk (some 2) (.mv (.tmp 39)) none [10,6,0,1,2,3,4,5,6,7,8,9,10]]
def l70:AFn :=
  (AFn.mk 40 1 (.seq (.reg l70r0) (.seq (.seq (.reg l70r1) (.cond (.tmp 23) (.seq (.reg l70r2) .ret) .skip)) (.seq (.reg l70r3) (.seq (.reg l70r4) .ret)))) [.tmp 2])
theorem l70_eq:lowFn Tryz.prog 70=some l70:=by kernel_rfl
def l71r0:List AOper :=
  [.mk (some 4) (.mv (.const (.bool false))) none []]
def l71r1:List AOper :=
  [.mk (some 5) (.mv (.tmp 0)) none [],.mk (some 6) (.call 90 [.tmp 5,.const (.int .i64 100)]) none [0],.mk (some 7) (.mv (.tmp 6)) none [1,1],.mk (some 8) (.mv (.tmp 1)) (some (7,true)) [2],.mk (some 9) (.mv (.tmp 8)) (some (7,true)) [3,2,2],.mk (some 10) (.mv (.tmp 0)) (some (9,false)) [4],.mk (some 11) (.bin .eql (.tmp 10) (.const (.int .i64 0))) (some (9,false)) [5,4],.mk (some 12) (.pick (.tmp 9) (.const (.bool true)) (.tmp 11)) (some (7,true)) [4,6,2],.mk (some 13) (.pick (.tmp 7) (.tmp 12) (.const (.bool false))) none [2,7],.mk (some 4) (.mv (.tmp 13)) none [8,4,0,1,2,3,4,5,6,7,8]]
def l71:AFn :=
  (AFn.mk 14 2 (.seq (.reg l71r0) (.seq (.reg l71r1) .ret)) [.tmp 4])
theorem l71_eq:lowFn Tryz.prog 71=some l71:=by kernel_rfl
def l72r0:List AOper :=
  [.mk (some 2) (.mv (.const (.bool false))) none []]
def l72r1:List AOper :=
  [.mk (some 3) (.mv (.tmp 0)) none [],.mk (some 4) (.call 90 [.tmp 3,.const (.int .i64 200)]) none [0],.mk (some 5) (.mv (.tmp 4)) none [1,1],.mk (some 6) (.mv (.tmp 0)) (some (5,true)) [2],.mk (some 7) (.bin .neq (.tmp 6) (.const (.int .i64 0))) (some (5,true)) [3,2],.mk (some 8) (.pick (.tmp 5) (.tmp 7) (.const (.bool false))) none [2,4],.mk (some 2) (.mv (.tmp 8)) none [5,2,0,1,2,3,4,5]]
def l72:AFn :=
  (AFn.mk 9 1 (.seq (.reg l72r0) (.seq (.reg l72r1) .ret)) [.tmp 2])
theorem l72_eq:lowFn Tryz.prog 72=some l72:=by kernel_rfl
def l73r0:List AOper :=
  [.mk (some 8) (.mv (.const (.int .i64 0))) none []]
def l73r1:List AOper :=
  [.mk (some 9) (.mv (.tmp 0)) none [],.mk (some 10) (.bin .lss (.tmp 9) (.const (.int .i64 0))) none [0]]
def l73r2:List AOper :=
  [.mk (some 11) (.mv (.tmp 0)) none [],.mk (some 12) (.mv (.tmp 1)) none [],.mk (some 13) (.bin .add (.tmp 11) (.tmp 12)) none [0,1],.mk (some 0) (.mv (.tmp 13)) none [2,0,1,2]]
def l73r3:List AOper :=
  [.mk (some 14) (.mv (.tmp 0)) none [],.mk (some 15) (.mv (.tmp 2)) none [],.mk (some 16) (.minmax true (.tmp 14) (.tmp 15)) none [0,1],.mk (some 17) (.mv (.tmp 3)) none [],.mk (some 18) (.minmax false (.tmp 16) (.tmp 17)) none [2,3],.mk (some 8) (.mv (.tmp 18)) none [4,0,1,2,3,4]]
def l73:AFn :=
  (AFn.mk 19 4 (.seq (.reg l73r0) (.seq (.seq (.reg l73r1) (.cond (.tmp 10) (.reg l73r2) .skip)) (.seq (.reg l73r3) .ret))) [.tmp 8])
theorem l73_eq:lowFn Tryz.prog 73=some l73:=by kernel_rfl
def l74r0:List AOper :=
  [.mk (some 1) (.box (.tmp 0)) none [],.mk (some 2) (.alloc [.int .i64 0,.slice none 0 0,.slice none 0 0]) none []]
def l74r1:List AOper :=
  [.mk (some 6) (.fld 0 (.tmp 1)) none [],.mk (some 7) (.load true 3 (.tmp 6)) none [0],.mk (some 8) (.fld 3 (.tmp 1)) none [],.mk (some 9) (.load true 4 (.tmp 8)) none [2],.mk (some 10) (.call 91 [.tmp 7,.tmp 9]) none [1,3],.mk (some 11) (.build [.int .i64 0,.slice none 0 0,.slice none 0 0] [(0,1,.tmp 10)]) none [4],.mk (some 3) (.alloc [.int .i64 0,.slice none 0 0,.slice none 0 0]) none [],.mk none (.store 3 (.tmp 3) (.tmp 11)) none [6,5,4,0,1,2,3,4,5,6]]
def l74r2:List AOper :=
  [.mk (some 12) (.fld 7 (.tmp 1)) none [],.mk (some 13) (.load false 1 (.tmp 12)) none [0],.mk (some 14) (.len (.tmp 13)) none [1],.mk (some 15) (.mv (.const (.int .i64 0))) none []]
def l74r3:List AOper :=
  [.mk (some 16) (.bin .lss (.tmp 15) (.tmp 14)) none []]
def l74r4:List AOper :=
  [.mk (some 17) (.idxA 2 (.tmp 13) (.tmp 15)) none [],.mk (some 18) (.load true 2 (.tmp 17)) none [0],.mk (some 5) (.alloc [.int .i64 0,.int .i64 0]) none [],.mk none (.store 2 (.tmp 5) (.tmp 18)) none [2,1,0,1,2]]
def l74r5:List AOper :=
  [.mk (some 19) (.fld 1 (.tmp 3)) none [],.mk (some 20) (.load false 1 (.tmp 19)) none [0],.mk (some 21) (.fld 0 (.tmp 5)) none [],.mk (some 22) (.load false 1 (.tmp 21)) none [2],.mk (some 23) (.bslice 1 [.int .i64 0] [(0,.tmp 22)] 1) none [3],.mk (some 24) (.append 1 (.tmp 20) (.tmp 23)) none [1,4],.mk (some 25) (.fld 1 (.tmp 3)) none [0,1,2,3,4,5],.mk none (.store 1 (.tmp 25) (.tmp 24)) none [6,5,5,0,1,2,3,4,5]]
def l74r6:List AOper :=
  [.mk (some 26) (.fld 2 (.tmp 3)) none [],.mk (some 27) (.load false 1 (.tmp 26)) none [0],.mk (some 28) (.fld 1 (.tmp 5)) none [],.mk (some 29) (.load false 1 (.tmp 28)) none [2],.mk (some 30) (.bslice 1 [.int .i64 0] [(0,.tmp 29)] 1) none [3],.mk (some 31) (.append 1 (.tmp 27) (.tmp 30)) none [1,4],.mk (some 32) (.fld 2 (.tmp 3)) none [0,1,2,3,4,5],.mk none (.store 1 (.tmp 32) (.tmp 31)) none [6,5,5,0,1,2,3,4,5]]
def l74r7:List AOper :=
  [.mk (some 33) (.bin .add (.tmp 15) (.const (.int .i64 1))) none [],.mk (some 15) (.mv (.tmp 33)) none [0]]
def l74r8:List AOper :=
  [.mk (some 34) (.load true 3 (.tmp 3)) none [],.mk none (.store 3 (.tmp 2) (.tmp 34)) none [0,0]]
def l74:AFn :=
  (AFn.mk 35 1 (.seq (.reg l74r0) (.seq (.reg l74r1) (.seq (.seq (.reg l74r2) (.block 0 (.loop (.seq (.reg l74r3) (.seq (.cond (.tmp 16) .skip (.exit 0)) (.seq (.block 1 (.seq (.reg l74r4) (.seq (.reg l74r5) (.reg l74r6)))) (.reg l74r7))))))) (.seq (.reg l74r8) .ret)))) [.cell 2 true 3])
theorem l74_eq:lowFn Tryz.prog 74=some l74:=by kernel_rfl
def l75r0:List AOper :=
  [.mk (some 1) (.box (.tmp 0)) none [],.mk (some 2) (.mv (.const (.int .i64 0))) none []]
def l75r1:List AOper :=
  [.mk (some 3) (.fld 1 (.tmp 1)) none [],.mk (some 4) (.load false 1 (.tmp 3)) none [0],.mk (some 5) (.call 92 [.tmp 4]) none [1],.mk (some 2) (.mv (.tmp 5)) none [2,2,0,1,2]]
def l75:AFn :=
  (AFn.mk 6 1 (.seq (.reg l75r0) (.seq (.reg l75r1) .ret)) [.tmp 2])
theorem l75_eq:lowFn Tryz.prog 75=some l75:=by kernel_rfl
def l76r0:List AOper :=
  [.mk (some 2) (.mv (.const (.slice none 0 0))) none []]
def l76r1:List AOper :=
  [.mk (some 3) (.mv (.tmp 0)) none [],.mk (some 4) (.isnil false (.tmp 3)) none [0]]
def l76r2:List AOper :=
  [.mk (some 2) (.mv (.const (.slice none 0 0))) none []]
def l76r3:List AOper :=
  [.mk (some 5) (.bslice 1 [.int .i64 0] [] 0) none [],.mk (some 6) (.mv (.tmp 0)) none [],.mk (some 7) (.append 1 (.tmp 5) (.tmp 6)) none [0,1],.mk (some 2) (.mv (.tmp 7)) none [2,2,0,1,2]]
def l76:AFn :=
  (AFn.mk 8 1 (.seq (.reg l76r0) (.seq (.seq (.reg l76r1) (.cond (.tmp 4) (.seq (.reg l76r2) .ret) .skip)) (.seq (.reg l76r3) .ret))) [.tmp 2])
theorem l76_eq:lowFn Tryz.prog 76=some l76:=by kernel_rfl
def l77r0:List AOper :=
  [.mk (some 2) (.box (.tmp 0)) none [],.mk (some 3) (.box (.tmp 1)) none [],.mk (some 4) (.mv (.const (.bool false))) none []]
def l77r1:List AOper :=
  [.mk (some 5) (.fld 0 (.tmp 2)) none [],.mk (some 6) (.load false 1 (.tmp 5)) none [0],.mk (some 7) (.fld 0 (.tmp 3)) none [],.mk (some 8) (.load false 1 (.tmp 7)) none [2],.mk (some 9) (.bin .neq (.tmp 6) (.tmp 8)) none [1,3]]
def l77r2:List AOper :=
  [.mk (some 4) (.mv (.const (.bool false))) none []]
def l77r3:List AOper :=
  [.mk (some 10) (.fld 1 (.tmp 2)) none [],.mk (some 11) (.load false 1 (.tmp 10)) none [0],.mk (some 12) (.fld 1 (.tmp 3)) none [],.mk (some 13) (.load false 1 (.tmp 12)) none [2],.mk (some 14) (.call 23 [.tmp 11,.tmp 13]) none [1,3],.mk (some 15) (.un .not (.tmp 14)) none [4]]
def l77r4:List AOper :=
  [.mk (some 4) (.mv (.const (.bool false))) none []]
def l77r5:List AOper :=
  [.mk (some 16) (.fld 2 (.tmp 2)) none [],.mk (some 17) (.load false 1 (.tmp 16)) none [0],.mk (some 18) (.fld 2 (.tmp 3)) none [],.mk (some 19) (.load false 1 (.tmp 18)) none [2],.mk (some 20) (.call 23 [.tmp 17,.tmp 19]) none [1,3],.mk (some 21) (.un .not (.tmp 20)) none [4]]
def l77r6:List AOper :=
  [.mk (some 4) (.mv (.const (.bool false))) none []]
def l77r7:List AOper :=
  [.mk (some 4) (.mv (.const (.bool true))) none []]
def l77:AFn :=
  (AFn.mk 22 2 (.seq (.reg l77r0) (.seq (.seq (.reg l77r1) (.cond (.tmp 9) (.seq (.reg l77r2) .ret) .skip)) (.seq (.seq (.reg l77r3) (.cond (.tmp 15) (.seq (.reg l77r4) .ret) .skip)) (.seq (.seq (.reg l77r5) (.cond (.tmp 21) (.seq (.reg l77r6) .ret) .skip)) (.seq (.reg l77r7) .ret))))) [.tmp 4])
theorem l77_eq:lowFn Tryz.prog 77=some l77:=by kernel_rfl
def l78r0:List AOper :=
  [.mk (some 2) (.box (.tmp 0)) none [],.mk (some 4) (.mv (.const (.int .i64 0))) none []]
def l78r1:List AOper :=
  [.mk (some 7) (.fld 0 (.tmp 2)) none [],.mk (some 8) (.load false 1 (.tmp 7)) none [0],.mk (some 5) (.mv (.tmp 8)) none [1,0,1]]
def l78r2:List AOper :=
  [.mk (some 6) (.mv (.const (.int .i64 0))) none []]
def l78r3:List AOper :=
  [.mk (some 9) (.mv (.tmp 6)) none [],.mk (some 10) (.mv (.tmp 1)) none [],.mk (some 11) (.len (.tmp 10)) none [1],.mk (some 12) (.bin .lss (.tmp 9) (.tmp 11)) none [0,2]]
def l78r4a:List AOper :=
  [.mk (some 15) (.mv (.tmp 5)) none [],.mk (some 16) (.mv (.tmp 1)) none [],.mk (some 17) (.mv (.tmp 6)) none [],.mk (some 18) (.idxA 1 (.tmp 16) (.tmp 17)) none [1,2],.mk (some 19) (.load false 1 (.tmp 18)) none [3],.mk (some 20) (.fld 2 (.tmp 2)) none [],.mk (some 21) (.load false 1 (.tmp 20)) none [5],.mk (some 22) (.mv (.tmp 6)) none [],.mk (some 23) (.idxA 1 (.tmp 21) (.tmp 22)) none [6,7],.mk (some 24) (.load false 1 (.tmp 23)) none [8],.mk (some 25) (.bin .mul (.tmp 19) (.tmp 24)) none [4,9]]
def l78r4b:List AOper :=
  [.mk (some 26) (.bin .add (.tmp 15) (.tmp 25)) none [0,10],.mk (some 5) (.mv (.tmp 26)) none [11,0,1,2,3,4,5,6,7,8,9,10,11]]
def l78r4:List AOper:=l78r4a ++ l78r4b
def l78r5:List AOper :=
  [.mk (some 13) (.mv (.tmp 6)) none [],.mk (some 14) (.bin .add (.tmp 13) (.const (.int .i64 1))) none [0],.mk (some 6) (.mv (.tmp 14)) none [1,0,1]]
def l78r6:List AOper :=
  [.mk (some 27) (.mv (.tmp 5)) none [],.mk (some 4) (.mv (.tmp 27)) none [0,0]]
def l78:AFn :=
  (AFn.mk 28 2 (.seq (.reg l78r0) (.seq (.reg l78r1) (.seq (.seq (.reg l78r2) (.block 0 (.loop (.seq (.seq (.reg l78r3) (.cond (.tmp 12) .skip (.exit 0))) (.seq (.block 1 (.draw l78r4)) (.reg l78r5)))))) (.seq (.reg l78r6) .ret)))) [.tmp 4])
theorem l78_eq:lowFn Tryz.prog 78=some l78:=by kernel_rfl
def l79r0:List AOper :=
  [.mk (some 4) (.mv (.const (.slice none 0 0))) none []]
def l79r1:List AOper :=
  [.mk (some 7) (.mv (.tmp 0)) none [],.mk (some 8) (.len (.tmp 7)) none [0],.mk (some 9) (.mkslice 1 [.int .i64 0] (.tmp 8) (.tmp 8)) none [1,1],.mk (some 5) (.mv (.tmp 9)) none [2,0,1,2]]
def l79r2:List AOper :=
  [.mk (some 10) (.mv (.tmp 0)) none [],.mk (some 11) (.len (.tmp 10)) none [0],.mk (some 12) (.bin .sub (.tmp 11) (.const (.int .i64 1))) none [1],.mk (some 6) (.mv (.tmp 12)) none [2,0,1,2]]
def l79r3:List AOper :=
  [.mk (some 13) (.mv (.tmp 6)) none [],.mk (some 14) (.bin .geq (.tmp 13) (.const (.int .i64 0))) none [0]]
def l79r4:List AOper :=
  [.mk (some 17) (.mv (.tmp 5)) none [],.mk (some 18) (.mv (.tmp 6)) none [],.mk (some 19) (.mv (.tmp 1)) none [],.mk (some 20) (.mv (.tmp 0)) none [],.mk (some 21) (.mv (.tmp 6)) none [],.mk (some 22) (.idxA 1 (.tmp 20) (.tmp 21)) none [3,4],.mk (some 23) (.load false 1 (.tmp 22)) none [5],.mk (some 24) (.bin .rem (.tmp 19) (.tmp 23)) none [2,6],.mk (some 25) (.idxA 1 (.tmp 17) (.tmp 18)) none [0,1,0,1,2,3,4,5,6,7],.mk none (.store 1 (.tmp 25) (.tmp 24)) none [8,7,0,1,2,3,4,5,6,7]]
def l79r5:List AOper :=
  [.mk (some 26) (.mv (.tmp 1)) none [],.mk (some 27) (.mv (.tmp 0)) none [],.mk (some 28) (.mv (.tmp 6)) none [],.mk (some 29) (.idxA 1 (.tmp 27) (.tmp 28)) none [1,2],.mk (some 30) (.load false 1 (.tmp 29)) none [3],.mk (some 31) (.bin .quo (.tmp 26) (.tmp 30)) none [0,4],.mk (some 1) (.mv (.tmp 31)) none [5,0,1,2,3,4,5]]
def l79r6:List AOper :=
  [.mk (some 15) (.mv (.tmp 6)) none [],.mk (some 16) (.bin .sub (.tmp 15) (.const (.int .i64 1))) none [0],.mk (some 6) (.mv (.tmp 16)) none [1,0,1]]
def l79r7:List AOper :=
  [.mk (some 32) (.mv (.tmp 5)) none [],.mk (some 4) (.mv (.tmp 32)) none [0,0]]
def l79:AFn :=
  (AFn.mk 33 2 (.seq (.reg l79r0) (.seq (.reg l79r1) (.seq (.seq (.reg l79r2) (.block 0 (.loop (.seq (.seq (.reg l79r3) (.cond (.tmp 14) .skip (.exit 0))) (.seq (.block 1 (.seq (.reg l79r4) (.reg l79r5))) (.reg l79r6)))))) (.seq (.reg l79r7) .ret)))) [.tmp 4])
theorem l79_eq:lowFn Tryz.prog 79=some l79:=by kernel_rfl
def l80r0:List AOper :=
  [.mk (some 6) (.mv (.const (.int .i64 0))) none []]
def l80r1:List AOper :=
  [.mk (some 7) (.mv (.const (.int .i64 0))) none []]
def l80r2:List AOper :=
  [.mk (some 9) (.mv (.tmp 0)) none [],.mk (some 8) (.mv (.tmp 9)) none [0,0]]
def l80r3:List AOper :=
  [.mk (some 10) (.mv (.tmp 2)) none [],.mk (some 11) (.bin .lss (.tmp 10) (.const (.int .i64 0))) none [0]]
def l80r4:List AOper :=
  [.mk (some 7) (.mv (.const (.int .i64 (-1)))) none []]
def l80r5:List AOper :=
  [.mk (some 12) (.mv (.tmp 0)) none [],.mk (some 13) (.bin .sub (.tmp 12) (.const (.int .i64 1))) none [0],.mk (some 8) (.mv (.tmp 13)) none [1,0,1]]
def l80r6:List AOper :=
  [.mk (some 14) (.mv (.tmp 1)) none [],.mk (some 15) (.bin .lss (.tmp 14) (.const (.int .i64 0))) none [0]]
def l80r7:List AOper :=
  [.mk (some 16) (.mv (.tmp 1)) none [],.mk (some 17) (.mv (.tmp 0)) none [],.mk (some 18) (.bin .add (.tmp 16) (.tmp 17)) none [0,1],.mk (some 1) (.mv (.tmp 18)) none [2,0,1,2]]
def l80r8:List AOper :=
  [.mk (some 19) (.mv (.tmp 8)) none [],.mk (some 20) (.mv (.tmp 7)) none [],.mk (some 21) (.mv (.tmp 1)) none [],.mk (some 22) (.minmax true (.tmp 20) (.tmp 21)) none [1,2],.mk (some 23) (.minmax false (.tmp 19) (.tmp 22)) none [0,3],.mk (some 6) (.mv (.tmp 23)) none [4,0,1,2,3,4]]
def l80:AFn :=
  (AFn.mk 24 3 (.seq (.reg l80r0) (.seq (.reg l80r1) (.seq (.reg l80r2) (.seq (.seq (.reg l80r3) (.cond (.tmp 11) (.seq (.reg l80r4) (.reg l80r5)) .skip)) (.seq (.seq (.reg l80r6) (.cond (.tmp 15) (.reg l80r7) .skip)) (.seq (.reg l80r8) .ret)))))) [.tmp 6])
theorem l80_eq:lowFn Tryz.prog 80=some l80:=by kernel_rfl
def l81r0:List AOper :=
  [.mk (some 2) (.mv (.const (.bool false))) none []]
def l81r1:List AOper :=
  [.mk (some 3) (.mv (.tmp 0)) none [],.mk (some 4) (.bin .leq (.const (.int .i64 0)) (.tmp 3)) none [0],.mk (some 5) (.mv (.tmp 4)) none [1],.mk (some 6) (.mv (.tmp 0)) (some (5,true)) [2],.mk (some 7) (.bin .leq (.tmp 6) (.const (.int .i64 60))) (some (5,true)) [3,2],.mk (some 8) (.pick (.tmp 5) (.tmp 7) (.const (.bool false))) none [2,4],.mk (some 2) (.mv (.tmp 8)) none [5,2,0,1,2,3,4,5]]
def l81:AFn :=
  (AFn.mk 9 1 (.seq (.reg l81r0) (.seq (.reg l81r1) .ret)) [.tmp 2])
theorem l81_eq:lowFn Tryz.prog 81=some l81:=by kernel_rfl
def l82r0:List AOper :=
  [.mk (some 2) (.mv (.const (.bool false))) none []]
def l82r1:List AOper :=
  [.mk (some 5) (.mv (.tmp 0)) none [],.mk (some 6) (.len (.tmp 5)) none [0],.mk (some 7) (.mv (.const (.int .i64 0))) none []]
def l82r2:List AOper :=
  [.mk (some 8) (.bin .lss (.tmp 7) (.tmp 6)) none []]
def l82r3:List AOper :=
  [.mk (some 9) (.idxA 1 (.tmp 5) (.tmp 7)) none [],.mk (some 10) (.load false 1 (.tmp 9)) none [0],.mk (some 4) (.mv (.tmp 10)) none [1,0,1]]
def l82r4:List AOper :=
  [.mk (some 11) (.mv (.tmp 4)) none [],.mk (some 12) (.call 42 [.tmp 11,.const (.int .i64 255)]) none [0],.mk (some 13) (.un .not (.tmp 12)) none [1]]
def l82r5:List AOper :=
  [.mk (some 2) (.mv (.const (.bool false))) none []]
def l82r6:List AOper :=
  [.mk (some 14) (.bin .add (.tmp 7) (.const (.int .i64 1))) none [],.mk (some 7) (.mv (.tmp 14)) none [0]]
def l82r7:List AOper :=
  [.mk (some 2) (.mv (.const (.bool true))) none []]
def l82:AFn :=
  (AFn.mk 15 1 (.seq (.reg l82r0) (.seq (.seq (.reg l82r1) (.block 0 (.loop (.seq (.reg l82r2) (.seq (.cond (.tmp 8) .skip (.exit 0)) (.seq (.block 1 (.seq (.reg l82r3) (.seq (.reg l82r4) (.cond (.tmp 13) (.seq (.reg l82r5) .ret) .skip)))) (.reg l82r6))))))) (.seq (.reg l82r7) .ret))) [.tmp 2])
theorem l82_eq:lowFn Tryz.prog 82=some l82:=by kernel_rfl
def l83r0:List AOper :=
  [.mk (some 2) (.box (.tmp 0)) none [],.mk (some 4) (.mv (.const (.bool false))) none []]
def l83r1:List AOper :=
  [.mk (some 7) (.load true 3 (.tmp 2)) none [],.mk (some 8) (.call 70 [.tmp 7]) none [0],.mk (some 9) (.un .not (.tmp 8)) none [1],.mk (some 10) (.mv (.tmp 9)) none [2,1],.mk (some 11) (.mv (.tmp 1)) (some (10,false)) [3],.mk (some 12) (.call 42 [.tmp 11,.const (.int .i64 60)]) (some (10,false)) [4,3,3],.mk (some 13) (.un .not (.tmp 12)) (some (10,false)) [5,3],.mk (some 14) (.pick (.tmp 10) (.const (.bool true)) (.tmp 13)) none [3,6]]
def l83r2:List AOper :=
  [.mk (some 4) (.mv (.const (.bool false))) none []]
def l83r3:List AOper :=
  [.mk (some 16) (.load true 3 (.tmp 2)) none [],.mk (some 17) (.call 89 [.tmp 16]) none [0],.mk (some 15) (.mv (.tmp 17)) none [1],.mk (some 18) (.extract (.tmp 15) 0) none [2],.mk (some 19) (.extract (.tmp 15) 1) none [2],.mk (some 5) (.mv (.tmp 18)) none [3,1,0,1,2,3],.mk (some 6) (.mv (.tmp 19)) none [4,5,0,1,2,3,4,5]]
def l83r4:List AOper :=
  [.mk (some 20) (.mv (.tmp 6)) none [],.mk (some 21) (.mv (.tmp 1)) none [],.mk (some 22) (.bin .lss (.tmp 20) (.tmp 21)) none [0,1],.mk (some 4) (.mv (.tmp 22)) none [2,0,1,2]]
def l83:AFn :=
  (AFn.mk 23 2 (.seq (.reg l83r0) (.seq (.seq (.reg l83r1) (.cond (.tmp 14) (.seq (.reg l83r2) .ret) .skip)) (.seq (.reg l83r3) (.seq (.reg l83r4) .ret)))) [.tmp 4])
theorem l83_eq:lowFn Tryz.prog 83=some l83:=by kernel_rfl
def l85r0:List AOper :=
  [.mk (some 6) (.mv (.const (.bool false))) none []]
def l85r1:List AOper :=
  [.mk (some 14) (.mv (.tmp 2)) none [],.mk (some 15) (.mv (.tmp 14)) none [0],.mk (some 16) (.mv (.tmp 0)) (some (15,true)) [1],.mk (some 17) (.mv (.tmp 1)) (some (15,true)) [1],.mk (some 18) (.bin .eql (.tmp 16) (.tmp 17)) (some (15,true)) [2,3,1],.mk (some 19) (.pick (.tmp 15) (.tmp 18) (.const (.bool false))) none [1,4]]
def l85r2:List AOper :=
  [.mk (some 6) (.mv (.const (.bool true))) none []]
def l85r3:List AOper :=
  [.mk (some 21) (.mv (.tmp 0)) none [],.mk (some 22) (.raw (Op.typeAssert (.tmp 21) 99 128 true)) none [0],.mk (some 20) (.mv (.tmp 22)) none [1],.mk (some 23) (.extract (.tmp 20) 0) none [2],.mk (some 24) (.extract (.tmp 20) 1) none [2],.mk (some 7) (.mv (.tmp 23)) none [3,0,1,2,3],.mk (some 8) (.mv (.tmp 24)) none [4,5,0,1,2,3,4,5]]
def l85r4:List AOper :=
  [.mk (some 25) (.mv (.tmp 8)) none [],.mk (some 26) (.mv (.tmp 25)) none [0],.mk (some 27) (.mv (.tmp 7)) (some (26,true)) [1],.mk (some 28) (.mv (.tmp 1)) (some (26,true)) [1],.mk (some 29) (.raw (Op.call (Call.mk (Callee.invoke (.tmp 27) "Is") (Array.mk [.tmp 28]) (Array.mk [99])))) (some (26,true)) [2,3,1,1],.mk (some 30) (.pick (.tmp 26) (.tmp 29) (.const (.bool false))) none [1,4]]
def l85r5:List AOper :=
  [.mk (some 6) (.mv (.const (.bool true))) none []]
def l85r6:List AOper :=
  [.mk (some 31) (.mv (.tmp 0)) none []]
def l85r7:List AOper :=
  [.mk (some 32) (.raw (Op.typeAssert (.tmp 31) 99 131 true)) none [],.mk (some 33) (.extract (.tmp 32) 1) none [0],.mk (some 34) (.extract (.tmp 32) 0) none [0]]
def l85r8:List AOper :=
  [.mk (some 9) (.mv (.tmp 34)) none []]
def l85r9:List AOper :=
  [.mk (some 35) (.mv (.tmp 9)) none [],.mk (some 36) (.raw (Op.call (Call.mk (Callee.invoke (.tmp 35) "Unwrap") (Array.mk []) (Array.mk [])))) none [0],.mk (some 0) (.mv (.tmp 36)) none [1,1,0,1]]
def l85r10:List AOper :=
  [.mk (some 37) (.mv (.tmp 0)) none [],.mk (some 38) (.bin .eql (.tmp 37) (.const .nilIface)) none [0]]
def l85r11:List AOper :=
  [.mk (some 6) (.mv (.const (.bool false))) none []]
def l85r12:List AOper :=
  [.mk (some 39) (.raw (Op.typeAssert (.tmp 31) 99 132 true)) none [],.mk (some 40) (.extract (.tmp 39) 1) none [0],.mk (some 41) (.extract (.tmp 39) 0) none [0]]
def l85r13:List AOper :=
  [.mk (some 10) (.mv (.tmp 41)) none []]
def l85r14:List AOper :=
  [.mk (some 42) (.mv (.tmp 10)) none [],.mk (some 43) (.raw (Op.call (Call.mk (Callee.invoke (.tmp 42) "Unwrap") (Array.mk []) (Array.mk [])))) none [0],.mk (some 44) (.len (.tmp 43)) none [1],.mk (some 45) (.mv (.const (.int .i64 0))) none []]
def l85r15:List AOper :=
  [.mk (some 46) (.bin .lss (.tmp 45) (.tmp 44)) none []]
def l85r16:List AOper :=
  [.mk (some 47) (.idxA 1 (.tmp 43) (.tmp 45)) none [],.mk (some 48) (.load false 1 (.tmp 47)) none [0],.mk (some 12) (.mv (.tmp 48)) none [1,0,1]]
def l85r17:List AOper :=
  [.mk (some 49) (.mv (.tmp 12)) none [],.mk (some 50) (.mv (.tmp 1)) none [],.mk (some 51) (.mv (.tmp 2)) none [],.mk (some 52) (.call 85 [.tmp 49,.tmp 50,.tmp 51]) none [0,1,2]]
def l85r18:List AOper :=
  [.mk (some 6) (.mv (.const (.bool true))) none []]
def l85r19:List AOper :=
  [.mk (some 53) (.bin .add (.tmp 45) (.const (.int .i64 1))) none [],.mk (some 45) (.mv (.tmp 53)) none [0]]
def l85r20:List AOper :=
  [.mk (some 6) (.mv (.const (.bool false))) none []]
def l85r21:List AOper :=
  [.mk (some 13) (.mv (.tmp 31)) none []]
def l85r22:List AOper :=
  [.mk (some 6) (.mv (.const (.bool false))) none []]
def l85:AFn :=
  (AFn.mk 54 3 (.seq (.reg l85r0) (.block 0 (.loop (.block 1 (.seq (.seq (.reg l85r1) (.cond (.tmp 19) (.seq (.reg l85r2) .ret) .skip)) (.seq (.seq (.reg l85r3) (.seq (.reg l85r4) (.cond (.tmp 30) (.seq (.reg l85r5) .ret) .skip))) (.seq (.reg l85r6) (.block 2 (.seq (.reg l85r7) (.cond (.tmp 33) (.seq (.reg l85r8) (.seq (.reg l85r9) (.seq (.reg l85r10) (.cond (.tmp 38) (.seq (.reg l85r11) .ret) .skip)))) (.seq (.reg l85r12) (.cond (.tmp 40) (.seq (.reg l85r13) (.seq (.seq (.reg l85r14) (.block 3 (.loop (.seq (.reg l85r15) (.seq (.cond (.tmp 46) .skip (.exit 3)) (.seq (.block 4 (.seq (.reg l85r16) (.seq (.reg l85r17) (.cond (.tmp 52) (.seq (.reg l85r18) .ret) .skip)))) (.reg l85r19))))))) (.seq (.reg l85r20) .ret))) (.seq (.reg l85r21) (.seq (.reg l85r22) .ret)))))))))))))) [.tmp 6])
theorem l85_eq:lowFn Tryz.prog 85=some l85:=by kernel_rfl
def l86r0:List AOper :=
  [.mk (some 6) (.mv (.const (.pointer none))) none []]
def l86r1:List AOper :=
  [.mk (some 7) (.mv (.tmp 2)) none []]
def l86r2:List AOper :=
  [.mk (some 8) (.mv (.tmp 0)) none [],.mk (some 9) (.mv (.tmp 0)) none [],.mk (some 10) (.nilck (.tmp 9)) none [1],.mk (some 11) (.fld 0 (.tmp 10)) none [2],.mk (some 12) (.load false 1 (.tmp 11)) none [3],.mk (some 13) (.mv (.tmp 1)) none [],.mk (some 14) (.bslice 1 [.int .i64 0] [(0,.tmp 13)] 1) none [5],.mk (some 15) (.append 1 (.tmp 12) (.tmp 14)) none [4,6],.mk (some 16) (.nilck (.tmp 8)) none [0,0,1,2,3,4,5,6,7],.mk (some 17) (.fld 0 (.tmp 16)) none [8,0,1,2,3,4,5,6,7],.mk none (.store 1 (.tmp 17) (.tmp 15)) none [9,7,7,0,1,2,3,4,5,6,7]]
def l86r3:List AOper :=
  [.mk (some 18) (.build [.slice none 0 0] []) none [],.mk (some 19) (.box (.tmp 18)) none [0],.mk (some 6) (.mv (.tmp 19)) none [1,0,1]]
def l86:AFn :=
  (AFn.mk 20 3 (.seq (.reg l86r0) (.seq (.seq (.reg l86r1) (.cond (.tmp 7) (.reg l86r2) .skip)) (.seq (.reg l86r3) .ret))) [.tmp 6])
theorem l86_eq:lowFn Tryz.prog 86=some l86:=by kernel_rfl
def l87r0:List AOper :=
  [.mk (some 2) (.mv (.const (.bool false))) none []]
def l87r1:List AOper :=
  [.mk (some 5) (.mv (.tmp 0)) none [],.mk (some 6) (.len (.tmp 5)) none [0],.mk (some 7) (.bin .gtr (.tmp 6) (.const (.int .i64 4))) none [1]]
def l87r2:List AOper :=
  [.mk (some 2) (.mv (.const (.bool false))) none []]
def l87r3:List AOper :=
  [.mk (some 8) (.mv (.tmp 0)) none [],.mk (some 9) (.len (.tmp 8)) none [0],.mk (some 10) (.mv (.const (.int .i64 0))) none []]
def l87r4:List AOper :=
  [.mk (some 11) (.bin .lss (.tmp 10) (.tmp 9)) none []]
def l87r5:List AOper :=
  [.mk (some 12) (.idxA 1 (.tmp 8) (.tmp 10)) none [],.mk (some 13) (.load false 1 (.tmp 12)) none [0],.mk (some 4) (.mv (.tmp 13)) none [1,0,1]]
def l87r6:List AOper :=
  [.mk (some 14) (.mv (.tmp 4)) none [],.mk (some 15) (.call 42 [.tmp 14,.const (.int .i64 60)]) none [0],.mk (some 16) (.un .not (.tmp 15)) none [1]]
def l87r7:List AOper :=
  [.mk (some 2) (.mv (.const (.bool false))) none []]
def l87r8:List AOper :=
  [.mk (some 17) (.bin .add (.tmp 10) (.const (.int .i64 1))) none [],.mk (some 10) (.mv (.tmp 17)) none [0]]
def l87r9:List AOper :=
  [.mk (some 18) (.mv (.tmp 0)) none [],.mk (some 19) (.call 92 [.tmp 18]) none [0],.mk (some 20) (.bin .leq (.tmp 19) (.const (.int .i64 60))) none [1],.mk (some 2) (.mv (.tmp 20)) none [2,1,0,1,2]]
def l87:AFn :=
  (AFn.mk 21 1 (.seq (.reg l87r0) (.seq (.seq (.reg l87r1) (.cond (.tmp 7) (.seq (.reg l87r2) .ret) .skip)) (.seq (.seq (.reg l87r3) (.block 0 (.loop (.seq (.reg l87r4) (.seq (.cond (.tmp 11) .skip (.exit 0)) (.seq (.block 1 (.seq (.reg l87r5) (.seq (.reg l87r6) (.cond (.tmp 16) (.seq (.reg l87r7) .ret) .skip)))) (.reg l87r8))))))) (.seq (.reg l87r9) .ret)))) [.tmp 2])
theorem l87_eq:lowFn Tryz.prog 87=some l87:=by kernel_rfl
def l88r0:List AOper :=
  [.mk (some 4) (.mv (.const (.bool false))) none []]
def l88r1:List AOper :=
  [.mk (some 7) (.mv (.tmp 0)) none [],.mk (some 8) (.len (.tmp 7)) none [0],.mk (some 9) (.mv (.tmp 1)) none [],.mk (some 10) (.bin .neq (.tmp 8) (.tmp 9)) none [1,2]]
def l88r2:List AOper :=
  [.mk (some 4) (.mv (.const (.bool false))) none []]
def l88r3:List AOper :=
  [.mk (some 11) (.mv (.tmp 0)) none [],.mk (some 12) (.len (.tmp 11)) none [0],.mk (some 13) (.mv (.const (.int .i64 0))) none []]
def l88r4:List AOper :=
  [.mk (some 14) (.bin .lss (.tmp 13) (.tmp 12)) none []]
def l88r5:List AOper :=
  [.mk (some 15) (.idxA 1 (.tmp 11) (.tmp 13)) none [],.mk (some 16) (.load false 1 (.tmp 15)) none [0],.mk (some 6) (.mv (.tmp 16)) none [1,0,1]]
def l88r6:List AOper :=
  [.mk (some 17) (.mv (.tmp 6)) none [],.mk (some 18) (.call 90 [.tmp 17,.const (.int .i64 60)]) none [0],.mk (some 19) (.un .not (.tmp 18)) none [1]]
def l88r7:List AOper :=
  [.mk (some 4) (.mv (.const (.bool false))) none []]
def l88r8:List AOper :=
  [.mk (some 20) (.bin .add (.tmp 13) (.const (.int .i64 1))) none [],.mk (some 13) (.mv (.tmp 20)) none [0]]
def l88r9:List AOper :=
  [.mk (some 4) (.mv (.const (.bool true))) none []]
def l88:AFn :=
  (AFn.mk 21 2 (.seq (.reg l88r0) (.seq (.seq (.reg l88r1) (.cond (.tmp 10) (.seq (.reg l88r2) .ret) .skip)) (.seq (.seq (.reg l88r3) (.block 0 (.loop (.seq (.reg l88r4) (.seq (.cond (.tmp 14) .skip (.exit 0)) (.seq (.block 1 (.seq (.reg l88r5) (.seq (.reg l88r6) (.cond (.tmp 19) (.seq (.reg l88r7) .ret) .skip)))) (.reg l88r8))))))) (.seq (.reg l88r9) .ret)))) [.tmp 4])
theorem l88_eq:lowFn Tryz.prog 88=some l88:=by kernel_rfl
def l89r0:List AOper :=
  [.mk (some 1) (.box (.tmp 0)) none [],.mk (some 2) (.mv (.const (.int .i64 0))) none [],.mk (some 3) (.mv (.const (.int .i64 0))) none [1]]
def l89r1:List AOper :=
  [.mk (some 9) (.load true 3 (.tmp 1)) none [],.mk (some 10) (.call 75 [.tmp 9]) none [0],.mk (some 11) (.bin .eql (.tmp 10) (.const (.int .i64 0))) none [1]]
def l89r2:List AOper :=
  [.mk (some 2) (.mv (.const (.int .i64 (-1)))) none [],.mk (some 3) (.mv (.const (.int .i64 (-1)))) none [0,0]]
def l89r3a:List AOper :=
  [.mk (some 12) (.fld 0 (.tmp 1)) none [],.mk (some 13) (.load false 1 (.tmp 12)) none [0],.mk (some 14) (.fld 0 (.tmp 1)) none [],.mk (some 15) (.load false 1 (.tmp 14)) none [2],.mk (some 4) (.mv (.tmp 13)) none [1,0,1]]
def l89r3b:List AOper :=
  [.mk (some 5) (.mv (.tmp 15)) none [3,4,0,1,2,3,4]]
def l89r3:List AOper:=l89r3a ++ l89r3b
def l89r4:List AOper :=
  [.mk (some 16) (.fld 2 (.tmp 1)) none [],.mk (some 17) (.load false 1 (.tmp 16)) none [0],.mk (some 18) (.len (.tmp 17)) none [1],.mk (some 19) (.mv (.const (.int .i64 0))) none []]
def l89r5:List AOper :=
  [.mk (some 20) (.bin .lss (.tmp 19) (.tmp 18)) none []]
def l89r6:List AOper :=
  [.mk (some 21) (.mv (.tmp 19)) none [],.mk (some 22) (.idxA 1 (.tmp 17) (.tmp 19)) none [],.mk (some 23) (.load false 1 (.tmp 22)) none [1],.mk (some 6) (.mv (.tmp 21)) none [0,0,1,2],.mk (some 7) (.mv (.tmp 23)) none [2,3,0,1,2,3]]
def l89r7:List AOper :=
  [.mk (some 24) (.fld 1 (.tmp 1)) none [],.mk (some 25) (.load false 1 (.tmp 24)) none [0],.mk (some 26) (.mv (.tmp 6)) none [],.mk (some 27) (.idxA 1 (.tmp 25) (.tmp 26)) none [1,2],.mk (some 28) (.load false 1 (.tmp 27)) none [3],.mk (some 29) (.bin .sub (.tmp 28) (.const (.int .i64 1))) none [4],.mk (some 30) (.mv (.tmp 7)) none [],.mk (some 31) (.bin .mul (.tmp 29) (.tmp 30)) none [5,6],.mk (some 8) (.mv (.tmp 31)) none [7,0,1,2,3,4,5,6,7]]
def l89r8:List AOper :=
  [.mk (some 32) (.mv (.tmp 4)) none [],.mk (some 33) (.mv (.tmp 8)) none [],.mk (some 34) (.minmax false (.tmp 33) (.const (.int .i64 0))) none [1],.mk (some 35) (.bin .add (.tmp 32) (.tmp 34)) none [0,2],.mk (some 4) (.mv (.tmp 35)) none [3,0,1,2,3]]
def l89r9:List AOper :=
  [.mk (some 36) (.mv (.tmp 5)) none [],.mk (some 37) (.mv (.tmp 8)) none [],.mk (some 38) (.minmax true (.tmp 37) (.const (.int .i64 0))) none [1],.mk (some 39) (.bin .add (.tmp 36) (.tmp 38)) none [0,2],.mk (some 5) (.mv (.tmp 39)) none [3,0,1,2,3]]
def l89r10:List AOper :=
  [.mk (some 40) (.bin .add (.tmp 19) (.const (.int .i64 1))) none [],.mk (some 19) (.mv (.tmp 40)) none [0]]
def l89r11:List AOper :=
  [.mk (some 41) (.mv (.tmp 4)) none [],.mk (some 42) (.mv (.tmp 5)) none [],.mk (some 2) (.mv (.tmp 41)) none [0,0],.mk (some 3) (.mv (.tmp 42)) none [1,2,0,1,2]]
def l89:AFn :=
  (AFn.mk 43 1 (.seq (.reg l89r0) (.seq (.seq (.reg l89r1) (.cond (.tmp 11) (.seq (.reg l89r2) .ret) .skip)) (.seq (.draw l89r3) (.seq (.seq (.reg l89r4) (.block 0 (.loop (.seq (.reg l89r5) (.seq (.cond (.tmp 20) .skip (.exit 0)) (.seq (.block 1 (.seq (.reg l89r6) (.seq (.reg l89r7) (.seq (.reg l89r8) (.reg l89r9))))) (.reg l89r10))))))) (.seq (.reg l89r11) .ret))))) [.tmp 2,.tmp 3])
theorem l89_eq:lowFn Tryz.prog 89=some l89:=by kernel_rfl
def l90r0:List AOper :=
  [.mk (some 4) (.mv (.const (.bool false))) none []]
def l90r1:List AOper :=
  [.mk (some 5) (.mv (.tmp 1)) none [],.mk (some 6) (.un .neg (.tmp 5)) none [0],.mk (some 7) (.mv (.tmp 0)) none [],.mk (some 8) (.bin .leq (.tmp 6) (.tmp 7)) none [1,2],.mk (some 9) (.mv (.tmp 8)) none [3],.mk (some 10) (.mv (.tmp 0)) (some (9,true)) [4],.mk (some 11) (.mv (.tmp 1)) (some (9,true)) [4],.mk (some 12) (.bin .leq (.tmp 10) (.tmp 11)) (some (9,true)) [5,6,4],.mk (some 13) (.pick (.tmp 9) (.tmp 12) (.const (.bool false))) none [4,7],.mk (some 4) (.mv (.tmp 13)) none [8,4,0,1,2,3,4,5,6,7,8]]
def l90:AFn :=
  (AFn.mk 14 2 (.seq (.reg l90r0) (.seq (.reg l90r1) .ret)) [.tmp 4])
theorem l90_eq:lowFn Tryz.prog 90=some l90:=by kernel_rfl
def l91r0:List AOper :=
  [.mk (some 2) (.box (.tmp 0)) none [],.mk (some 3) (.box (.tmp 1)) none [],.mk (some 4) (.mv (.const (.int .i64 0))) none []]
def l91r1a:List AOper :=
  [.mk (some 5) (.fld 0 (.tmp 2)) none [],.mk (some 6) (.load false 1 (.tmp 5)) none [0],.mk (some 7) (.load true 4 (.tmp 3)) none [],.mk (some 8) (.fld 2 (.tmp 2)) none [],.mk (some 9) (.load false 1 (.tmp 8)) none [3],.mk (some 10) (.call 93 [.tmp 7,.tmp 9]) none [2,4]]
def l91r1b:List AOper :=
  [.mk (some 11) (.bin .add (.tmp 6) (.tmp 10)) none [1,5],.mk (some 4) (.mv (.tmp 11)) none [6,5,0,1,2,3,4,5,6]]
def l91r1:List AOper:=l91r1a ++ l91r1b
def l91:AFn :=
  (AFn.mk 12 2 (.seq (.reg l91r0) (.seq (.draw l91r1) .ret)) [.tmp 4])
theorem l91_eq:lowFn Tryz.prog 91=some l91:=by kernel_rfl
def l92r0:List AOper :=
  [.mk (some 2) (.mv (.const (.int .i64 0))) none []]
def l92r1:List AOper :=
  [.mk (some 3) (.mv (.const (.int .i64 1))) none []]
def l92r2:List AOper :=
  [.mk (some 6) (.mv (.tmp 0)) none [],.mk (some 7) (.len (.tmp 6)) none [0],.mk (some 8) (.mv (.const (.int .i64 0))) none []]
def l92r3:List AOper :=
  [.mk (some 9) (.bin .lss (.tmp 8) (.tmp 7)) none []]
def l92r4:List AOper :=
  [.mk (some 10) (.idxA 1 (.tmp 6) (.tmp 8)) none [],.mk (some 11) (.load false 1 (.tmp 10)) none [0],.mk (some 5) (.mv (.tmp 11)) none [1,0,1]]
def l92r5:List AOper :=
  [.mk (some 12) (.mv (.tmp 3)) none [],.mk (some 13) (.mv (.tmp 5)) none [],.mk (some 14) (.bin .mul (.tmp 12) (.tmp 13)) none [0,1],.mk (some 3) (.mv (.tmp 14)) none [2,0,1,2]]
def l92r6:List AOper :=
  [.mk (some 15) (.bin .add (.tmp 8) (.const (.int .i64 1))) none [],.mk (some 8) (.mv (.tmp 15)) none [0]]
def l92r7:List AOper :=
  [.mk (some 16) (.mv (.tmp 3)) none [],.mk (some 2) (.mv (.tmp 16)) none [0,0]]
def l92:AFn :=
  (AFn.mk 17 1 (.seq (.reg l92r0) (.seq (.reg l92r1) (.seq (.seq (.reg l92r2) (.block 0 (.loop (.seq (.reg l92r3) (.seq (.cond (.tmp 9) .skip (.exit 0)) (.seq (.block 1 (.seq (.reg l92r4) (.reg l92r5))) (.reg l92r6))))))) (.seq (.reg l92r7) .ret)))) [.tmp 2])
theorem l92_eq:lowFn Tryz.prog 92=some l92:=by kernel_rfl
def l93r0:List AOper :=
  [.mk (some 2) (.box (.tmp 0)) none [],.mk (some 4) (.mv (.const (.int .i64 0))) none []]
def l93r1:List AOper :=
  [.mk (some 5) (.mv (.const (.int .i64 0))) none []]
def l93r2:List AOper :=
  [.mk (some 8) (.mv (.tmp 1)) none [],.mk (some 9) (.len (.tmp 8)) none [0],.mk (some 10) (.mv (.const (.int .i64 0))) none []]
def l93r3:List AOper :=
  [.mk (some 11) (.bin .lss (.tmp 10) (.tmp 9)) none []]
def l93r4:List AOper :=
  [.mk (some 12) (.mv (.tmp 10)) none [],.mk (some 13) (.idxA 1 (.tmp 8) (.tmp 10)) none [],.mk (some 14) (.load false 1 (.tmp 13)) none [1],.mk (some 6) (.mv (.tmp 12)) none [0,0,1,2],.mk (some 7) (.mv (.tmp 14)) none [2,3,0,1,2,3]]
def l93r5:List AOper :=
  [.mk (some 15) (.mv (.tmp 5)) none [],.mk (some 16) (.mv (.tmp 6)) none [],.mk (some 17) (.idxP 1 4 (.tmp 2) (.tmp 16)) none [1],.mk (some 18) (.load false 1 (.tmp 17)) none [2],.mk (some 19) (.mv (.tmp 7)) none [],.mk (some 20) (.bin .mul (.tmp 18) (.tmp 19)) none [3,4],.mk (some 21) (.bin .add (.tmp 15) (.tmp 20)) none [0,5],.mk (some 5) (.mv (.tmp 21)) none [6,0,1,2,3,4,5,6]]
def l93r6:List AOper :=
  [.mk (some 22) (.bin .add (.tmp 10) (.const (.int .i64 1))) none [],.mk (some 10) (.mv (.tmp 22)) none [0]]
def l93r7:List AOper :=
  [.mk (some 23) (.mv (.tmp 5)) none [],.mk (some 4) (.mv (.tmp 23)) none [0,0]]
def l93:AFn :=
  (AFn.mk 24 2 (.seq (.reg l93r0) (.seq (.reg l93r1) (.seq (.seq (.reg l93r2) (.block 0 (.loop (.seq (.reg l93r3) (.seq (.cond (.tmp 11) .skip (.exit 0)) (.seq (.block 1 (.seq (.reg l93r4) (.reg l93r5))) (.reg l93r6))))))) (.seq (.reg l93r7) .ret)))) [.tmp 4])
theorem l93_eq:lowFn Tryz.prog 93=some l93:=by kernel_rfl
end Go.Proofs.YtahdlohpncjdbaaGreatDoor
