import Derived.Test.YtahdlohpncjdbaaDoorCW3
import Derived.Test.YtahdlohpncjdbaaDoorProg
import Derived.KernelRfl
set_option maxRecDepth 100000
namespace Go.Proofs.YtahdlohpncjdbaaDoor
open Vw Go
/-- Where the sentinel error lies. -/
class SentA where
  a:Addr
instance globs [SentA]:Inhabited GlobT:=⟨⟨[(0,[.iface 137 (.pointer (some SentA.a))])]⟩⟩
attribute [push_cast] Bool.false_eq_true List.length_replicate
attribute [bitvec_to_nat] decide_eq_true_eq decide_eq_false_iff_not Bool.not_eq_true' Bool.not_eq_false' Bool.and_eq_true Bool.or_eq_true Bool.and_eq_false_iff Bool.or_eq_false_iff Int.not_le Int.not_lt bne_iff_ne ne_eq beq_iff_eq Bool.not_eq_true Bool.not_eq_false
theorem sd {P:Prop} (h:P:=by first|assumption|rfl|omega|(simp<;>omega)|(simp_all<;>omega)):P:=h
def l7r0:List AOper :=
  [.mk (some 2) (.box (.tmp 0)) none [],.mk (some 3) (.box (.tmp 1)) none [],.mk (some 4) (.mv (.const (.bool false))) none []]
def l7r1:List AOper :=
  [.mk (some 5) (.mv (.const (.int .i64 1048576))) none []]
def l7r2:List AOper :=
  [.mk (some 17) (.load true 2 (.tmp 2)) none [],.mk (some 18) (.mv (.tmp 5)) none [],.mk (some 19) (.call 8 [.tmp 17,.tmp 18]) none [0,1],.mk (some 5) (.mv (.tmp 19)) none [2,2,0,1,2]]
def l7r3:List AOper :=
  [.mk (some 20) (.mv (.tmp 5)) none [],.mk (some 21) (.bin .lss (.tmp 20) (.const (.int .i64 0))) none [0]]
def l7r4:List AOper :=
  [.mk (some 4) (.mv (.const (.bool true))) none []]
def l7r5:List AOper :=
  [.mk (some 22) (.load true 3 (.tmp 3)) none [],.mk (some 23) (.mv (.tmp 5)) none [],.mk (some 24) (.call 21 [.tmp 22,.tmp 23]) none [0,1],.mk (some 5) (.mv (.tmp 24)) none [2,2,0,1,2]]
def l7r6:List AOper :=
  [.mk (some 25) (.mv (.tmp 5)) none [],.mk (some 26) (.bin .lss (.tmp 25) (.const (.int .i64 0))) none [0]]
def l7r7:List AOper :=
  [.mk (some 4) (.mv (.const (.bool true))) none []]
def l7r8a:List AOper :=
  [.mk (some 28) (.load true 2 (.tmp 2)) none [],.mk (some 29) (.call 10 [.tmp 28]) none [0],.mk (some 30) (.load true 3 (.tmp 3)) none [],.mk (some 31) (.call 23 [.tmp 30]) none [2,1],.mk (some 32) (.call 22 [.tmp 29,.tmp 31]) none [1,3,3],.mk (some 27) (.mv (.tmp 32)) none [4],.mk (some 33) (.extract (.tmp 27) 0) none [5],.mk (some 34) (.extract (.tmp 27) 1) none [5],.mk (some 6) (.alloc [.slice none 0 0,.slice none 0 0]) none [],.mk none (.store 2 (.tmp 6) (.tmp 33)) none [8,6,4,0,1,2,3,4,5,6,8]]
def l7r8b:List AOper :=
  [.mk (some 7) (.mv (.tmp 34)) none [7,9,0,1,2,3,4,5,6,7,8,9]]
def l7r8:List AOper:=l7r8a ++ l7r8b
def l7r9:List AOper :=
  [.mk (some 35) (.load true 2 (.tmp 2)) none [],.mk (some 36) (.call 10 [.tmp 35]) none [0],.mk (some 8) (.alloc [.slice none 0 0,.slice none 0 0]) none [],.mk none (.store 2 (.tmp 8) (.tmp 36)) none [2,1,1,0,1,2]]
def l7r10:List AOper :=
  [.mk (some 37) (.load true 3 (.tmp 3)) none [],.mk (some 38) (.call 23 [.tmp 37]) none [0],.mk (some 9) (.alloc [.int .i64 0,.slice none 0 0,.slice none 0 0]) none [],.mk none (.store 3 (.tmp 9) (.tmp 38)) none [2,1,1,0,1,2]]
def l7r11:List AOper :=
  [.mk (some 40) (.load true 2 (.tmp 8)) none [],.mk (some 41) (.load true 3 (.tmp 9)) none [],.mk (some 42) (.call 24 [.tmp 40,.tmp 41]) none [0,1],.mk (some 39) (.mv (.tmp 42)) none [2],.mk (some 43) (.extract (.tmp 39) 0) none [3],.mk (some 44) (.extract (.tmp 39) 1) none [3],.mk (some 10) (.alloc [.slice none 0 0,.slice none 0 0]) none [],.mk none (.store 2 (.tmp 10) (.tmp 43)) none [6,4,2,0,1,2,3,4,6],.mk (some 11) (.mv (.tmp 44)) none [5,7,0,1,2,3,4,5,6,7]]
def l7r12:List AOper :=
  [.mk (some 45) (.load true 2 (.tmp 10)) none [],.mk (some 46) (.load true 2 (.tmp 6)) none [],.mk (some 47) (.call 12 [.tmp 45,.tmp 46]) none [0,1],.mk (some 48) (.un .not (.tmp 47)) none [2],.mk (some 49) (.mv (.tmp 48)) none [3,2],.mk (some 50) (.mv (.tmp 11)) (some (49,false)) [4],.mk (some 51) (.mv (.tmp 7)) (some (49,false)) [4],.mk (some 52) (.binB .neq (.tmp 50) (.tmp 51)) (some (49,false)) [5,6,4],.mk (some 53) (.pick (.tmp 49) (.const (.bool true)) (.tmp 52)) none [4,7]]
def l7r13:List AOper :=
  [.mk (some 4) (.mv (.const (.bool false))) none []]
def l7r14a:List AOper :=
  [.mk (some 54) (.load true 2 (.tmp 8)) none [],.mk (some 55) (.load true 2 (.tmp 2)) none [],.mk (some 56) (.call 10 [.tmp 55]) none [1]]
def l7r14b:List AOper :=
  [.mk (some 57) (.call 12 [.tmp 54,.tmp 56]) none [0,2,2],.mk (some 58) (.un .not (.tmp 57)) none [3]]
def l7r14:List AOper:=l7r14a ++ l7r14b
def l7r15:List AOper :=
  [.mk (some 4) (.mv (.const (.bool false))) none []]
def l7r16a:List AOper :=
  [.mk (some 59) (.load true 3 (.tmp 9)) none [],.mk (some 60) (.load true 3 (.tmp 3)) none [],.mk (some 61) (.call 23 [.tmp 60]) none [1]]
def l7r16b:List AOper :=
  [.mk (some 62) (.call 25 [.tmp 59,.tmp 61]) none [0,2,2],.mk (some 63) (.un .not (.tmp 62)) none [3]]
def l7r16:List AOper:=l7r16a ++ l7r16b
def l7r17:List AOper :=
  [.mk (some 4) (.mv (.const (.bool false))) none []]
def l7r18:List AOper :=
  [.mk (some 12) (.mv (.const (.int .i64 1))) none []]
def l7r19:List AOper :=
  [.mk (some 64) (.load true 2 (.tmp 8)) none [],.mk (some 65) (.mv (.tmp 12)) none [],.mk (some 66) (.call 13 [.tmp 64,.tmp 65]) none [0,1],.mk (some 12) (.mv (.tmp 66)) none [2,2,0,1,2]]
def l7r20:List AOper :=
  [.mk (some 67) (.load true 3 (.tmp 9)) none [],.mk (some 68) (.mv (.tmp 12)) none [],.mk (some 69) (.call 26 [.tmp 67,.tmp 68]) none [0,1],.mk (some 12) (.mv (.tmp 69)) none [2,2,0,1,2]]
def l7r21:List AOper :=
  [.mk (some 70) (.mv (.tmp 12)) none [],.mk (some 71) (.bin .lss (.tmp 70) (.const (.int .i64 0))) none [0],.mk (some 72) (.mv (.tmp 71)) none [1],.mk (some 73) (.load true 2 (.tmp 10)) (some (72,false)) [2],.mk (some 74) (.load true 2 (.tmp 6)) (some (72,false)) [2],.mk (some 75) (.call 12 [.tmp 73,.tmp 74]) (some (72,false)) [3,4,2,2],.mk (some 76) (.un .not (.tmp 75)) (some (72,false)) [5,2],.mk (some 77) (.pick (.tmp 72) (.const (.bool true)) (.tmp 76)) none [2,6],.mk (some 78) (.mv (.tmp 77)) none [7,5],.mk (some 79) (.mv (.tmp 11)) (some (78,false)) [8],.mk (some 80) (.mv (.tmp 7)) (some (78,false)) [8],.mk (some 81) (.binB .neq (.tmp 79) (.tmp 80)) (some (78,false)) [9,10,8],.mk (some 82) (.pick (.tmp 78) (.const (.bool true)) (.tmp 81)) none [8,11]]
def l7r22:List AOper :=
  [.mk (some 4) (.mv (.const (.bool false))) none []]
def l7r23:List AOper :=
  [.mk (some 13) (.mv (.const (.int .i64 1))) none []]
def l7r24:List AOper :=
  [.mk (some 83) (.load true 2 (.tmp 10)) none [],.mk (some 84) (.mv (.tmp 13)) none [],.mk (some 85) (.call 13 [.tmp 83,.tmp 84]) none [0,1],.mk (some 13) (.mv (.tmp 85)) none [2,2,0,1,2]]
def l7r25:List AOper :=
  [.mk (some 14) (.mv (.const (.int .i64 1))) none []]
def l7r26:List AOper :=
  [.mk (some 86) (.load true 2 (.tmp 10)) none [],.mk (some 87) (.mv (.tmp 14)) none [],.mk (some 88) (.call 14 [.tmp 86,.tmp 87]) none [0,1],.mk (some 14) (.mv (.tmp 88)) none [2,2,0,1,2]]
def l7r27:List AOper :=
  [.mk (some 89) (.mv (.tmp 14)) none [],.mk (some 90) (.bin .lss (.tmp 89) (.const (.int .i64 0))) none [0]]
def l7r28:List AOper :=
  [.mk (some 4) (.mv (.const (.bool false))) none []]
def l7r29:List AOper :=
  [.mk (some 91) (.mv (.tmp 14)) none [],.mk (some 92) (.mv (.tmp 13)) none [],.mk (some 93) (.bin .neq (.tmp 91) (.tmp 92)) none [0,1]]
def l7r30:List AOper :=
  [.mk (some 4) (.mv (.const (.bool false))) none []]
def l7r31a:List AOper :=
  [.mk (some 95) (.load true 2 (.tmp 2)) none [],.mk (some 96) (.call 10 [.tmp 95]) none [0],.mk (some 97) (.load true 3 (.tmp 3)) none [],.mk (some 98) (.call 23 [.tmp 97]) none [2,1],.mk (some 99) (.call 24 [.tmp 96,.tmp 98]) none [1,3,3],.mk (some 94) (.mv (.tmp 99)) none [4],.mk (some 100) (.extract (.tmp 94) 0) none [5],.mk (some 101) (.extract (.tmp 94) 1) none [5],.mk (some 15) (.alloc [.slice none 0 0,.slice none 0 0]) none [],.mk none (.store 2 (.tmp 15) (.tmp 100)) none [8,6,4,0,1,2,3,4,5,6,8]]
def l7r31b:List AOper :=
  [.mk (some 16) (.mv (.tmp 101)) none [7,9,0,1,2,3,4,5,6,7,8,9]]
def l7r31:List AOper:=l7r31a ++ l7r31b
def l7r32:List AOper :=
  [.mk (some 102) (.load true 2 (.tmp 15)) none [],.mk (some 103) (.load true 2 (.tmp 6)) none [],.mk (some 104) (.call 12 [.tmp 102,.tmp 103]) none [0,1],.mk (some 105) (.un .not (.tmp 104)) none [2],.mk (some 106) (.mv (.tmp 105)) none [3,2],.mk (some 107) (.mv (.tmp 16)) (some (106,false)) [4],.mk (some 108) (.mv (.tmp 7)) (some (106,false)) [4],.mk (some 109) (.binB .neq (.tmp 107) (.tmp 108)) (some (106,false)) [5,6,4],.mk (some 110) (.pick (.tmp 106) (.const (.bool true)) (.tmp 109)) none [4,7]]
def l7r33:List AOper :=
  [.mk (some 4) (.mv (.const (.bool false))) none []]
def l7r34:List AOper :=
  [.mk (some 14) (.mv (.const (.int .i64 1))) none []]
def l7r35:List AOper :=
  [.mk (some 111) (.load true 2 (.tmp 10)) none [],.mk (some 112) (.mv (.tmp 14)) none [],.mk (some 113) (.call 14 [.tmp 111,.tmp 112]) none [0,1],.mk (some 14) (.mv (.tmp 113)) none [2,2,0,1,2]]
def l7r36:List AOper :=
  [.mk (some 114) (.mv (.tmp 14)) none [],.mk (some 115) (.bin .lss (.tmp 114) (.const (.int .i64 0))) none [0]]
def l7r37:List AOper :=
  [.mk (some 4) (.mv (.const (.bool false))) none []]
def l7r38:List AOper :=
  [.mk (some 116) (.mv (.tmp 14)) none [],.mk (some 117) (.mv (.tmp 13)) none [],.mk (some 118) (.bin .neq (.tmp 116) (.tmp 117)) none [0,1]]
def l7r39:List AOper :=
  [.mk (some 4) (.mv (.const (.bool false))) none []]
def l7r40:List AOper :=
  [.mk (some 4) (.mv (.const (.bool true))) none []]
def l7:AFn :=
  (AFn.mk 119 2 (.seq (.reg l7r0) (.seq (.reg l7r1) (.seq (.reg l7r2) (.seq (.seq (.reg l7r3) (.cond (.tmp 21) (.seq (.reg l7r4) .ret) .skip)) (.seq (.reg l7r5) (.seq (.seq (.reg l7r6) (.cond (.tmp 26) (.seq (.reg l7r7) .ret) .skip)) (.seq (.draw l7r8) (.seq (.reg l7r9) (.seq (.reg l7r10) (.seq (.reg l7r11) (.seq (.seq (.reg l7r12) (.cond (.tmp 53) (.seq (.reg l7r13) .ret) .skip)) (.seq (.seq (.draw l7r14) (.cond (.tmp 58) (.seq (.reg l7r15) .ret) .skip)) (.seq (.seq (.draw l7r16) (.cond (.tmp 63) (.seq (.reg l7r17) .ret) .skip)) (.seq (.reg l7r18) (.seq (.reg l7r19) (.seq (.reg l7r20) (.seq (.seq (.reg l7r21) (.cond (.tmp 82) (.seq (.reg l7r22) .ret) .skip)) (.seq (.reg l7r23) (.seq (.reg l7r24) (.seq (.reg l7r25) (.seq (.reg l7r26) (.seq (.seq (.reg l7r27) (.cond (.tmp 90) (.seq (.reg l7r28) .ret) .skip)) (.seq (.seq (.reg l7r29) (.cond (.tmp 93) (.seq (.reg l7r30) .ret) .skip)) (.seq (.draw l7r31) (.seq (.seq (.reg l7r32) (.cond (.tmp 110) (.seq (.reg l7r33) .ret) .skip)) (.seq (.reg l7r34) (.seq (.reg l7r35) (.seq (.seq (.reg l7r36) (.cond (.tmp 115) (.seq (.reg l7r37) .ret) .skip)) (.seq (.seq (.reg l7r38) (.cond (.tmp 118) (.seq (.reg l7r39) .ret) .skip)) (.seq (.reg l7r40) .ret)))))))))))))))))))))))))))))) [.tmp 4])
theorem l7_eq:lowFn Tryd.prog 7=some l7:=by kernel_rfl
def l8r0:List AOper :=
  [.mk (some 2) (.box (.tmp 0)) none [],.mk (some 4) (.mv (.const (.int .i64 0))) none []]
def l8r1:List AOper :=
  [.mk (some 5) (.fld 0 (.tmp 2)) none [],.mk (some 6) (.load false 1 (.tmp 5)) none [0],.mk (some 7) (.mv (.tmp 1)) none [],.mk (some 8) (.call 27 [.tmp 6,.tmp 7]) none [1,2],.mk (some 1) (.mv (.tmp 8)) none [3,3,0,1,2,3]]
def l8r2:List AOper :=
  [.mk (some 9) (.mv (.tmp 1)) none [],.mk (some 10) (.bin .lss (.tmp 9) (.const (.int .i64 0))) none [0]]
def l8r3:List AOper :=
  [.mk (some 4) (.mv (.const (.int .i64 (-1)))) none []]
def l8r4:List AOper :=
  [.mk (some 11) (.fld 1 (.tmp 2)) none [],.mk (some 12) (.load false 1 (.tmp 11)) none [0],.mk (some 13) (.mv (.tmp 1)) none [],.mk (some 14) (.call 28 [.tmp 12,.tmp 13]) none [1,2],.mk (some 1) (.mv (.tmp 14)) none [3,3,0,1,2,3]]
def l8r5:List AOper :=
  [.mk (some 15) (.mv (.tmp 1)) none [],.mk (some 16) (.bin .lss (.tmp 15) (.const (.int .i64 0))) none [0]]
def l8r6:List AOper :=
  [.mk (some 4) (.mv (.const (.int .i64 (-1)))) none []]
def l8r7:List AOper :=
  [.mk (some 17) (.mv (.tmp 1)) none [],.mk (some 4) (.mv (.tmp 17)) none [0,0]]
def l8:AFn :=
  (AFn.mk 18 2 (.seq (.reg l8r0) (.seq (.reg l8r1) (.seq (.seq (.reg l8r2) (.cond (.tmp 10) (.seq (.reg l8r3) .ret) .skip)) (.seq (.reg l8r4) (.seq (.seq (.reg l8r5) (.cond (.tmp 16) (.seq (.reg l8r6) .ret) .skip)) (.seq (.reg l8r7) .ret)))))) [.tmp 4])
theorem l8_eq:lowFn Tryd.prog 8=some l8:=by kernel_rfl
def l10r0:List AOper :=
  [.mk (some 1) (.box (.tmp 0)) none [],.mk (some 2) (.alloc [.slice none 0 0,.slice none 0 0]) none []]
def l10r1:List AOper :=
  [.mk (some 3) (.alloc [.slice none 0 0,.slice none 0 0]) none []]
def l10r2:List AOper :=
  [.mk (some 4) (.fld 0 (.tmp 1)) none [],.mk (some 5) (.load false 1 (.tmp 4)) none [0],.mk (some 6) (.call 33 [.tmp 5]) none [1],.mk (some 7) (.fld 0 (.tmp 3)) none [0,1,2],.mk none (.store 1 (.tmp 7) (.tmp 6)) none [3,2,2,0,1,2]]
def l10r3:List AOper :=
  [.mk (some 8) (.fld 1 (.tmp 1)) none [],.mk (some 9) (.load false 1 (.tmp 8)) none [0],.mk (some 10) (.call 34 [.tmp 9]) none [1],.mk (some 11) (.fld 1 (.tmp 3)) none [0,1,2],.mk none (.store 1 (.tmp 11) (.tmp 10)) none [3,2,2,0,1,2]]
def l10r4:List AOper :=
  [.mk (some 12) (.load true 2 (.tmp 3)) none [],.mk none (.store 2 (.tmp 2) (.tmp 12)) none [0,0]]
def l10:AFn :=
  (AFn.mk 13 1 (.seq (.reg l10r0) (.seq (.reg l10r1) (.seq (.reg l10r2) (.seq (.reg l10r3) (.seq (.reg l10r4) .ret))))) [.cell 2 true 2])
theorem l10_eq:lowFn Tryd.prog 10=some l10:=by kernel_rfl
def l12r0:List AOper :=
  [.mk (some 2) (.box (.tmp 0)) none [],.mk (some 3) (.box (.tmp 1)) none [],.mk (some 4) (.mv (.const (.bool false))) none []]
def l12r1:List AOper :=
  [.mk (some 5) (.fld 0 (.tmp 2)) none [],.mk (some 6) (.load false 1 (.tmp 5)) none [0],.mk (some 7) (.fld 0 (.tmp 3)) none [],.mk (some 8) (.load false 1 (.tmp 7)) none [2],.mk (some 9) (.call 40 [.tmp 6,.tmp 8]) none [1,3],.mk (some 10) (.un .not (.tmp 9)) none [4]]
def l12r2:List AOper :=
  [.mk (some 4) (.mv (.const (.bool false))) none []]
def l12r3:List AOper :=
  [.mk (some 11) (.fld 1 (.tmp 2)) none [],.mk (some 12) (.load false 1 (.tmp 11)) none [0],.mk (some 13) (.fld 1 (.tmp 3)) none [],.mk (some 14) (.load false 1 (.tmp 13)) none [2],.mk (some 15) (.call 41 [.tmp 12,.tmp 14]) none [1,3],.mk (some 16) (.un .not (.tmp 15)) none [4]]
def l12r4:List AOper :=
  [.mk (some 4) (.mv (.const (.bool false))) none []]
def l12r5:List AOper :=
  [.mk (some 4) (.mv (.const (.bool true))) none []]
def l12:AFn :=
  (AFn.mk 17 2 (.seq (.reg l12r0) (.seq (.seq (.reg l12r1) (.cond (.tmp 10) (.seq (.reg l12r2) .ret) .skip)) (.seq (.seq (.reg l12r3) (.cond (.tmp 16) (.seq (.reg l12r4) .ret) .skip)) (.seq (.reg l12r5) .ret)))) [.tmp 4])
theorem l12_eq:lowFn Tryd.prog 12=some l12:=by kernel_rfl
def l13r0:List AOper :=
  [.mk (some 2) (.box (.tmp 0)) none [],.mk (some 4) (.mv (.const (.int .i64 0))) none []]
def l13r1:List AOper :=
  [.mk (some 5) (.fld 0 (.tmp 2)) none [],.mk (some 6) (.load false 1 (.tmp 5)) none [0],.mk (some 7) (.mv (.tmp 1)) none [],.mk (some 8) (.call 42 [.tmp 6,.tmp 7]) none [1,2],.mk (some 1) (.mv (.tmp 8)) none [3,3,0,1,2,3]]
def l13r2:List AOper :=
  [.mk (some 9) (.fld 1 (.tmp 2)) none [],.mk (some 10) (.load false 1 (.tmp 9)) none [0],.mk (some 11) (.mv (.tmp 1)) none [],.mk (some 12) (.call 43 [.tmp 10,.tmp 11]) none [1,2],.mk (some 1) (.mv (.tmp 12)) none [3,3,0,1,2,3]]
def l13r3:List AOper :=
  [.mk (some 13) (.mv (.tmp 1)) none [],.mk (some 4) (.mv (.tmp 13)) none [0,0]]
def l13:AFn :=
  (AFn.mk 14 2 (.seq (.reg l13r0) (.seq (.reg l13r1) (.seq (.reg l13r2) (.seq (.reg l13r3) .ret)))) [.tmp 4])
theorem l13_eq:lowFn Tryd.prog 13=some l13:=by kernel_rfl
def l14r0:List AOper :=
  [.mk (some 2) (.box (.tmp 0)) none [],.mk (some 4) (.mv (.const (.int .i64 0))) none []]
def l14r1:List AOper :=
  [.mk (some 5) (.fld 0 (.tmp 2)) none [],.mk (some 6) (.load false 1 (.tmp 5)) none [0],.mk (some 7) (.mv (.tmp 1)) none [],.mk (some 8) (.call 44 [.tmp 6,.tmp 7]) none [1,2],.mk (some 1) (.mv (.tmp 8)) none [3,3,0,1,2,3]]
def l14r2:List AOper :=
  [.mk (some 9) (.mv (.tmp 1)) none [],.mk (some 10) (.bin .lss (.tmp 9) (.const (.int .i64 0))) none [0]]
def l14r3:List AOper :=
  [.mk (some 4) (.mv (.const (.int .i64 (-1)))) none []]
def l14r4:List AOper :=
  [.mk (some 11) (.fld 1 (.tmp 2)) none [],.mk (some 12) (.load false 1 (.tmp 11)) none [0],.mk (some 13) (.mv (.tmp 1)) none [],.mk (some 14) (.call 45 [.tmp 12,.tmp 13]) none [1,2],.mk (some 1) (.mv (.tmp 14)) none [3,3,0,1,2,3]]
def l14r5:List AOper :=
  [.mk (some 15) (.mv (.tmp 1)) none [],.mk (some 16) (.bin .lss (.tmp 15) (.const (.int .i64 0))) none [0]]
def l14r6:List AOper :=
  [.mk (some 4) (.mv (.const (.int .i64 (-1)))) none []]
def l14r7:List AOper :=
  [.mk (some 17) (.mv (.tmp 1)) none [],.mk (some 4) (.mv (.tmp 17)) none [0,0]]
def l14:AFn :=
  (AFn.mk 18 2 (.seq (.reg l14r0) (.seq (.reg l14r1) (.seq (.seq (.reg l14r2) (.cond (.tmp 10) (.seq (.reg l14r3) .ret) .skip)) (.seq (.reg l14r4) (.seq (.seq (.reg l14r5) (.cond (.tmp 16) (.seq (.reg l14r6) .ret) .skip)) (.seq (.reg l14r7) .ret)))))) [.tmp 4])
theorem l14_eq:lowFn Tryd.prog 14=some l14:=by kernel_rfl
def l21r0:List AOper :=
  [.mk (some 2) (.box (.tmp 0)) none [],.mk (some 4) (.mv (.const (.int .i64 0))) none []]
def l21r1:List AOper :=
  [.mk (some 5) (.fld 1 (.tmp 2)) none [],.mk (some 6) (.load false 1 (.tmp 5)) none [0],.mk (some 7) (.mv (.tmp 1)) none [],.mk (some 8) (.call 27 [.tmp 6,.tmp 7]) none [1,2],.mk (some 1) (.mv (.tmp 8)) none [3,3,0,1,2,3]]
def l21r2:List AOper :=
  [.mk (some 9) (.mv (.tmp 1)) none [],.mk (some 10) (.bin .lss (.tmp 9) (.const (.int .i64 0))) none [0]]
def l21r3:List AOper :=
  [.mk (some 4) (.mv (.const (.int .i64 (-1)))) none []]
def l21r4:List AOper :=
  [.mk (some 11) (.fld 2 (.tmp 2)) none [],.mk (some 12) (.load false 1 (.tmp 11)) none [0],.mk (some 13) (.mv (.tmp 1)) none [],.mk (some 14) (.call 27 [.tmp 12,.tmp 13]) none [1,2],.mk (some 1) (.mv (.tmp 14)) none [3,3,0,1,2,3]]
def l21r5:List AOper :=
  [.mk (some 15) (.mv (.tmp 1)) none [],.mk (some 16) (.bin .lss (.tmp 15) (.const (.int .i64 0))) none [0]]
def l21r6:List AOper :=
  [.mk (some 4) (.mv (.const (.int .i64 (-1)))) none []]
def l21r7:List AOper :=
  [.mk (some 17) (.mv (.tmp 1)) none [],.mk (some 4) (.mv (.tmp 17)) none [0,0]]
def l21:AFn :=
  (AFn.mk 18 2 (.seq (.reg l21r0) (.seq (.reg l21r1) (.seq (.seq (.reg l21r2) (.cond (.tmp 10) (.seq (.reg l21r3) .ret) .skip)) (.seq (.reg l21r4) (.seq (.seq (.reg l21r5) (.cond (.tmp 16) (.seq (.reg l21r6) .ret) .skip)) (.seq (.reg l21r7) .ret)))))) [.tmp 4])
theorem l21_eq:lowFn Tryd.prog 21=some l21:=by kernel_rfl
def l22r0:List AOper :=
  [.mk (some 2) (.box (.tmp 0)) none [],.mk (some 3) (.box (.tmp 1)) none [],.mk (some 4) (.alloc [.slice none 0 0,.slice none 0 0]) none [],.mk (some 5) (.mv (.const (.bool false))) none []]
def l22r1:List AOper :=
  [.mk (some 6) (.load true 2 (.tmp 2)) none [],.mk (some 7) (.call 29 [.tmp 6]) none [0],.mk (some 8) (.un .not (.tmp 7)) none [1],.mk (some 9) (.mv (.tmp 8)) none [2,1],.mk (some 10) (.load true 3 (.tmp 3)) (some (9,false)) [3],.mk (some 11) (.call 55 [.tmp 10]) (some (9,false)) [4,3,3],.mk (some 12) (.un .not (.tmp 11)) (some (9,false)) [5,3],.mk (some 13) (.pick (.tmp 9) (.const (.bool true)) (.tmp 12)) none [3,6],.mk (some 14) (.mv (.tmp 13)) none [7,5],.mk (some 15) (.load true 3 (.tmp 3)) (some (14,false)) [8],.mk (some 16) (.fld 0 (.tmp 2)) (some (14,false)) [8],.mk (some 17) (.load false 1 (.tmp 16)) (some (14,false)) [10,8],.mk (some 18) (.len (.tmp 17)) (some (14,false)) [11,8],.mk (some 19) (.call 56 [.tmp 15,.tmp 18]) (some (14,false)) [9,12,8,8],.mk (some 20) (.un .not (.tmp 19)) (some (14,false)) [13,8],.mk (some 21) (.pick (.tmp 14) (.const (.bool true)) (.tmp 20)) none [8,14],.mk (some 22) (.mv (.tmp 21)) none [15,13],.mk (some 23) (.fld 1 (.tmp 2)) (some (22,false)) [16],.mk (some 24) (.load false 1 (.tmp 23)) (some (22,false)) [17,16],.mk (some 25) (.len (.tmp 24)) (some (22,false)) [18,16],.mk (some 26) (.bin .eql (.tmp 25) (.const (.int .i64 8))) (some (22,false)) [19,16],.mk (some 27) (.pick (.tmp 22) (.const (.bool true)) (.tmp 26)) none [16,20]]
def l22r2:List AOper :=
  [.mk (some 28) (.build [.slice none 0 0,.slice none 0 0] []) none [],.mk none (.store 2 (.tmp 4) (.tmp 28)) none [0,0],.mk (some 5) (.mv (.const (.bool false))) none [1,0,1]]
def l22r3:List AOper :=
  [.mk (some 29) (.load true 2 (.tmp 2)) none [],.mk (some 30) (.load true 3 (.tmp 3)) none [],.mk (some 31) (.call 57 [.tmp 29,.const (.int .i64 (-1)),.tmp 30]) none [0,1],.mk none (.store 2 (.tmp 4) (.tmp 31)) none [2,2,0,1,2],.mk (some 5) (.mv (.const (.bool true))) none [3,0,1,2,3]]
def l22:AFn :=
  (AFn.mk 32 2 (.seq (.reg l22r0) (.seq (.seq (.reg l22r1) (.cond (.tmp 27) (.seq (.reg l22r2) .ret) .skip)) (.seq (.reg l22r3) .ret))) [.cell 4 true 2,.tmp 5])
theorem l22_eq:lowFn Tryd.prog 22=some l22:=by kernel_rfl
def l23r0:List AOper :=
  [.mk (some 1) (.box (.tmp 0)) none [],.mk (some 2) (.alloc [.int .i64 0,.slice none 0 0,.slice none 0 0]) none []]
def l23r1:List AOper :=
  [.mk (some 3) (.alloc [.int .i64 0,.slice none 0 0,.slice none 0 0]) none []]
def l23r2:List AOper :=
  [.mk (some 4) (.fld 0 (.tmp 1)) none [],.mk (some 5) (.load false 1 (.tmp 4)) none [0],.mk (some 6) (.fld 0 (.tmp 3)) none [0,1],.mk none (.store 1 (.tmp 6) (.tmp 5)) none [2,1,0,1]]
def l23r3:List AOper :=
  [.mk (some 7) (.fld 1 (.tmp 1)) none [],.mk (some 8) (.load false 1 (.tmp 7)) none [0],.mk (some 9) (.call 33 [.tmp 8]) none [1],.mk (some 10) (.fld 1 (.tmp 3)) none [0,1,2],.mk none (.store 1 (.tmp 10) (.tmp 9)) none [3,2,2,0,1,2]]
def l23r4:List AOper :=
  [.mk (some 11) (.fld 2 (.tmp 1)) none [],.mk (some 12) (.load false 1 (.tmp 11)) none [0],.mk (some 13) (.call 33 [.tmp 12]) none [1],.mk (some 14) (.fld 2 (.tmp 3)) none [0,1,2],.mk none (.store 1 (.tmp 14) (.tmp 13)) none [3,2,2,0,1,2]]
def l23r5:List AOper :=
  [.mk (some 15) (.load true 3 (.tmp 3)) none [],.mk none (.store 3 (.tmp 2) (.tmp 15)) none [0,0]]
def l23:AFn :=
  (AFn.mk 16 1 (.seq (.reg l23r0) (.seq (.reg l23r1) (.seq (.reg l23r2) (.seq (.reg l23r3) (.seq (.reg l23r4) (.seq (.reg l23r5) .ret)))))) [.cell 2 true 3])
theorem l23_eq:lowFn Tryd.prog 23=some l23:=by kernel_rfl
def l24r0:List AOper :=
  [.mk (some 2) (.box (.tmp 0)) none [],.mk (some 3) (.box (.tmp 1)) none [],.mk (some 4) (.alloc [.slice none 0 0,.slice none 0 0]) none [],.mk (some 5) (.mv (.const (.bool false))) none []]
def l24r1:List AOper :=
  [.mk (some 6) (.load true 2 (.tmp 2)) none [],.mk (some 7) (.call 53 [.tmp 6]) none [0],.mk (some 8) (.un .not (.tmp 7)) none [1],.mk (some 9) (.mv (.tmp 8)) none [2,1],.mk (some 10) (.load true 3 (.tmp 3)) (some (9,false)) [3],.mk (some 11) (.fld 0 (.tmp 2)) (some (9,false)) [3],.mk (some 12) (.load false 1 (.tmp 11)) (some (9,false)) [5,3],.mk (some 13) (.len (.tmp 12)) (some (9,false)) [6,3],.mk (some 14) (.call 58 [.tmp 10,.tmp 13]) (some (9,false)) [4,7,3,3],.mk (some 15) (.un .not (.tmp 14)) (some (9,false)) [8,3],.mk (some 16) (.pick (.tmp 9) (.const (.bool true)) (.tmp 15)) none [3,9]]
def l24r2:List AOper :=
  [.mk (some 17) (.build [.slice none 0 0,.slice none 0 0] []) none [],.mk none (.store 2 (.tmp 4) (.tmp 17)) none [0,0],.mk (some 5) (.mv (.const (.bool false))) none [1,0,1]]
def l24r3:List AOper :=
  [.mk (some 18) (.load true 2 (.tmp 2)) none [],.mk (some 19) (.load true 3 (.tmp 3)) none [],.mk (some 20) (.call 59 [.tmp 18,.const (.int .i64 (-1)),.tmp 19]) none [0,1],.mk (some 21) (.extract (.tmp 20) 0) none [2],.mk (some 22) (.extract (.tmp 20) 1) none [2],.mk none (.store 2 (.tmp 4) (.tmp 21)) none [3,2,0,1,2,3,4],.mk (some 5) (.mv (.tmp 22)) none [4,5,0,1,2,3,4,5]]
def l24:AFn :=
  (AFn.mk 23 2 (.seq (.reg l24r0) (.seq (.seq (.reg l24r1) (.cond (.tmp 16) (.seq (.reg l24r2) .ret) .skip)) (.seq (.reg l24r3) .ret))) [.cell 4 true 2,.tmp 5])
theorem l24_eq:lowFn Tryd.prog 24=some l24:=by kernel_rfl
def l25r0:List AOper :=
  [.mk (some 2) (.box (.tmp 0)) none [],.mk (some 3) (.box (.tmp 1)) none [],.mk (some 4) (.mv (.const (.bool false))) none []]
def l25r1:List AOper :=
  [.mk (some 5) (.fld 0 (.tmp 2)) none [],.mk (some 6) (.load false 1 (.tmp 5)) none [0],.mk (some 7) (.fld 0 (.tmp 3)) none [],.mk (some 8) (.load false 1 (.tmp 7)) none [2],.mk (some 9) (.bin .neq (.tmp 6) (.tmp 8)) none [1,3]]
def l25r2:List AOper :=
  [.mk (some 4) (.mv (.const (.bool false))) none []]
def l25r3:List AOper :=
  [.mk (some 10) (.fld 1 (.tmp 2)) none [],.mk (some 11) (.load false 1 (.tmp 10)) none [0],.mk (some 12) (.fld 1 (.tmp 3)) none [],.mk (some 13) (.load false 1 (.tmp 12)) none [2],.mk (some 14) (.call 40 [.tmp 11,.tmp 13]) none [1,3],.mk (some 15) (.un .not (.tmp 14)) none [4]]
def l25r4:List AOper :=
  [.mk (some 4) (.mv (.const (.bool false))) none []]
def l25r5:List AOper :=
  [.mk (some 16) (.fld 2 (.tmp 2)) none [],.mk (some 17) (.load false 1 (.tmp 16)) none [0],.mk (some 18) (.fld 2 (.tmp 3)) none [],.mk (some 19) (.load false 1 (.tmp 18)) none [2],.mk (some 20) (.call 40 [.tmp 17,.tmp 19]) none [1,3],.mk (some 21) (.un .not (.tmp 20)) none [4]]
def l25r6:List AOper :=
  [.mk (some 4) (.mv (.const (.bool false))) none []]
def l25r7:List AOper :=
  [.mk (some 4) (.mv (.const (.bool true))) none []]
def l25:AFn :=
  (AFn.mk 22 2 (.seq (.reg l25r0) (.seq (.seq (.reg l25r1) (.cond (.tmp 9) (.seq (.reg l25r2) .ret) .skip)) (.seq (.seq (.reg l25r3) (.cond (.tmp 15) (.seq (.reg l25r4) .ret) .skip)) (.seq (.seq (.reg l25r5) (.cond (.tmp 21) (.seq (.reg l25r6) .ret) .skip)) (.seq (.reg l25r7) .ret))))) [.tmp 4])
theorem l25_eq:lowFn Tryd.prog 25=some l25:=by kernel_rfl
def l26r0:List AOper :=
  [.mk (some 2) (.box (.tmp 0)) none [],.mk (some 4) (.mv (.const (.int .i64 0))) none []]
def l26r1:List AOper :=
  [.mk (some 5) (.fld 1 (.tmp 2)) none [],.mk (some 6) (.load false 1 (.tmp 5)) none [0],.mk (some 7) (.mv (.tmp 1)) none [],.mk (some 8) (.call 42 [.tmp 6,.tmp 7]) none [1,2],.mk (some 1) (.mv (.tmp 8)) none [3,3,0,1,2,3]]
def l26r2:List AOper :=
  [.mk (some 9) (.fld 2 (.tmp 2)) none [],.mk (some 10) (.load false 1 (.tmp 9)) none [0],.mk (some 11) (.mv (.tmp 1)) none [],.mk (some 12) (.call 42 [.tmp 10,.tmp 11]) none [1,2],.mk (some 1) (.mv (.tmp 12)) none [3,3,0,1,2,3]]
def l26r3:List AOper :=
  [.mk (some 13) (.mv (.tmp 1)) none [],.mk (some 4) (.mv (.tmp 13)) none [0,0]]
def l26:AFn :=
  (AFn.mk 14 2 (.seq (.reg l26r0) (.seq (.reg l26r1) (.seq (.reg l26r2) (.seq (.reg l26r3) .ret)))) [.tmp 4])
theorem l26_eq:lowFn Tryd.prog 26=some l26:=by kernel_rfl
def l27r0:List AOper :=
  [.mk (some 4) (.mv (.const (.int .i64 0))) none []]
def l27r1:List AOper :=
  [.mk (some 5) (.mv (.tmp 1)) none [],.mk (some 6) (.mv (.tmp 0)) none [],.mk (some 7) (.len (.tmp 6)) none [1],.mk (some 8) (.bin .sub (.tmp 5) (.tmp 7)) none [0,2],.mk (some 1) (.mv (.tmp 8)) none [3,0,1,2,3]]
def l27r2:List AOper :=
  [.mk (some 9) (.mv (.tmp 1)) none [],.mk (some 10) (.bin .lss (.tmp 9) (.const (.int .i64 0))) none [0]]
def l27r3:List AOper :=
  [.mk (some 4) (.mv (.const (.int .i64 (-1)))) none []]
def l27r4:List AOper :=
  [.mk (some 11) (.mv (.tmp 1)) none [],.mk (some 4) (.mv (.tmp 11)) none [0,0]]
def l27:AFn :=
  (AFn.mk 12 2 (.seq (.reg l27r0) (.seq (.reg l27r1) (.seq (.seq (.reg l27r2) (.cond (.tmp 10) (.seq (.reg l27r3) .ret) .skip)) (.seq (.reg l27r4) .ret)))) [.tmp 4])
theorem l27_eq:lowFn Tryd.prog 27=some l27:=by kernel_rfl
def l28r0:List AOper :=
  [.mk (some 4) (.mv (.const (.int .i64 0))) none []]
def l28r1:List AOper :=
  [.mk (some 6) (.mv (.tmp 1)) none [],.mk (some 7) (.mv (.tmp 0)) none [],.mk (some 8) (.len (.tmp 7)) none [1],.mk (some 9) (.bin .sub (.tmp 6) (.tmp 8)) none [0,2],.mk (some 1) (.mv (.tmp 9)) none [3,0,1,2,3]]
def l28r2:List AOper :=
  [.mk (some 10) (.mv (.tmp 1)) none [],.mk (some 11) (.bin .lss (.tmp 10) (.const (.int .i64 0))) none [0]]
def l28r3:List AOper :=
  [.mk (some 4) (.mv (.const (.int .i64 (-1)))) none []]
def l28r4:List AOper :=
  [.mk (some 5) (.mv (.const (.int .i64 0))) none []]
def l28r5:List AOper :=
  [.mk (some 12) (.mv (.tmp 5)) none [],.mk (some 13) (.mv (.tmp 0)) none [],.mk (some 14) (.len (.tmp 13)) none [1],.mk (some 15) (.bin .lss (.tmp 12) (.tmp 14)) none [0,2]]
def l28r6:List AOper :=
  [.mk (some 18) (.mv (.tmp 0)) none [],.mk (some 19) (.mv (.tmp 5)) none [],.mk (some 20) (.idxA 5 (.tmp 18) (.tmp 19)) none [0,1],.mk (some 21) (.load true 5 (.tmp 20)) none [2],.mk (some 22) (.mv (.tmp 1)) none [],.mk (some 23) (.call 60 [.tmp 21,.tmp 22]) none [3,4],.mk (some 1) (.mv (.tmp 23)) none [5,5,0,1,2,3,4,5]]
def l28r7:List AOper :=
  [.mk (some 24) (.mv (.tmp 1)) none [],.mk (some 25) (.bin .lss (.tmp 24) (.const (.int .i64 0))) none [0]]
def l28r8:List AOper :=
  [.mk (some 4) (.mv (.const (.int .i64 (-1)))) none []]
def l28r9:List AOper :=
  [.mk (some 16) (.mv (.tmp 5)) none [],.mk (some 17) (.bin .add (.tmp 16) (.const (.int .i64 1))) none [0],.mk (some 5) (.mv (.tmp 17)) none [1,0,1]]
def l28r10:List AOper :=
  [.mk (some 26) (.mv (.tmp 1)) none [],.mk (some 4) (.mv (.tmp 26)) none [0,0]]
def l28:AFn :=
  (AFn.mk 27 2 (.seq (.reg l28r0) (.seq (.reg l28r1) (.seq (.seq (.reg l28r2) (.cond (.tmp 11) (.seq (.reg l28r3) .ret) .skip)) (.seq (.seq (.reg l28r4) (.block 0 (.loop (.seq (.seq (.reg l28r5) (.cond (.tmp 15) .skip (.exit 0))) (.seq (.block 1 (.seq (.reg l28r6) (.seq (.reg l28r7) (.cond (.tmp 25) (.seq (.reg l28r8) .ret) .skip)))) (.reg l28r9)))))) (.seq (.reg l28r10) .ret))))) [.tmp 4])
theorem l28_eq:lowFn Tryd.prog 28=some l28:=by kernel_rfl
def l29r0:List AOper :=
  [.mk (some 1) (.box (.tmp 0)) none [],.mk (some 2) (.mv (.const (.bool false))) none []]
def l29r1:List AOper :=
  [.mk (some 3) (.mv (.const (.int .i64 0))) none []]
def l29r2:List AOper :=
  [.mk (some 4) (.mv (.tmp 3)) none [],.mk (some 5) (.fld 1 (.tmp 1)) none [],.mk (some 6) (.load false 1 (.tmp 5)) none [1],.mk (some 7) (.len (.tmp 6)) none [2],.mk (some 8) (.bin .lss (.tmp 4) (.tmp 7)) none [0,3]]
def l29r3:List AOper :=
  [.mk (some 11) (.load true 2 (.tmp 1)) none [],.mk (some 12) (.mv (.tmp 3)) none [],.mk (some 13) (.call 61 [.tmp 11,.tmp 12]) none [0,1],.mk (some 14) (.un .not (.tmp 13)) none [2]]
def l29r4:List AOper :=
  [.mk (some 2) (.mv (.const (.bool false))) none []]
def l29r5:List AOper :=
  [.mk (some 9) (.mv (.tmp 3)) none [],.mk (some 10) (.bin .add (.tmp 9) (.const (.int .i64 1))) none [0],.mk (some 3) (.mv (.tmp 10)) none [1,0,1]]
def l29r6:List AOper :=
  [.mk (some 15) (.fld 0 (.tmp 1)) none [],.mk (some 16) (.load false 1 (.tmp 15)) none [0],.mk (some 17) (.call 62 [.tmp 16]) none [1],.mk (some 18) (.mv (.tmp 17)) none [2,2],.mk (some 19) (.fld 1 (.tmp 1)) (some (18,true)) [3],.mk (some 20) (.load false 1 (.tmp 19)) (some (18,true)) [4,3],.mk (some 21) (.len (.tmp 20)) (some (18,true)) [5,3],.mk (some 22) (.bin .leq (.tmp 21) (.const (.int .i64 8))) (some (18,true)) [6,3],.mk (some 23) (.pick (.tmp 18) (.tmp 22) (.const (.bool false))) none [3,7],.mk (some 2) (.mv (.tmp 23)) none [8,3,0,1,2,3,4,5,6,7,8]]
def l29:AFn :=
  (AFn.mk 24 1 (.seq (.reg l29r0) (.seq (.seq (.reg l29r1) (.block 0 (.loop (.seq (.seq (.reg l29r2) (.cond (.tmp 8) .skip (.exit 0))) (.seq (.block 1 (.seq (.reg l29r3) (.cond (.tmp 14) (.seq (.reg l29r4) .ret) .skip))) (.reg l29r5)))))) (.seq (.reg l29r6) .ret))) [.tmp 2])
theorem l29_eq:lowFn Tryd.prog 29=some l29:=by kernel_rfl
def l32r0:List AOper :=
  [.mk (some 1) (.box (.tmp 0)) none [],.mk (some 2) (.alloc [.slice none 0 0,.slice none 0 0]) none []]
def l32r1:List AOper :=
  [.mk (some 6) (.fld 0 (.tmp 1)) none [],.mk (some 7) (.load false 1 (.tmp 6)) none [0],.mk (some 8) (.call 63 [.tmp 7]) none [1],.mk (some 9) (.build [.slice none 0 0,.slice none 0 0] [(0,1,.tmp 8)]) none [2],.mk (some 3) (.alloc [.slice none 0 0,.slice none 0 0]) none [],.mk none (.store 2 (.tmp 3) (.tmp 9)) none [4,3,2,0,1,2,3,4]]
def l32r2:List AOper :=
  [.mk (some 4) (.mv (.const (.int .i64 0))) none []]
def l32r3:List AOper :=
  [.mk (some 10) (.mv (.tmp 4)) none [],.mk (some 11) (.fld 1 (.tmp 1)) none [],.mk (some 12) (.load false 1 (.tmp 11)) none [1],.mk (some 13) (.len (.tmp 12)) none [2],.mk (some 14) (.bin .lss (.tmp 10) (.tmp 13)) none [0,3]]
def l32r4:List AOper :=
  [.mk (some 17) (.fld 1 (.tmp 1)) none [],.mk (some 18) (.load false 1 (.tmp 17)) none [0],.mk (some 19) (.mv (.tmp 4)) none [],.mk (some 20) (.idxA 5 (.tmp 18) (.tmp 19)) none [1,2],.mk (some 21) (.load true 5 (.tmp 20)) none [3],.mk (some 5) (.alloc [.int .i64 0,.int .i64 0,.slice none 0 0,.slice none 0 0,.bool false]) none [],.mk none (.store 5 (.tmp 5) (.tmp 21)) none [5,4,0,1,2,3,4,5]]
def l32r5:List AOper :=
  [.mk (some 22) (.fld 1 (.tmp 5)) none [],.mk (some 23) (.load true 3 (.tmp 22)) none [0],.mk (some 24) (.call 64 [.tmp 23]) none [1],.mk (some 25) (.fld 1 (.tmp 5)) none [0,1,2],.mk none (.store 3 (.tmp 25) (.tmp 24)) none [3,2,2,0,1,2]]
def l32r6:List AOper :=
  [.mk (some 26) (.fld 1 (.tmp 3)) none [],.mk (some 27) (.load false 1 (.tmp 26)) none [0],.mk (some 28) (.load true 5 (.tmp 5)) none [],.mk (some 29) (.bslice 5 [.int .i64 0,.int .i64 0,.slice none 0 0,.slice none 0 0,.bool false] [(0,.tmp 28)] 1) none [2],.mk (some 30) (.append 5 (.tmp 27) (.tmp 29)) none [1,3],.mk (some 31) (.fld 1 (.tmp 3)) none [0,1,2,3,4],.mk none (.store 1 (.tmp 31) (.tmp 30)) none [5,4,4,0,1,2,3,4]]
def l32r7:List AOper :=
  [.mk (some 15) (.mv (.tmp 4)) none [],.mk (some 16) (.bin .add (.tmp 15) (.const (.int .i64 1))) none [0],.mk (some 4) (.mv (.tmp 16)) none [1,0,1]]
def l32r8:List AOper :=
  [.mk (some 32) (.load true 2 (.tmp 3)) none [],.mk none (.store 2 (.tmp 2) (.tmp 32)) none [0,0]]
def l32:AFn :=
  (AFn.mk 33 1 (.seq (.reg l32r0) (.seq (.reg l32r1) (.seq (.seq (.reg l32r2) (.block 0 (.loop (.seq (.seq (.reg l32r3) (.cond (.tmp 14) .skip (.exit 0))) (.seq (.block 1 (.seq (.reg l32r4) (.seq (.reg l32r5) (.reg l32r6)))) (.reg l32r7)))))) (.seq (.reg l32r8) .ret)))) [.cell 2 true 2])
theorem l32_eq:lowFn Tryd.prog 32=some l32:=by kernel_rfl
def l33r0:List AOper :=
  [.mk (some 2) (.mv (.const (.slice none 0 0))) none []]
def l33r1:List AOper :=
  [.mk (some 5) (.mv (.tmp 0)) none [],.mk (some 6) (.len (.tmp 5)) none [0],.mk (some 7) (.mkslice 1 [.int .i64 0] (.tmp 6) (.tmp 6)) none [1,1],.mk (some 3) (.mv (.tmp 7)) none [2,0,1,2]]
def l33r2:List AOper :=
  [.mk (some 4) (.mv (.const (.int .i64 0))) none []]
def l33r3:List AOper :=
  [.mk (some 8) (.mv (.tmp 4)) none [],.mk (some 9) (.mv (.tmp 0)) none [],.mk (some 10) (.len (.tmp 9)) none [1],.mk (some 11) (.bin .lss (.tmp 8) (.tmp 10)) none [0,2]]
def l33r4:List AOper :=
  [.mk (some 14) (.mv (.tmp 3)) none [],.mk (some 15) (.mv (.tmp 4)) none [],.mk (some 16) (.mv (.tmp 0)) none [],.mk (some 17) (.mv (.tmp 4)) none [],.mk (some 18) (.idxA 1 (.tmp 16) (.tmp 17)) none [2,3],.mk (some 19) (.load false 1 (.tmp 18)) none [4],.mk (some 20) (.idxA 1 (.tmp 14) (.tmp 15)) none [0,1,0,1,2,3,4,5],.mk none (.store 1 (.tmp 20) (.tmp 19)) none [6,5,0,1,2,3,4,5]]
def l33r5:List AOper :=
  [.mk (some 12) (.mv (.tmp 4)) none [],.mk (some 13) (.bin .add (.tmp 12) (.const (.int .i64 1))) none [0],.mk (some 4) (.mv (.tmp 13)) none [1,0,1]]
def l33r6:List AOper :=
  [.mk (some 21) (.mv (.tmp 3)) none [],.mk (some 2) (.mv (.tmp 21)) none [0,0]]
def l33:AFn :=
  (AFn.mk 22 1 (.seq (.reg l33r0) (.seq (.reg l33r1) (.seq (.seq (.reg l33r2) (.block 0 (.loop (.seq (.seq (.reg l33r3) (.cond (.tmp 11) .skip (.exit 0))) (.seq (.block 1 (.reg l33r4)) (.reg l33r5)))))) (.seq (.reg l33r6) .ret)))) [.tmp 2])
theorem l33_eq:lowFn Tryd.prog 33=some l33:=by kernel_rfl
def l34r0:List AOper :=
  [.mk (some 2) (.mv (.const (.slice none 0 0))) none []]
def l34r1:List AOper :=
  [.mk (some 5) (.mv (.tmp 0)) none [],.mk (some 6) (.len (.tmp 5)) none [0],.mk (some 7) (.mkslice 5 [.int .i64 0,.int .i64 0,.slice none 0 0,.slice none 0 0,.bool false] (.tmp 6) (.tmp 6)) none [1,1],.mk (some 3) (.mv (.tmp 7)) none [2,0,1,2]]
def l34r2:List AOper :=
  [.mk (some 4) (.mv (.const (.int .i64 0))) none []]
def l34r3:List AOper :=
  [.mk (some 8) (.mv (.tmp 4)) none [],.mk (some 9) (.mv (.tmp 0)) none [],.mk (some 10) (.len (.tmp 9)) none [1],.mk (some 11) (.bin .lss (.tmp 8) (.tmp 10)) none [0,2]]
def l34r4:List AOper :=
  [.mk (some 14) (.mv (.tmp 3)) none [],.mk (some 15) (.mv (.tmp 4)) none [],.mk (some 16) (.mv (.tmp 0)) none [],.mk (some 17) (.mv (.tmp 4)) none [],.mk (some 18) (.idxA 5 (.tmp 16) (.tmp 17)) none [2,3],.mk (some 19) (.load true 5 (.tmp 18)) none [4],.mk (some 20) (.call 65 [.tmp 19]) none [5],.mk (some 21) (.idxA 5 (.tmp 14) (.tmp 15)) none [0,1,0,1,2,3,4,5,6],.mk none (.store 5 (.tmp 21) (.tmp 20)) none [7,6,6,0,1,2,3,4,5,6]]
def l34r5:List AOper :=
  [.mk (some 12) (.mv (.tmp 4)) none [],.mk (some 13) (.bin .add (.tmp 12) (.const (.int .i64 1))) none [0],.mk (some 4) (.mv (.tmp 13)) none [1,0,1]]
def l34r6:List AOper :=
  [.mk (some 22) (.mv (.tmp 3)) none [],.mk (some 2) (.mv (.tmp 22)) none [0,0]]
def l34:AFn :=
  (AFn.mk 23 1 (.seq (.reg l34r0) (.seq (.reg l34r1) (.seq (.seq (.reg l34r2) (.block 0 (.loop (.seq (.seq (.reg l34r3) (.cond (.tmp 11) .skip (.exit 0))) (.seq (.block 1 (.reg l34r4)) (.reg l34r5)))))) (.seq (.reg l34r6) .ret)))) [.tmp 2])
theorem l34_eq:lowFn Tryd.prog 34=some l34:=by kernel_rfl
def l36r0:List AOper :=
  [.mk (some 4) (.mv (.const (.bool false))) none []]
def l36r1:List AOper :=
  [.mk (some 6) (.mv (.tmp 0)) none [],.mk (some 7) (.bin .eql (.tmp 6) (.const .nilIface)) none [0],.mk (some 8) (.mv (.tmp 7)) none [1],.mk (some 9) (.mv (.tmp 1)) (some (8,false)) [2],.mk (some 10) (.bin .eql (.tmp 9) (.const .nilIface)) (some (8,false)) [3,2],.mk (some 11) (.pick (.tmp 8) (.const (.bool true)) (.tmp 10)) none [2,4]]
def l36r2:List AOper :=
  [.mk (some 12) (.mv (.tmp 0)) none [],.mk (some 13) (.mv (.tmp 1)) none [],.mk (some 14) (.bin .eql (.tmp 12) (.tmp 13)) none [0,1],.mk (some 4) (.mv (.tmp 14)) none [2,0,1,2]]
def l36r3:List AOper :=
  [.mk (some 15) (.mv (.tmp 1)) none [],.mk (some 16) (.raw (Op.call (Call.mk (Callee.value (.func 67)) (Array.mk [.tmp 15]) (Array.mk [20])))) none [0],.mk (some 17) (.raw (Op.call (Call.mk (Callee.invoke (.tmp 16) "Comparable") (Array.mk []) (Array.mk [])))) none [1,1],.mk (some 5) (.mv (.tmp 17)) none [2,2,0,1,2]]
def l36r4:List AOper :=
  [.mk (some 18) (.mv (.tmp 0)) none [],.mk (some 19) (.mv (.tmp 1)) none [],.mk (some 20) (.mv (.tmp 5)) none [],.mk (some 21) (.call 68 [.tmp 18,.tmp 19,.tmp 20]) none [0,1,2],.mk (some 4) (.mv (.tmp 21)) none [3,3,0,1,2,3]]
def l36:AFn :=
  (AFn.mk 22 2 (.seq (.reg l36r0) (.seq (.seq (.reg l36r1) (.cond (.tmp 11) (.seq (.reg l36r2) .ret) .skip)) (.seq (.reg l36r3) (.seq (.reg l36r4) .ret)))) [.tmp 4])
theorem l36_eq:lowFn Tryd.prog 36=some l36:=by kernel_rfl
def l37r0:List AOper :=
  [.mk (some 2) (.box (.tmp 0)) none [],.mk (some 4) (.mv (.const (.pointer none))) none []]
def l37r1:List AOper :=
  [.mk (some 10) (.build [.slice none 0 0] []) none [],.mk (some 11) (.box (.tmp 10)) none [0],.mk (some 5) (.mv (.tmp 11)) none [1,0,1]]
def l37r2:List AOper :=
  [.mk (some 6) (.mv (.const (.slice none 0 0))) none []]
def l37r3:List AOper :=
  [.mk (some 12) (.fld 1 (.tmp 2)) none [],.mk (some 13) (.load false 1 (.tmp 12)) none [0],.mk (some 14) (.len (.tmp 13)) none [1],.mk (some 15) (.mv (.const (.int .i64 0))) none []]
def l37r4:List AOper :=
  [.mk (some 16) (.bin .lss (.tmp 15) (.tmp 14)) none []]
def l37r5:List AOper :=
  [.mk (some 17) (.mv (.tmp 15)) none [],.mk (some 18) (.idxA 5 (.tmp 13) (.tmp 15)) none [],.mk (some 19) (.load true 5 (.tmp 18)) none [1],.mk (some 8) (.alloc [.int .i64 0,.int .i64 0,.slice none 0 0,.slice none 0 0,.bool false]) none [],.mk (some 7) (.mv (.tmp 17)) none [0,0,1,2,3],.mk none (.store 5 (.tmp 8) (.tmp 19)) none [3,2,4,0,1,2,3,4]]
def l37r6:List AOper :=
  [.mk (some 20) (.mv (.tmp 5)) none [],.mk (some 9) (.mv (.tmp 20)) none [0,0]]
def l37r7:List AOper :=
  [.mk (some 21) (.fld 0 (.tmp 8)) none [],.mk (some 22) (.load false 1 (.tmp 21)) none [0],.mk (some 23) (.bin .neq (.tmp 22) (.const (.int .i64 (-1)))) none [1]]
def l37r8:List AOper :=
  [.mk (some 24) (.mv (.tmp 6)) none [],.mk (some 25) (.fld 0 (.tmp 8)) none [],.mk (some 26) (.load false 1 (.tmp 25)) none [1],.mk (some 27) (.idxA 1 (.tmp 24) (.tmp 26)) none [0,2],.mk (some 28) (.load false 1 (.tmp 27)) none [3],.mk (some 9) (.mv (.tmp 28)) none [4,0,1,2,3,4]]
def l37r9:List AOper :=
  [.mk (some 29) (.mv (.tmp 6)) none [],.mk (some 30) (.mv (.tmp 9)) none [],.mk (some 31) (.mv (.tmp 7)) none [],.mk (some 32) (.fld 4 (.tmp 8)) none [],.mk (some 33) (.load false 1 (.tmp 32)) none [3],.mk (some 34) (.call 69 [.tmp 30,.tmp 31,.tmp 33]) none [1,2,4],.mk (some 35) (.bslice 1 [.pointer none] [(0,.tmp 34)] 1) none [5],.mk (some 36) (.append 1 (.tmp 29) (.tmp 35)) none [0,6,5],.mk (some 6) (.mv (.tmp 36)) none [7,7,0,1,2,3,4,5,6,7]]
def l37r10:List AOper :=
  [.mk (some 37) (.bin .add (.tmp 15) (.const (.int .i64 1))) none [],.mk (some 15) (.mv (.tmp 37)) none [0]]
def l37r11:List AOper :=
  [.mk (some 38) (.mv (.tmp 1)) none [],.mk (some 39) (.bin .eql (.tmp 38) (.const (.int .i64 (-1)))) none [0]]
def l37r12:List AOper :=
  [.mk (some 40) (.mv (.tmp 5)) none [],.mk (some 4) (.mv (.tmp 40)) none [0,0]]
def l37r13:List AOper :=
  [.mk (some 41) (.mv (.tmp 6)) none [],.mk (some 42) (.mv (.tmp 1)) none [],.mk (some 43) (.idxA 1 (.tmp 41) (.tmp 42)) none [0,1],.mk (some 44) (.load false 1 (.tmp 43)) none [2],.mk (some 4) (.mv (.tmp 44)) none [3,0,1,2,3]]
def l37:AFn :=
  (AFn.mk 45 2 (.seq (.reg l37r0) (.seq (.reg l37r1) (.seq (.reg l37r2) (.seq (.seq (.reg l37r3) (.block 0 (.loop (.seq (.reg l37r4) (.seq (.cond (.tmp 16) .skip (.exit 0)) (.seq (.block 1 (.seq (.reg l37r5) (.seq (.reg l37r6) (.seq (.seq (.reg l37r7) (.cond (.tmp 23) (.reg l37r8) .skip)) (.reg l37r9))))) (.reg l37r10))))))) (.seq (.seq (.reg l37r11) (.cond (.tmp 39) (.seq (.reg l37r12) .ret) .skip)) (.seq (.reg l37r13) .ret)))))) [.tmp 4])
theorem l37_eq:lowFn Tryd.prog 37=some l37:=by kernel_rfl
def l38r0:List AOper :=
  [.mk (some 2) (.mv (.const .nilIface)) none []]
def l38r1:List AOper :=
  [.mk (some 3) (.mv (.tmp 0)) none [],.mk (some 4) (.nilck (.tmp 3)) none [0],.mk (some 5) (.fld 0 (.tmp 4)) none [1],.mk (some 6) (.load false 1 (.tmp 5)) none [2],.mk (some 7) (.len (.tmp 6)) none [3],.mk (some 8) (.bin .gtr (.tmp 7) (.const (.int .i64 0))) none [4]]
def l38r2:List AOper :=
  [.mk (some 9) (.load false 1 (.global 0)) none [],.mk (some 2) (.mv (.tmp 9)) none [0,0]]
def l38r3:List AOper :=
  [.mk (some 2) (.mv (.const .nilIface)) none []]
def l38:AFn :=
  (AFn.mk 10 1 (.seq (.reg l38r0) (.seq (.seq (.reg l38r1) (.cond (.tmp 8) (.seq (.reg l38r2) .ret) .skip)) (.seq (.reg l38r3) .ret))) [.tmp 2])
theorem l38_eq:lowFn Tryd.prog 38=some l38:=by kernel_rfl
def l39r0:List AOper :=
  [.mk (some 1) (.box (.tmp 0)) none [],.mk (some 2) (.alloc [.slice none 0 0,.slice none 0 0]) none []]
def l39r1:List AOper :=
  [.mk (some 6) (.fld 0 (.tmp 1)) none [],.mk (some 7) (.load false 1 (.tmp 6)) none [0],.mk (some 8) (.call 70 [.tmp 7]) none [1],.mk (some 9) (.build [.slice none 0 0,.slice none 0 0] [(0,1,.tmp 8)]) none [2],.mk (some 3) (.alloc [.slice none 0 0,.slice none 0 0]) none [],.mk none (.store 2 (.tmp 3) (.tmp 9)) none [4,3,2,0,1,2,3,4]]
def l39r2:List AOper :=
  [.mk (some 10) (.fld 1 (.tmp 1)) none [],.mk (some 11) (.load false 1 (.tmp 10)) none [0],.mk (some 12) (.len (.tmp 11)) none [1],.mk (some 13) (.mv (.const (.int .i64 0))) none []]
def l39r3:List AOper :=
  [.mk (some 14) (.bin .lss (.tmp 13) (.tmp 12)) none []]
def l39r4:List AOper :=
  [.mk (some 15) (.idxA 5 (.tmp 11) (.tmp 13)) none [],.mk (some 16) (.load true 5 (.tmp 15)) none [0],.mk (some 5) (.alloc [.int .i64 0,.int .i64 0,.slice none 0 0,.slice none 0 0,.bool false]) none [],.mk none (.store 5 (.tmp 5) (.tmp 16)) none [2,1,0,1,2]]
def l39r5a:List AOper :=
  [.mk (some 17) (.fld 1 (.tmp 3)) none [],.mk (some 18) (.load false 1 (.tmp 17)) none [0],.mk (some 19) (.fld 0 (.tmp 5)) none [],.mk (some 20) (.load false 1 (.tmp 19)) none [2],.mk (some 21) (.fld 1 (.tmp 5)) none [],.mk (some 22) (.load true 3 (.tmp 21)) none [4],.mk (some 23) (.call 71 [.tmp 22]) none [5],.mk (some 24) (.fld 4 (.tmp 5)) none [],.mk (some 25) (.load false 1 (.tmp 24)) none [7],.mk (some 26) (.build [.int .i64 0,.int .i64 0,.slice none 0 0,.slice none 0 0,.bool false] [(0,1,.tmp 20),(1,3,.tmp 23),(4,1,.tmp 25)]) none [3,6,8],.mk (some 27) (.bslice 5 [.int .i64 0,.int .i64 0,.slice none 0 0,.slice none 0 0,.bool false] [(0,.tmp 26)] 1) none [9]]
def l39r5b:List AOper :=
  [.mk (some 28) (.append 5 (.tmp 18) (.tmp 27)) none [1,10,6],.mk (some 29) (.fld 1 (.tmp 3)) none [0,1,2,3,4,5,6,7,8,9,10,11],.mk none (.store 1 (.tmp 29) (.tmp 28)) none [12,11,11,0,1,2,3,4,5,6,7,8,9,10,11]]
def l39r5:List AOper:=l39r5a ++ l39r5b
def l39r6:List AOper :=
  [.mk (some 30) (.bin .add (.tmp 13) (.const (.int .i64 1))) none [],.mk (some 13) (.mv (.tmp 30)) none [0]]
def l39r7:List AOper :=
  [.mk (some 31) (.load true 2 (.tmp 3)) none [],.mk none (.store 2 (.tmp 2) (.tmp 31)) none [0,0]]
def l39:AFn :=
  (AFn.mk 32 1 (.seq (.reg l39r0) (.seq (.reg l39r1) (.seq (.seq (.reg l39r2) (.block 0 (.loop (.seq (.reg l39r3) (.seq (.cond (.tmp 14) .skip (.exit 0)) (.seq (.block 1 (.seq (.reg l39r4) (.draw l39r5))) (.reg l39r6))))))) (.seq (.reg l39r7) .ret)))) [.cell 2 true 2])
theorem l39_eq:lowFn Tryd.prog 39=some l39:=by kernel_rfl
def l40r0:List AOper :=
  [.mk (some 4) (.mv (.const (.bool false))) none []]
def l40r1:List AOper :=
  [.mk (some 6) (.mv (.tmp 0)) none [],.mk (some 7) (.len (.tmp 6)) none [0],.mk (some 8) (.mv (.tmp 1)) none [],.mk (some 9) (.len (.tmp 8)) none [2],.mk (some 10) (.bin .neq (.tmp 7) (.tmp 9)) none [1,3]]
def l40r2:List AOper :=
  [.mk (some 4) (.mv (.const (.bool false))) none []]
def l40r3:List AOper :=
  [.mk (some 5) (.mv (.const (.int .i64 0))) none []]
def l40r4:List AOper :=
  [.mk (some 11) (.mv (.tmp 5)) none [],.mk (some 12) (.mv (.tmp 0)) none [],.mk (some 13) (.len (.tmp 12)) none [1],.mk (some 14) (.bin .lss (.tmp 11) (.tmp 13)) none [0,2]]
def l40r5a:List AOper :=
  [.mk (some 17) (.mv (.tmp 0)) none [],.mk (some 18) (.mv (.tmp 5)) none [],.mk (some 19) (.idxA 1 (.tmp 17) (.tmp 18)) none [0,1],.mk (some 20) (.load false 1 (.tmp 19)) none [2],.mk (some 21) (.mv (.tmp 1)) none [],.mk (some 22) (.mv (.tmp 5)) none [],.mk (some 23) (.idxA 1 (.tmp 21) (.tmp 22)) none [4,5],.mk (some 24) (.load false 1 (.tmp 23)) none [6]]
def l40r5b:List AOper :=
  [.mk (some 25) (.bin .neq (.tmp 20) (.tmp 24)) none [3,7]]
def l40r5:List AOper:=l40r5a ++ l40r5b
def l40r6:List AOper :=
  [.mk (some 4) (.mv (.const (.bool false))) none []]
def l40r7:List AOper :=
  [.mk (some 15) (.mv (.tmp 5)) none [],.mk (some 16) (.bin .add (.tmp 15) (.const (.int .i64 1))) none [0],.mk (some 5) (.mv (.tmp 16)) none [1,0,1]]
def l40r8:List AOper :=
  [.mk (some 4) (.mv (.const (.bool true))) none []]
def l40:AFn :=
  (AFn.mk 26 2 (.seq (.reg l40r0) (.seq (.seq (.reg l40r1) (.cond (.tmp 10) (.seq (.reg l40r2) .ret) .skip)) (.seq (.seq (.reg l40r3) (.block 0 (.loop (.seq (.seq (.reg l40r4) (.cond (.tmp 14) .skip (.exit 0))) (.seq (.block 1 (.seq (.draw l40r5) (.cond (.tmp 25) (.seq (.reg l40r6) .ret) .skip))) (.reg l40r7)))))) (.seq (.reg l40r8) .ret)))) [.tmp 4])
theorem l40_eq:lowFn Tryd.prog 40=some l40:=by kernel_rfl
def l41r0:List AOper :=
  [.mk (some 4) (.mv (.const (.bool false))) none []]
def l41r1:List AOper :=
  [.mk (some 6) (.mv (.tmp 0)) none [],.mk (some 7) (.len (.tmp 6)) none [0],.mk (some 8) (.mv (.tmp 1)) none [],.mk (some 9) (.len (.tmp 8)) none [2],.mk (some 10) (.bin .neq (.tmp 7) (.tmp 9)) none [1,3]]
def l41r2:List AOper :=
  [.mk (some 4) (.mv (.const (.bool false))) none []]
def l41r3:List AOper :=
  [.mk (some 5) (.mv (.const (.int .i64 0))) none []]
def l41r4:List AOper :=
  [.mk (some 11) (.mv (.tmp 5)) none [],.mk (some 12) (.mv (.tmp 0)) none [],.mk (some 13) (.len (.tmp 12)) none [1],.mk (some 14) (.bin .lss (.tmp 11) (.tmp 13)) none [0,2]]
def l41r5a:List AOper :=
  [.mk (some 17) (.mv (.tmp 0)) none [],.mk (some 18) (.mv (.tmp 5)) none [],.mk (some 19) (.idxA 5 (.tmp 17) (.tmp 18)) none [0,1],.mk (some 20) (.load true 5 (.tmp 19)) none [2],.mk (some 21) (.mv (.tmp 1)) none [],.mk (some 22) (.mv (.tmp 5)) none [],.mk (some 23) (.idxA 5 (.tmp 21) (.tmp 22)) none [4,5],.mk (some 24) (.load true 5 (.tmp 23)) none [6]]
def l41r5b:List AOper :=
  [.mk (some 25) (.call 72 [.tmp 20,.tmp 24]) none [3,7],.mk (some 26) (.un .not (.tmp 25)) none [8]]
def l41r5:List AOper:=l41r5a ++ l41r5b
def l41r6:List AOper :=
  [.mk (some 4) (.mv (.const (.bool false))) none []]
def l41r7:List AOper :=
  [.mk (some 15) (.mv (.tmp 5)) none [],.mk (some 16) (.bin .add (.tmp 15) (.const (.int .i64 1))) none [0],.mk (some 5) (.mv (.tmp 16)) none [1,0,1]]
def l41r8:List AOper :=
  [.mk (some 4) (.mv (.const (.bool true))) none []]
def l41:AFn :=
  (AFn.mk 27 2 (.seq (.reg l41r0) (.seq (.seq (.reg l41r1) (.cond (.tmp 10) (.seq (.reg l41r2) .ret) .skip)) (.seq (.seq (.reg l41r3) (.block 0 (.loop (.seq (.seq (.reg l41r4) (.cond (.tmp 14) .skip (.exit 0))) (.seq (.block 1 (.seq (.draw l41r5) (.cond (.tmp 26) (.seq (.reg l41r6) .ret) .skip))) (.reg l41r7)))))) (.seq (.reg l41r8) .ret)))) [.tmp 4])
theorem l41_eq:lowFn Tryd.prog 41=some l41:=by kernel_rfl
def l42r0:List AOper :=
  [.mk (some 4) (.mv (.const (.int .i64 0))) none []]
def l42r1:List AOper :=
  [.mk (some 5) (.mv (.const (.int .i64 0))) none []]
def l42r2:List AOper :=
  [.mk (some 6) (.mv (.tmp 5)) none [],.mk (some 7) (.mv (.tmp 0)) none [],.mk (some 8) (.len (.tmp 7)) none [1],.mk (some 9) (.bin .lss (.tmp 6) (.tmp 8)) none [0,2]]
def l42r3:List AOper :=
  [.mk (some 12) (.mv (.tmp 0)) none [],.mk (some 13) (.mv (.tmp 5)) none [],.mk (some 14) (.mv (.tmp 1)) none [],.mk (some 15) (.idxA 1 (.tmp 12) (.tmp 13)) none [0,1,0,1,2],.mk none (.store 1 (.tmp 15) (.tmp 14)) none [3,2,0,1,2]]
def l42r4:List AOper :=
  [.mk (some 16) (.mv (.tmp 1)) none [],.mk (some 17) (.bin .add (.tmp 16) (.const (.int .i64 1))) none [0],.mk (some 1) (.mv (.tmp 17)) none [1,0,1]]
def l42r5:List AOper :=
  [.mk (some 10) (.mv (.tmp 5)) none [],.mk (some 11) (.bin .add (.tmp 10) (.const (.int .i64 1))) none [0],.mk (some 5) (.mv (.tmp 11)) none [1,0,1]]
def l42r6:List AOper :=
  [.mk (some 18) (.mv (.tmp 1)) none [],.mk (some 4) (.mv (.tmp 18)) none [0,0]]
def l42:AFn :=
  (AFn.mk 19 2 (.seq (.reg l42r0) (.seq (.seq (.reg l42r1) (.block 0 (.loop (.seq (.seq (.reg l42r2) (.cond (.tmp 9) .skip (.exit 0))) (.seq (.block 1 (.seq (.reg l42r3) (.reg l42r4))) (.reg l42r5)))))) (.seq (.reg l42r6) .ret))) [.tmp 4])
theorem l42_eq:lowFn Tryd.prog 42=some l42:=by kernel_rfl
def l43r0:List AOper :=
  [.mk (some 4) (.mv (.const (.int .i64 0))) none []]
def l43r1:List AOper :=
  [.mk (some 5) (.mv (.const (.int .i64 0))) none []]
def l43r2:List AOper :=
  [.mk (some 6) (.mv (.tmp 5)) none [],.mk (some 7) (.mv (.tmp 0)) none [],.mk (some 8) (.len (.tmp 7)) none [1],.mk (some 9) (.bin .lss (.tmp 6) (.tmp 8)) none [0,2]]
def l43r3:List AOper :=
  [.mk (some 12) (.mv (.tmp 0)) none [],.mk (some 13) (.mv (.tmp 5)) none [],.mk (some 14) (.mv (.tmp 1)) none [],.mk (some 15) (.idxA 5 (.tmp 12) (.tmp 13)) none [0,1,0,1,2],.mk (some 16) (.fld 0 (.tmp 15)) none [3,0,1,2],.mk none (.store 1 (.tmp 16) (.tmp 14)) none [4,2,0,1,2]]
def l43r4:List AOper :=
  [.mk (some 17) (.mv (.tmp 1)) none [],.mk (some 18) (.bin .add (.tmp 17) (.const (.int .i64 1))) none [0],.mk (some 1) (.mv (.tmp 18)) none [1,0,1]]
def l43r5:List AOper :=
  [.mk (some 19) (.mv (.tmp 0)) none [],.mk (some 20) (.mv (.tmp 5)) none [],.mk (some 21) (.mv (.tmp 1)) none [],.mk (some 22) (.idxA 5 (.tmp 19) (.tmp 20)) none [0,1,0,1,2],.mk (some 23) (.fld 1 (.tmp 22)) none [3,0,1,2],.mk (some 24) (.fld 0 (.tmp 23)) none [4,0,1,2],.mk none (.store 1 (.tmp 24) (.tmp 21)) none [5,2,0,1,2]]
def l43r6:List AOper :=
  [.mk (some 25) (.mv (.tmp 1)) none [],.mk (some 26) (.bin .add (.tmp 25) (.const (.int .i64 1))) none [0],.mk (some 1) (.mv (.tmp 26)) none [1,0,1]]
def l43r7:List AOper :=
  [.mk (some 27) (.mv (.tmp 0)) none [],.mk (some 28) (.mv (.tmp 5)) none [],.mk (some 29) (.idxA 5 (.tmp 27) (.tmp 28)) none [0,1],.mk (some 30) (.fld 1 (.tmp 29)) none [2],.mk (some 31) (.fld 1 (.tmp 30)) none [3],.mk (some 32) (.load false 1 (.tmp 31)) none [4],.mk (some 33) (.mv (.tmp 1)) none [],.mk (some 34) (.call 42 [.tmp 32,.tmp 33]) none [5,6],.mk (some 1) (.mv (.tmp 34)) none [7,7,0,1,2,3,4,5,6,7]]
def l43r8:List AOper :=
  [.mk (some 35) (.mv (.tmp 0)) none [],.mk (some 36) (.mv (.tmp 5)) none [],.mk (some 37) (.idxA 5 (.tmp 35) (.tmp 36)) none [0,1],.mk (some 38) (.fld 1 (.tmp 37)) none [2],.mk (some 39) (.fld 2 (.tmp 38)) none [3],.mk (some 40) (.load false 1 (.tmp 39)) none [4],.mk (some 41) (.mv (.tmp 1)) none [],.mk (some 42) (.call 42 [.tmp 40,.tmp 41]) none [5,6],.mk (some 1) (.mv (.tmp 42)) none [7,7,0,1,2,3,4,5,6,7]]
def l43r9:List AOper :=
  [.mk (some 43) (.mv (.tmp 0)) none [],.mk (some 44) (.mv (.tmp 5)) none [],.mk (some 45) (.mv (.tmp 1)) none [],.mk (some 46) (.bin .rem (.tmp 45) (.const (.int .i64 3))) none [2],.mk (some 47) (.bin .eql (.tmp 46) (.const (.int .i64 0))) none [3],.mk (some 48) (.idxA 5 (.tmp 43) (.tmp 44)) none [0,1,0,1,2,3,4],.mk (some 49) (.fld 4 (.tmp 48)) none [5,0,1,2,3,4],.mk none (.store 1 (.tmp 49) (.tmp 47)) none [6,4,0,1,2,3,4]]
def l43r10:List AOper :=
  [.mk (some 50) (.mv (.tmp 1)) none [],.mk (some 51) (.bin .add (.tmp 50) (.const (.int .i64 1))) none [0],.mk (some 1) (.mv (.tmp 51)) none [1,0,1]]
def l43r11:List AOper :=
  [.mk (some 10) (.mv (.tmp 5)) none [],.mk (some 11) (.bin .add (.tmp 10) (.const (.int .i64 1))) none [0],.mk (some 5) (.mv (.tmp 11)) none [1,0,1]]
def l43r12:List AOper :=
  [.mk (some 52) (.mv (.tmp 1)) none [],.mk (some 4) (.mv (.tmp 52)) none [0,0]]
def l43:AFn :=
  (AFn.mk 53 2 (.seq (.reg l43r0) (.seq (.seq (.reg l43r1) (.block 0 (.loop (.seq (.seq (.reg l43r2) (.cond (.tmp 9) .skip (.exit 0))) (.seq (.block 1 (.seq (.reg l43r3) (.seq (.reg l43r4) (.seq (.reg l43r5) (.seq (.reg l43r6) (.seq (.reg l43r7) (.seq (.reg l43r8) (.seq (.reg l43r9) (.reg l43r10))))))))) (.reg l43r11)))))) (.seq (.reg l43r12) .ret))) [.tmp 4])
theorem l43_eq:lowFn Tryd.prog 43=some l43:=by kernel_rfl
def l44r0:List AOper :=
  [.mk (some 4) (.mv (.const (.int .i64 0))) none []]
def l44r1:List AOper :=
  [.mk (some 5) (.mv (.const (.int .i64 0))) none []]
def l44r2:List AOper :=
  [.mk (some 6) (.mv (.tmp 5)) none [],.mk (some 7) (.mv (.tmp 0)) none [],.mk (some 8) (.len (.tmp 7)) none [1],.mk (some 9) (.bin .lss (.tmp 6) (.tmp 8)) none [0,2]]
def l44r3:List AOper :=
  [.mk (some 12) (.mv (.tmp 0)) none [],.mk (some 13) (.mv (.tmp 5)) none [],.mk (some 14) (.idxA 1 (.tmp 12) (.tmp 13)) none [0,1],.mk (some 15) (.load false 1 (.tmp 14)) none [2],.mk (some 16) (.mv (.tmp 1)) none [],.mk (some 17) (.bin .neq (.tmp 15) (.tmp 16)) none [3,4]]
def l44r4:List AOper :=
  [.mk (some 4) (.mv (.const (.int .i64 (-1)))) none []]
def l44r5:List AOper :=
  [.mk (some 18) (.mv (.tmp 1)) none [],.mk (some 19) (.bin .add (.tmp 18) (.const (.int .i64 1))) none [0],.mk (some 1) (.mv (.tmp 19)) none [1,0,1]]
def l44r6:List AOper :=
  [.mk (some 10) (.mv (.tmp 5)) none [],.mk (some 11) (.bin .add (.tmp 10) (.const (.int .i64 1))) none [0],.mk (some 5) (.mv (.tmp 11)) none [1,0,1]]
def l44r7:List AOper :=
  [.mk (some 20) (.mv (.tmp 1)) none [],.mk (some 4) (.mv (.tmp 20)) none [0,0]]
def l44:AFn :=
  (AFn.mk 21 2 (.seq (.reg l44r0) (.seq (.seq (.reg l44r1) (.block 0 (.loop (.seq (.seq (.reg l44r2) (.cond (.tmp 9) .skip (.exit 0))) (.seq (.block 1 (.seq (.seq (.reg l44r3) (.cond (.tmp 17) (.seq (.reg l44r4) .ret) .skip)) (.reg l44r5))) (.reg l44r6)))))) (.seq (.reg l44r7) .ret))) [.tmp 4])
theorem l44_eq:lowFn Tryd.prog 44=some l44:=by kernel_rfl
def l45r0:List AOper :=
  [.mk (some 4) (.mv (.const (.int .i64 0))) none []]
def l45r1:List AOper :=
  [.mk (some 5) (.mv (.const (.int .i64 0))) none []]
def l45r2:List AOper :=
  [.mk (some 6) (.mv (.tmp 5)) none [],.mk (some 7) (.mv (.tmp 0)) none [],.mk (some 8) (.len (.tmp 7)) none [1],.mk (some 9) (.bin .lss (.tmp 6) (.tmp 8)) none [0,2]]
def l45r3:List AOper :=
  [.mk (some 12) (.mv (.tmp 0)) none [],.mk (some 13) (.mv (.tmp 5)) none [],.mk (some 14) (.idxA 5 (.tmp 12) (.tmp 13)) none [0,1],.mk (some 15) (.fld 0 (.tmp 14)) none [2],.mk (some 16) (.load false 1 (.tmp 15)) none [3],.mk (some 17) (.mv (.tmp 1)) none [],.mk (some 18) (.bin .neq (.tmp 16) (.tmp 17)) none [4,5]]
def l45r4:List AOper :=
  [.mk (some 4) (.mv (.const (.int .i64 (-1)))) none []]
def l45r5:List AOper :=
  [.mk (some 19) (.mv (.tmp 1)) none [],.mk (some 20) (.bin .add (.tmp 19) (.const (.int .i64 1))) none [0],.mk (some 1) (.mv (.tmp 20)) none [1,0,1]]
def l45r6:List AOper :=
  [.mk (some 21) (.mv (.tmp 0)) none [],.mk (some 22) (.mv (.tmp 5)) none [],.mk (some 23) (.idxA 5 (.tmp 21) (.tmp 22)) none [0,1],.mk (some 24) (.fld 1 (.tmp 23)) none [2],.mk (some 25) (.fld 0 (.tmp 24)) none [3],.mk (some 26) (.load false 1 (.tmp 25)) none [4],.mk (some 27) (.mv (.tmp 1)) none [],.mk (some 28) (.bin .neq (.tmp 26) (.tmp 27)) none [5,6]]
def l45r7:List AOper :=
  [.mk (some 4) (.mv (.const (.int .i64 (-1)))) none []]
def l45r8:List AOper :=
  [.mk (some 29) (.mv (.tmp 1)) none [],.mk (some 30) (.bin .add (.tmp 29) (.const (.int .i64 1))) none [0],.mk (some 1) (.mv (.tmp 30)) none [1,0,1]]
def l45r9:List AOper :=
  [.mk (some 31) (.mv (.tmp 0)) none [],.mk (some 32) (.mv (.tmp 5)) none [],.mk (some 33) (.idxA 5 (.tmp 31) (.tmp 32)) none [0,1],.mk (some 34) (.fld 1 (.tmp 33)) none [2],.mk (some 35) (.fld 1 (.tmp 34)) none [3],.mk (some 36) (.load false 1 (.tmp 35)) none [4],.mk (some 37) (.mv (.tmp 1)) none [],.mk (some 38) (.call 44 [.tmp 36,.tmp 37]) none [5,6],.mk (some 1) (.mv (.tmp 38)) none [7,7,0,1,2,3,4,5,6,7]]
def l45r10:List AOper :=
  [.mk (some 39) (.mv (.tmp 1)) none [],.mk (some 40) (.bin .lss (.tmp 39) (.const (.int .i64 0))) none [0]]
def l45r11:List AOper :=
  [.mk (some 4) (.mv (.const (.int .i64 (-1)))) none []]
def l45r12:List AOper :=
  [.mk (some 41) (.mv (.tmp 0)) none [],.mk (some 42) (.mv (.tmp 5)) none [],.mk (some 43) (.idxA 5 (.tmp 41) (.tmp 42)) none [0,1],.mk (some 44) (.fld 1 (.tmp 43)) none [2],.mk (some 45) (.fld 2 (.tmp 44)) none [3],.mk (some 46) (.load false 1 (.tmp 45)) none [4],.mk (some 47) (.mv (.tmp 1)) none [],.mk (some 48) (.call 44 [.tmp 46,.tmp 47]) none [5,6],.mk (some 1) (.mv (.tmp 48)) none [7,7,0,1,2,3,4,5,6,7]]
def l45r13:List AOper :=
  [.mk (some 49) (.mv (.tmp 1)) none [],.mk (some 50) (.bin .lss (.tmp 49) (.const (.int .i64 0))) none [0]]
def l45r14:List AOper :=
  [.mk (some 4) (.mv (.const (.int .i64 (-1)))) none []]
def l45r15:List AOper :=
  [.mk (some 51) (.mv (.tmp 0)) none [],.mk (some 52) (.mv (.tmp 5)) none [],.mk (some 53) (.idxA 5 (.tmp 51) (.tmp 52)) none [0,1],.mk (some 54) (.fld 4 (.tmp 53)) none [2],.mk (some 55) (.load false 1 (.tmp 54)) none [3],.mk (some 56) (.mv (.tmp 1)) none [],.mk (some 57) (.bin .rem (.tmp 56) (.const (.int .i64 3))) none [5],.mk (some 58) (.bin .eql (.tmp 57) (.const (.int .i64 0))) none [6],.mk (some 59) (.binB .neq (.tmp 55) (.tmp 58)) none [4,7]]
def l45r16:List AOper :=
  [.mk (some 4) (.mv (.const (.int .i64 (-1)))) none []]
def l45r17:List AOper :=
  [.mk (some 60) (.mv (.tmp 1)) none [],.mk (some 61) (.bin .add (.tmp 60) (.const (.int .i64 1))) none [0],.mk (some 1) (.mv (.tmp 61)) none [1,0,1]]
def l45r18:List AOper :=
  [.mk (some 10) (.mv (.tmp 5)) none [],.mk (some 11) (.bin .add (.tmp 10) (.const (.int .i64 1))) none [0],.mk (some 5) (.mv (.tmp 11)) none [1,0,1]]
def l45r19:List AOper :=
  [.mk (some 62) (.mv (.tmp 1)) none [],.mk (some 4) (.mv (.tmp 62)) none [0,0]]
def l45:AFn :=
  (AFn.mk 63 2 (.seq (.reg l45r0) (.seq (.seq (.reg l45r1) (.block 0 (.loop (.seq (.seq (.reg l45r2) (.cond (.tmp 9) .skip (.exit 0))) (.seq (.block 1 (.seq (.seq (.reg l45r3) (.cond (.tmp 18) (.seq (.reg l45r4) .ret) .skip)) (.seq (.reg l45r5) (.seq (.seq (.reg l45r6) (.cond (.tmp 28) (.seq (.reg l45r7) .ret) .skip)) (.seq (.reg l45r8) (.seq (.reg l45r9) (.seq (.seq (.reg l45r10) (.cond (.tmp 40) (.seq (.reg l45r11) .ret) .skip)) (.seq (.reg l45r12) (.seq (.seq (.reg l45r13) (.cond (.tmp 50) (.seq (.reg l45r14) .ret) .skip)) (.seq (.seq (.reg l45r15) (.cond (.tmp 59) (.seq (.reg l45r16) .ret) .skip)) (.reg l45r17))))))))))) (.reg l45r18)))))) (.seq (.reg l45r19) .ret))) [.tmp 4])
theorem l45_eq:lowFn Tryd.prog 45=some l45:=by kernel_rfl
def l46r0:List AOper :=
  [.mk (some 6) (.mv (.const (.bool false))) none []]
def l46r1:List AOper :=
  [.mk (some 7) (.mv (.tmp 1)) none [],.mk (some 8) (.mv (.tmp 0)) none [],.mk (some 9) (.bin .leq (.tmp 7) (.tmp 8)) none [0,1],.mk (some 10) (.mv (.tmp 9)) none [2],.mk (some 11) (.mv (.tmp 0)) (some (10,true)) [3],.mk (some 12) (.mv (.tmp 2)) (some (10,true)) [3],.mk (some 13) (.bin .leq (.tmp 11) (.tmp 12)) (some (10,true)) [4,5,3],.mk (some 14) (.pick (.tmp 10) (.tmp 13) (.const (.bool false))) none [3,6],.mk (some 6) (.mv (.tmp 14)) none [7,3,0,1,2,3,4,5,6,7]]
def l46:AFn :=
  (AFn.mk 15 3 (.seq (.reg l46r0) (.seq (.reg l46r1) .ret)) [.tmp 6])
theorem l46_eq:lowFn Tryd.prog 46=some l46:=by kernel_rfl
def l53r0:List AOper :=
  [.mk (some 1) (.box (.tmp 0)) none [],.mk (some 2) (.mv (.const (.bool false))) none []]
def l53r1:List AOper :=
  [.mk (some 7) (.fld 0 (.tmp 1)) none [],.mk (some 8) (.load false 1 (.tmp 7)) none [0],.mk (some 9) (.call 85 [.tmp 8]) none [1],.mk (some 10) (.un .not (.tmp 9)) none [2],.mk (some 11) (.mv (.tmp 10)) none [3,2],.mk (some 12) (.fld 1 (.tmp 1)) (some (11,false)) [4],.mk (some 13) (.load false 1 (.tmp 12)) (some (11,false)) [5,4],.mk (some 14) (.len (.tmp 13)) (some (11,false)) [6,4],.mk (some 15) (.bin .gtr (.tmp 14) (.const (.int .i64 8))) (some (11,false)) [7,4],.mk (some 16) (.pick (.tmp 11) (.const (.bool true)) (.tmp 15)) none [4,8]]
def l53r2:List AOper :=
  [.mk (some 2) (.mv (.const (.bool false))) none []]
def l53r3:List AOper :=
  [.mk (some 17) (.fld 1 (.tmp 1)) none [],.mk (some 18) (.load false 1 (.tmp 17)) none [0],.mk (some 19) (.len (.tmp 18)) none [1],.mk (some 20) (.mv (.const (.int .i64 0))) none []]
def l53r4:List AOper :=
  [.mk (some 21) (.bin .lss (.tmp 20) (.tmp 19)) none []]
def l53r5:List AOper :=
  [.mk (some 22) (.mv (.tmp 20)) none [],.mk (some 23) (.idxA 5 (.tmp 18) (.tmp 20)) none [],.mk (some 24) (.load true 5 (.tmp 23)) none [1],.mk (some 4) (.alloc [.int .i64 0,.int .i64 0,.slice none 0 0,.slice none 0 0,.bool false]) none [],.mk (some 3) (.mv (.tmp 22)) none [0,0,1,2,3],.mk none (.store 5 (.tmp 4) (.tmp 24)) none [3,2,4,0,1,2,3,4]]
def l53r6:List AOper :=
  [.mk (some 25) (.load true 5 (.tmp 4)) none [],.mk (some 26) (.mv (.tmp 3)) none [],.mk (some 27) (.fld 0 (.tmp 1)) none [],.mk (some 28) (.load false 1 (.tmp 27)) none [2],.mk (some 29) (.len (.tmp 28)) none [3],.mk (some 30) (.call 86 [.tmp 25,.tmp 26,.tmp 29]) none [0,1,4],.mk (some 31) (.un .not (.tmp 30)) none [5]]
def l53r7:List AOper :=
  [.mk (some 2) (.mv (.const (.bool false))) none []]
def l53r8:List AOper :=
  [.mk (some 32) (.bin .add (.tmp 20) (.const (.int .i64 1))) none [],.mk (some 20) (.mv (.tmp 32)) none [0]]
def l53r9:List AOper :=
  [.mk (some 33) (.fld 1 (.tmp 1)) none [],.mk (some 34) (.load false 1 (.tmp 33)) none [0],.mk (some 35) (.len (.tmp 34)) none [1],.mk (some 36) (.mv (.const (.int .i64 0))) none []]
def l53r10:List AOper :=
  [.mk (some 37) (.bin .lss (.tmp 36) (.tmp 35)) none []]
def l53r11:List AOper :=
  [.mk (some 38) (.mv (.tmp 36)) none [],.mk (some 39) (.idxA 5 (.tmp 34) (.tmp 36)) none [],.mk (some 40) (.load true 5 (.tmp 39)) none [1],.mk (some 6) (.alloc [.int .i64 0,.int .i64 0,.slice none 0 0,.slice none 0 0,.bool false]) none [],.mk (some 5) (.mv (.tmp 38)) none [0,0,1,2,3],.mk none (.store 5 (.tmp 6) (.tmp 40)) none [3,2,4,0,1,2,3,4]]
def l53r12a:List AOper :=
  [.mk (some 41) (.fld 4 (.tmp 6)) none [],.mk (some 42) (.load false 1 (.tmp 41)) none [0],.mk (some 43) (.un .not (.tmp 42)) none [1],.mk (some 44) (.mv (.tmp 43)) none [2],.mk (some 45) (.load true 2 (.tmp 1)) (some (44,true)) [3],.mk (some 46) (.mv (.tmp 5)) (some (44,true)) [3],.mk (some 47) (.call 37 [.tmp 45,.tmp 46]) (some (44,true)) [4,5,3,3],.mk (some 48) (.call 38 [.tmp 47]) (some (44,true)) [6,6,3],.mk (some 49) (.load false 1 (.global 0)) (some (44,true)) [3]]
def l53r12b:List AOper :=
  [.mk (some 50) (.call 36 [.tmp 48,.tmp 49]) (some (44,true)) [7,8,7,3],.mk (some 51) (.pick (.tmp 44) (.tmp 50) (.const (.bool false))) none [3,9]]
def l53r12:List AOper:=l53r12a ++ l53r12b
def l53r13:List AOper :=
  [.mk (some 2) (.mv (.const (.bool false))) none []]
def l53r14:List AOper :=
  [.mk (some 52) (.bin .add (.tmp 36) (.const (.int .i64 1))) none [],.mk (some 36) (.mv (.tmp 52)) none [0]]
def l53r15:List AOper :=
  [.mk (some 2) (.mv (.const (.bool true))) none []]
def l53:AFn :=
  (AFn.mk 53 1 (.seq (.reg l53r0) (.seq (.seq (.reg l53r1) (.cond (.tmp 16) (.seq (.reg l53r2) .ret) .skip)) (.seq (.seq (.reg l53r3) (.block 0 (.loop (.seq (.reg l53r4) (.seq (.cond (.tmp 21) .skip (.exit 0)) (.seq (.block 1 (.seq (.reg l53r5) (.seq (.reg l53r6) (.cond (.tmp 31) (.seq (.reg l53r7) .ret) .skip)))) (.reg l53r8))))))) (.seq (.seq (.reg l53r9) (.block 2 (.loop (.seq (.reg l53r10) (.seq (.cond (.tmp 37) .skip (.exit 2)) (.seq (.block 3 (.seq (.reg l53r11) (.seq (.draw l53r12) (.cond (.tmp 51) (.seq (.reg l53r13) .ret) .skip)))) (.reg l53r14))))))) (.seq (.reg l53r15) .ret))))) [.tmp 2])
theorem l53_eq:lowFn Tryd.prog 53=some l53:=by kernel_rfl
def l54r0:List AOper :=
  [.mk (some 2) (.mv (.const (.bool false))) none []]
def l54r1:List AOper :=
  [.mk (some 3) (.mv (.tmp 0)) none [],.mk (some 4) (.bin .leq (.const (.int .i64 0)) (.tmp 3)) none [0],.mk (some 5) (.mv (.tmp 4)) none [1],.mk (some 6) (.mv (.tmp 0)) (some (5,true)) [2],.mk (some 7) (.bin .leq (.tmp 6) (.const (.int .i64 60))) (some (5,true)) [3,2],.mk (some 8) (.pick (.tmp 5) (.tmp 7) (.const (.bool false))) none [2,4],.mk (some 2) (.mv (.tmp 8)) none [5,2,0,1,2,3,4,5]]
def l54:AFn :=
  (AFn.mk 9 1 (.seq (.reg l54r0) (.seq (.reg l54r1) .ret)) [.tmp 2])
theorem l54_eq:lowFn Tryd.prog 54=some l54:=by kernel_rfl
def l55r0:List AOper :=
  [.mk (some 1) (.box (.tmp 0)) none [],.mk (some 2) (.mv (.const (.bool false))) none []]
def l55r1:List AOper :=
  [.mk (some 3) (.fld 1 (.tmp 1)) none [],.mk (some 4) (.load false 1 (.tmp 3)) none [0],.mk (some 5) (.call 87 [.tmp 4]) none [1],.mk (some 6) (.mv (.tmp 5)) none [2,2],.mk (some 7) (.fld 2 (.tmp 1)) (some (6,true)) [3],.mk (some 8) (.load false 1 (.tmp 7)) (some (6,true)) [4,3],.mk (some 9) (.len (.tmp 8)) (some (6,true)) [5,3],.mk (some 10) (.fld 1 (.tmp 1)) (some (6,true)) [3],.mk (some 11) (.load false 1 (.tmp 10)) (some (6,true)) [7,3],.mk (some 12) (.len (.tmp 11)) (some (6,true)) [8,3],.mk (some 13) (.bin .eql (.tmp 9) (.tmp 12)) (some (6,true)) [6,9,3],.mk (some 14) (.pick (.tmp 6) (.tmp 13) (.const (.bool false))) none [3,10],.mk (some 15) (.mv (.tmp 14)) none [11,3],.mk (some 16) (.fld 2 (.tmp 1)) (some (15,true)) [12],.mk (some 17) (.load false 1 (.tmp 16)) (some (15,true)) [13,12],.mk (some 18) (.call 88 [.tmp 17,.const (.int .i64 (-60)),.const (.int .i64 60)]) (some (15,true)) [14,12,12],.mk (some 19) (.pick (.tmp 15) (.tmp 18) (.const (.bool false))) none [12,15],.mk (some 20) (.mv (.tmp 19)) none [16,15],.mk (some 21) (.fld 0 (.tmp 1)) (some (20,true)) [17],.mk (some 22) (.load false 1 (.tmp 21)) (some (20,true)) [18,17],.mk (some 23) (.call 46 [.tmp 22,.const (.int .i64 0),.const (.int .i64 60)]) (some (20,true)) [19,17,17],.mk (some 24) (.pick (.tmp 20) (.tmp 23) (.const (.bool false))) none [17,20],.mk (some 25) (.mv (.tmp 24)) none [21,20],.mk (some 26) (.fld 1 (.tmp 1)) (some (25,true)) [22],.mk (some 27) (.load false 1 (.tmp 26)) (some (25,true)) [23,22],.mk (some 28) (.call 89 [.tmp 27]) (some (25,true)) [24,22,22],.mk (some 29) (.bin .eql (.tmp 28) (.const (.int .i64 0))) (some (25,true)) [25,22],.mk (some 30) (.mv (.tmp 29)) (some (25,true)) [26,25,22],.mk (some 31) (.load true 3 (.tmp 1)) (some (30,false)) [27],.mk (some 32) (.call 74 [.tmp 31]) (some (30,false)) [28,27,27],.mk (some 33) (.call 88 [.tmp 32,.const (.int .i64 0),.const (.int .i64 59)]) (some (30,false)) [29,29,27],.mk (some 34) (.pick (.tmp 30) (.const (.bool true)) (.tmp 33)) (some (25,true)) [27,30,22],.mk (some 35) (.pick (.tmp 25) (.tmp 34) (.const (.bool false))) none [22,31],.mk (some 2) (.mv (.tmp 35)) none [32,30,0,1,2,3,4,5,6,7,8,9,10,11,12,13,14,15,16,17,18,19,20,21,22,23,24,25,26,27,28,29,30,31,32]]
def l55:AFn :=
  (AFn.mk 36 1 (.seq (.reg l55r0) (.seq (.reg l55r1) .ret)) [.tmp 2])
theorem l55_eq:lowFn Tryd.prog 55=some l55:=by kernel_rfl
def l56r0:List AOper :=
  [.mk (some 2) (.box (.tmp 0)) none [],.mk (some 4) (.mv (.const (.bool false))) none []]
def l56r1:List AOper :=
  [.mk (some 5) (.load true 3 (.tmp 2)) none [],.mk (some 6) (.call 74 [.tmp 5]) none [0],.mk (some 7) (.mv (.tmp 1)) none [],.mk (some 8) (.bin .sub (.tmp 7) (.const (.int .i64 1))) none [2],.mk (some 9) (.call 88 [.tmp 6,.const (.int .i64 0),.tmp 8]) none [1,3,1],.mk (some 4) (.mv (.tmp 9)) none [4,4,0,1,2,3,4]]
def l56:AFn :=
  (AFn.mk 10 2 (.seq (.reg l56r0) (.seq (.reg l56r1) .ret)) [.tmp 4])
theorem l56_eq:lowFn Tryd.prog 56=some l56:=by kernel_rfl
def l57r0:List AOper :=
  [.mk (some 3) (.box (.tmp 0)) none [],.mk (some 5) (.box (.tmp 2)) none [],.mk (some 6) (.alloc [.slice none 0 0,.slice none 0 0]) none []]
def l57r1:List AOper :=
  [.mk (some 8) (.load true 2 (.tmp 3)) none [],.mk (some 9) (.call 32 [.tmp 8]) none [0],.mk (some 7) (.alloc [.slice none 0 0,.slice none 0 0]) none [],.mk none (.store 2 (.tmp 7) (.tmp 9)) none [2,1,1,0,1,2]]
def l57r2a:List AOper :=
  [.mk (some 10) (.fld 1 (.tmp 7)) none [],.mk (some 11) (.load false 1 (.tmp 10)) none [0],.mk (some 12) (.mv (.tmp 1)) none [],.mk (some 13) (.load true 3 (.tmp 5)) none [],.mk (some 14) (.call 64 [.tmp 13]) none [3],.mk (some 15) (.build [.int .i64 0,.int .i64 0,.slice none 0 0,.slice none 0 0,.bool false] [(0,1,.tmp 12),(1,3,.tmp 14),(4,1,.const (.bool true))]) none [2,4],.mk (some 16) (.bslice 5 [.int .i64 0,.int .i64 0,.slice none 0 0,.slice none 0 0,.bool false] [(0,.tmp 15)] 1) none [5]]
def l57r2b:List AOper :=
  [.mk (some 17) (.append 5 (.tmp 11) (.tmp 16)) none [1,6,4],.mk (some 18) (.fld 1 (.tmp 7)) none [0,1,2,3,4,5,6,7],.mk none (.store 1 (.tmp 18) (.tmp 17)) none [8,7,7,0,1,2,3,4,5,6,7]]
def l57r2:List AOper:=l57r2a ++ l57r2b
def l57r3:List AOper :=
  [.mk (some 19) (.load true 2 (.tmp 7)) none [],.mk none (.store 2 (.tmp 6) (.tmp 19)) none [0,0]]
def l57:AFn :=
  (AFn.mk 20 3 (.seq (.reg l57r0) (.seq (.reg l57r1) (.seq (.draw l57r2) (.seq (.reg l57r3) .ret)))) [.cell 6 true 2])
theorem l57_eq:lowFn Tryd.prog 57=some l57:=by kernel_rfl
def l58r0:List AOper :=
  [.mk (some 2) (.box (.tmp 0)) none [],.mk (some 4) (.mv (.const (.bool false))) none []]
def l58r1:List AOper :=
  [.mk (some 7) (.load true 3 (.tmp 2)) none [],.mk (some 8) (.call 90 [.tmp 7]) none [0],.mk (some 9) (.un .not (.tmp 8)) none [1],.mk (some 10) (.mv (.tmp 9)) none [2,1],.mk (some 11) (.mv (.tmp 1)) (some (10,false)) [3],.mk (some 12) (.call 66 [.tmp 11,.const (.int .i64 60)]) (some (10,false)) [4,3,3],.mk (some 13) (.un .not (.tmp 12)) (some (10,false)) [5,3],.mk (some 14) (.pick (.tmp 10) (.const (.bool true)) (.tmp 13)) none [3,6]]
def l58r2:List AOper :=
  [.mk (some 4) (.mv (.const (.bool false))) none []]
def l58r3:List AOper :=
  [.mk (some 16) (.load true 3 (.tmp 2)) none [],.mk (some 17) (.call 91 [.tmp 16]) none [0],.mk (some 15) (.mv (.tmp 17)) none [1],.mk (some 18) (.extract (.tmp 15) 0) none [2],.mk (some 19) (.extract (.tmp 15) 1) none [2],.mk (some 5) (.mv (.tmp 18)) none [3,1,0,1,2,3],.mk (some 6) (.mv (.tmp 19)) none [4,5,0,1,2,3,4,5]]
def l58r4:List AOper :=
  [.mk (some 20) (.mv (.tmp 6)) none [],.mk (some 21) (.mv (.tmp 1)) none [],.mk (some 22) (.bin .lss (.tmp 20) (.tmp 21)) none [0,1],.mk (some 4) (.mv (.tmp 22)) none [2,0,1,2]]
def l58:AFn :=
  (AFn.mk 23 2 (.seq (.reg l58r0) (.seq (.seq (.reg l58r1) (.cond (.tmp 14) (.seq (.reg l58r2) .ret) .skip)) (.seq (.reg l58r3) (.seq (.reg l58r4) .ret)))) [.tmp 4])
theorem l58_eq:lowFn Tryd.prog 58=some l58:=by kernel_rfl
def l59r0:List AOper :=
  [.mk (some 3) (.box (.tmp 0)) none [],.mk (some 5) (.box (.tmp 2)) none [],.mk (some 6) (.alloc [.slice none 0 0,.slice none 0 0]) none [],.mk (some 7) (.mv (.const (.bool false))) none []]
def l59r1:List AOper :=
  [.mk (some 9) (.fld 1 (.tmp 3)) none [],.mk (some 10) (.load false 1 (.tmp 9)) none [0],.mk (some 11) (.len (.tmp 10)) none [1],.mk (some 12) (.bin .eql (.tmp 11) (.const (.int .i64 8))) none [2]]
def l59r2:List AOper :=
  [.mk (some 13) (.build [.slice none 0 0,.slice none 0 0] []) none [],.mk none (.store 2 (.tmp 6) (.tmp 13)) none [0,0],.mk (some 7) (.mv (.const (.bool false))) none [1,0,1]]
def l59r3:List AOper :=
  [.mk (some 14) (.load true 2 (.tmp 3)) none [],.mk (some 15) (.call 39 [.tmp 14]) none [0],.mk (some 8) (.alloc [.slice none 0 0,.slice none 0 0]) none [],.mk none (.store 2 (.tmp 8) (.tmp 15)) none [2,1,1,0,1,2]]
def l59r4a:List AOper :=
  [.mk (some 16) (.fld 1 (.tmp 8)) none [],.mk (some 17) (.load false 1 (.tmp 16)) none [0],.mk (some 18) (.mv (.tmp 1)) none [],.mk (some 19) (.load true 3 (.tmp 5)) none [],.mk (some 20) (.call 71 [.tmp 19]) none [3],.mk (some 21) (.build [.int .i64 0,.int .i64 0,.slice none 0 0,.slice none 0 0,.bool false] [(0,1,.tmp 18),(1,3,.tmp 20),(4,1,.const (.bool true))]) none [2,4],.mk (some 22) (.bslice 5 [.int .i64 0,.int .i64 0,.slice none 0 0,.slice none 0 0,.bool false] [(0,.tmp 21)] 1) none [5]]
def l59r4b:List AOper :=
  [.mk (some 23) (.append 5 (.tmp 17) (.tmp 22)) none [1,6,4],.mk (some 24) (.fld 1 (.tmp 8)) none [0,1,2,3,4,5,6,7],.mk none (.store 1 (.tmp 24) (.tmp 23)) none [8,7,7,0,1,2,3,4,5,6,7]]
def l59r4:List AOper:=l59r4a ++ l59r4b
def l59r5:List AOper :=
  [.mk (some 25) (.load true 2 (.tmp 8)) none [],.mk none (.store 2 (.tmp 6) (.tmp 25)) none [0,0],.mk (some 7) (.mv (.const (.bool true))) none [1,0,1]]
def l59:AFn :=
  (AFn.mk 26 3 (.seq (.reg l59r0) (.seq (.seq (.reg l59r1) (.cond (.tmp 12) (.seq (.reg l59r2) .ret) .skip)) (.seq (.reg l59r3) (.seq (.draw l59r4) (.seq (.reg l59r5) .ret))))) [.cell 6 true 2,.tmp 7])
theorem l59_eq:lowFn Tryd.prog 59=some l59:=by kernel_rfl
def l60r0:List AOper :=
  [.mk (some 2) (.box (.tmp 0)) none [],.mk (some 4) (.mv (.const (.int .i64 0))) none []]
def l60r1:List AOper :=
  [.mk (some 5) (.fld 1 (.tmp 2)) none [],.mk (some 6) (.load true 3 (.tmp 5)) none [0],.mk (some 7) (.mv (.tmp 1)) none [],.mk (some 8) (.call 21 [.tmp 6,.tmp 7]) none [1,2],.mk (some 1) (.mv (.tmp 8)) none [3,3,0,1,2,3]]
def l60r2:List AOper :=
  [.mk (some 9) (.mv (.tmp 1)) none [],.mk (some 10) (.bin .lss (.tmp 9) (.const (.int .i64 0))) none [0]]
def l60r3:List AOper :=
  [.mk (some 4) (.mv (.const (.int .i64 (-1)))) none []]
def l60r4:List AOper :=
  [.mk (some 11) (.mv (.tmp 1)) none [],.mk (some 4) (.mv (.tmp 11)) none [0,0]]
def l60:AFn :=
  (AFn.mk 12 2 (.seq (.reg l60r0) (.seq (.reg l60r1) (.seq (.seq (.reg l60r2) (.cond (.tmp 10) (.seq (.reg l60r3) .ret) .skip)) (.seq (.reg l60r4) .ret)))) [.tmp 4])
theorem l60_eq:lowFn Tryd.prog 60=some l60:=by kernel_rfl
def l61r0:List AOper :=
  [.mk (some 2) (.box (.tmp 0)) none [],.mk (some 4) (.mv (.const (.bool false))) none []]
def l61r1:List AOper :=
  [.mk (some 6) (.fld 1 (.tmp 2)) none [],.mk (some 7) (.load false 1 (.tmp 6)) none [0],.mk (some 8) (.mv (.tmp 1)) none [],.mk (some 9) (.idxA 5 (.tmp 7) (.tmp 8)) none [1,2],.mk (some 10) (.load true 5 (.tmp 9)) none [3],.mk (some 5) (.alloc [.int .i64 0,.int .i64 0,.slice none 0 0,.slice none 0 0,.bool false]) none [],.mk none (.store 5 (.tmp 5) (.tmp 10)) none [5,4,0,1,2,3,4,5]]
def l61r2:List AOper :=
  [.mk (some 11) (.fld 0 (.tmp 5)) none [],.mk (some 12) (.load false 1 (.tmp 11)) none [0],.mk (some 13) (.mv (.tmp 1)) none [],.mk (some 14) (.bin .sub (.tmp 13) (.const (.int .i64 1))) none [2],.mk (some 15) (.call 46 [.tmp 12,.const (.int .i64 (-1)),.tmp 14]) none [1,3],.mk (some 16) (.un .not (.tmp 15)) none [4],.mk (some 17) (.mv (.tmp 16)) none [5,4],.mk (some 18) (.fld 1 (.tmp 5)) (some (17,false)) [6],.mk (some 19) (.load true 3 (.tmp 18)) (some (17,false)) [7,6],.mk (some 20) (.call 55 [.tmp 19]) (some (17,false)) [8,6,6],.mk (some 21) (.un .not (.tmp 20)) (some (17,false)) [9,6],.mk (some 22) (.pick (.tmp 17) (.const (.bool true)) (.tmp 21)) none [6,10]]
def l61r3:List AOper :=
  [.mk (some 4) (.mv (.const (.bool false))) none []]
def l61r4:List AOper :=
  [.mk (some 23) (.fld 4 (.tmp 5)) none [],.mk (some 24) (.load false 1 (.tmp 23)) none [0],.mk (some 25) (.un .not (.tmp 24)) none [1],.mk (some 26) (.mv (.tmp 25)) none [2],.mk (some 27) (.fld 1 (.tmp 5)) (some (26,false)) [3],.mk (some 28) (.load true 3 (.tmp 27)) (some (26,false)) [4,3],.mk (some 29) (.fld 0 (.tmp 2)) (some (26,false)) [3],.mk (some 30) (.load false 1 (.tmp 29)) (some (26,false)) [6,3],.mk (some 31) (.len (.tmp 30)) (some (26,false)) [7,3],.mk (some 32) (.call 56 [.tmp 28,.tmp 31]) (some (26,false)) [5,8,3,3],.mk (some 33) (.mv (.tmp 32)) (some (26,false)) [9,9,3],.mk (some 34) (.fld 0 (.tmp 5)) (some (33,true)) [10],.mk (some 35) (.load false 1 (.tmp 34)) (some (33,true)) [11,10],.mk (some 36) (.bin .lss (.tmp 35) (.const (.int .i64 0))) (some (33,true)) [12,10],.mk (some 37) (.mv (.tmp 36)) (some (33,true)) [13,10,10],.mk (some 38) (.fld 1 (.tmp 2)) (some (37,false)) [14],.mk (some 39) (.load false 1 (.tmp 38)) (some (37,false)) [15,14],.mk (some 40) (.fld 0 (.tmp 5)) (some (37,false)) [14],.mk (some 41) (.load false 1 (.tmp 40)) (some (37,false)) [17,14],.mk (some 42) (.idxA 5 (.tmp 39) (.tmp 41)) (some (37,false)) [16,18,14],.mk (some 43) (.fld 4 (.tmp 42)) (some (37,false)) [19,14],.mk (some 44) (.load false 1 (.tmp 43)) (some (37,false)) [20,14],.mk (some 45) (.pick (.tmp 37) (.const (.bool true)) (.tmp 44)) (some (33,true)) [14,21,10],.mk (some 46) (.pick (.tmp 33) (.tmp 45) (.const (.bool false))) (some (26,false)) [10,22,3],.mk (some 47) (.pick (.tmp 26) (.const (.bool true)) (.tmp 46)) none [3,23],.mk (some 4) (.mv (.tmp 47)) none [24,14,0,1,2,3,4,5,6,7,8,9,10,11,12,13,14,15,16,17,18,19,20,21,22,23,24]]
def l61:AFn :=
  (AFn.mk 48 2 (.seq (.reg l61r0) (.seq (.reg l61r1) (.seq (.seq (.reg l61r2) (.cond (.tmp 22) (.seq (.reg l61r3) .ret) .skip)) (.seq (.reg l61r4) .ret)))) [.tmp 4])
theorem l61_eq:lowFn Tryd.prog 61=some l61:=by kernel_rfl
def l62r0:List AOper :=
  [.mk (some 2) (.mv (.const (.bool false))) none []]
def l62r1:List AOper :=
  [.mk (some 3) (.mv (.tmp 0)) none [],.mk (some 4) (.len (.tmp 3)) none [0],.mk (some 5) (.bin .leq (.tmp 4) (.const (.int .i64 60))) none [1],.mk (some 6) (.mv (.tmp 5)) none [2],.mk (some 7) (.mv (.tmp 0)) (some (6,true)) [3],.mk (some 8) (.call 88 [.tmp 7,.const (.int .i64 0),.const (.int .i64 255)]) (some (6,true)) [4,3,3],.mk (some 9) (.pick (.tmp 6) (.tmp 8) (.const (.bool false))) none [3,5],.mk (some 2) (.mv (.tmp 9)) none [6,5,0,1,2,3,4,5,6]]
def l62:AFn :=
  (AFn.mk 10 1 (.seq (.reg l62r0) (.seq (.reg l62r1) .ret)) [.tmp 2])
theorem l62_eq:lowFn Tryd.prog 62=some l62:=by kernel_rfl
def l63r0:List AOper :=
  [.mk (some 2) (.mv (.const (.slice none 0 0))) none []]
def l63r1:List AOper :=
  [.mk (some 3) (.bslice 1 [.int .i64 0] [] 0) none [],.mk (some 4) (.mv (.tmp 0)) none [],.mk (some 5) (.append 1 (.tmp 3) (.tmp 4)) none [0,1],.mk (some 2) (.mv (.tmp 5)) none [2,2,0,1,2]]
def l63:AFn :=
  (AFn.mk 6 1 (.seq (.reg l63r0) (.seq (.reg l63r1) .ret)) [.tmp 2])
theorem l63_eq:lowFn Tryd.prog 63=some l63:=by kernel_rfl
def l64r0:List AOper :=
  [.mk (some 1) (.box (.tmp 0)) none [],.mk (some 2) (.alloc [.int .i64 0,.slice none 0 0,.slice none 0 0]) none []]
def l64r1a:List AOper :=
  [.mk (some 3) (.fld 0 (.tmp 1)) none [],.mk (some 4) (.load false 1 (.tmp 3)) none [0],.mk (some 5) (.fld 1 (.tmp 1)) none [],.mk (some 6) (.load false 1 (.tmp 5)) none [2],.mk (some 7) (.call 63 [.tmp 6]) none [3],.mk (some 8) (.fld 2 (.tmp 1)) none [],.mk (some 9) (.load false 1 (.tmp 8)) none [5],.mk (some 10) (.call 63 [.tmp 9]) none [6,4]]
def l64r1b:List AOper :=
  [.mk (some 11) (.build [.int .i64 0,.slice none 0 0,.slice none 0 0] [(0,1,.tmp 4),(1,1,.tmp 7),(2,1,.tmp 10)]) none [1,4,7],.mk none (.store 3 (.tmp 2) (.tmp 11)) none [8,7,0,1,2,3,4,5,6,7,8]]
def l64r1:List AOper:=l64r1a ++ l64r1b
def l64:AFn :=
  (AFn.mk 12 1 (.seq (.reg l64r0) (.seq (.draw l64r1) .ret)) [.cell 2 true 3])
theorem l64_eq:lowFn Tryd.prog 64=some l64:=by kernel_rfl
def l65r0:List AOper :=
  [.mk (some 1) (.box (.tmp 0)) none [],.mk (some 2) (.alloc [.int .i64 0,.int .i64 0,.slice none 0 0,.slice none 0 0,.bool false]) none []]
def l65r1:List AOper :=
  [.mk (some 3) (.alloc [.int .i64 0,.int .i64 0,.slice none 0 0,.slice none 0 0,.bool false]) none []]
def l65r2:List AOper :=
  [.mk (some 4) (.fld 0 (.tmp 1)) none [],.mk (some 5) (.load false 1 (.tmp 4)) none [0],.mk (some 6) (.fld 0 (.tmp 3)) none [0,1],.mk none (.store 1 (.tmp 6) (.tmp 5)) none [2,1,0,1]]
def l65r3:List AOper :=
  [.mk (some 7) (.fld 1 (.tmp 1)) none [],.mk (some 8) (.load true 3 (.tmp 7)) none [0],.mk (some 9) (.call 23 [.tmp 8]) none [1],.mk (some 10) (.fld 1 (.tmp 3)) none [0,1,2],.mk none (.store 3 (.tmp 10) (.tmp 9)) none [3,2,2,0,1,2]]
def l65r4:List AOper :=
  [.mk (some 11) (.fld 4 (.tmp 1)) none [],.mk (some 12) (.load false 1 (.tmp 11)) none [0],.mk (some 13) (.fld 4 (.tmp 3)) none [0,1],.mk none (.store 1 (.tmp 13) (.tmp 12)) none [2,1,0,1]]
def l65r5:List AOper :=
  [.mk (some 14) (.load true 5 (.tmp 3)) none [],.mk none (.store 5 (.tmp 2) (.tmp 14)) none [0,0]]
def l65:AFn :=
  (AFn.mk 15 1 (.seq (.reg l65r0) (.seq (.reg l65r1) (.seq (.reg l65r2) (.seq (.reg l65r3) (.seq (.reg l65r4) (.seq (.reg l65r5) .ret)))))) [.cell 2 true 5])
theorem l65_eq:lowFn Tryd.prog 65=some l65:=by kernel_rfl
def l66r0:List AOper :=
  [.mk (some 4) (.mv (.const (.bool false))) none []]
def l66r1:List AOper :=
  [.mk (some 5) (.mv (.tmp 0)) none [],.mk (some 6) (.bin .leq (.const (.int .i64 0)) (.tmp 5)) none [0],.mk (some 7) (.mv (.tmp 6)) none [1],.mk (some 8) (.mv (.tmp 0)) (some (7,true)) [2],.mk (some 9) (.mv (.tmp 1)) (some (7,true)) [2],.mk (some 10) (.bin .leq (.tmp 8) (.tmp 9)) (some (7,true)) [3,4,2],.mk (some 11) (.pick (.tmp 7) (.tmp 10) (.const (.bool false))) none [2,5],.mk (some 4) (.mv (.tmp 11)) none [6,2,0,1,2,3,4,5,6]]
def l66:AFn :=
  (AFn.mk 12 2 (.seq (.reg l66r0) (.seq (.reg l66r1) .ret)) [.tmp 4])
theorem l66_eq:lowFn Tryd.prog 66=some l66:=by kernel_rfl
def l68r0:List AOper :=
  [.mk (some 6) (.mv (.const (.bool false))) none []]
def l68r1:List AOper :=
  [.mk (some 14) (.mv (.tmp 2)) none [],.mk (some 15) (.mv (.tmp 14)) none [0],.mk (some 16) (.mv (.tmp 0)) (some (15,true)) [1],.mk (some 17) (.mv (.tmp 1)) (some (15,true)) [1],.mk (some 18) (.bin .eql (.tmp 16) (.tmp 17)) (some (15,true)) [2,3,1],.mk (some 19) (.pick (.tmp 15) (.tmp 18) (.const (.bool false))) none [1,4]]
def l68r2:List AOper :=
  [.mk (some 6) (.mv (.const (.bool true))) none []]
def l68r3:List AOper :=
  [.mk (some 21) (.mv (.tmp 0)) none [],.mk (some 22) (.raw (Op.typeAssert (.tmp 21) 59 112 true)) none [0],.mk (some 20) (.mv (.tmp 22)) none [1],.mk (some 23) (.extract (.tmp 20) 0) none [2],.mk (some 24) (.extract (.tmp 20) 1) none [2],.mk (some 7) (.mv (.tmp 23)) none [3,0,1,2,3],.mk (some 8) (.mv (.tmp 24)) none [4,5,0,1,2,3,4,5]]
def l68r4:List AOper :=
  [.mk (some 25) (.mv (.tmp 8)) none [],.mk (some 26) (.mv (.tmp 25)) none [0],.mk (some 27) (.mv (.tmp 7)) (some (26,true)) [1],.mk (some 28) (.mv (.tmp 1)) (some (26,true)) [1],.mk (some 29) (.raw (Op.call (Call.mk (Callee.invoke (.tmp 27) "Is") (Array.mk [.tmp 28]) (Array.mk [59])))) (some (26,true)) [2,3,1,1],.mk (some 30) (.pick (.tmp 26) (.tmp 29) (.const (.bool false))) none [1,4]]
def l68r5:List AOper :=
  [.mk (some 6) (.mv (.const (.bool true))) none []]
def l68r6:List AOper :=
  [.mk (some 31) (.mv (.tmp 0)) none []]
def l68r7:List AOper :=
  [.mk (some 32) (.raw (Op.typeAssert (.tmp 31) 59 115 true)) none [],.mk (some 33) (.extract (.tmp 32) 1) none [0],.mk (some 34) (.extract (.tmp 32) 0) none [0]]
def l68r8:List AOper :=
  [.mk (some 9) (.mv (.tmp 34)) none []]
def l68r9:List AOper :=
  [.mk (some 35) (.mv (.tmp 9)) none [],.mk (some 36) (.raw (Op.call (Call.mk (Callee.invoke (.tmp 35) "Unwrap") (Array.mk []) (Array.mk [])))) none [0],.mk (some 0) (.mv (.tmp 36)) none [1,1,0,1]]
def l68r10:List AOper :=
  [.mk (some 37) (.mv (.tmp 0)) none [],.mk (some 38) (.bin .eql (.tmp 37) (.const .nilIface)) none [0]]
def l68r11:List AOper :=
  [.mk (some 6) (.mv (.const (.bool false))) none []]
def l68r12:List AOper :=
  [.mk (some 39) (.raw (Op.typeAssert (.tmp 31) 59 116 true)) none [],.mk (some 40) (.extract (.tmp 39) 1) none [0],.mk (some 41) (.extract (.tmp 39) 0) none [0]]
def l68r13:List AOper :=
  [.mk (some 10) (.mv (.tmp 41)) none []]
def l68r14:List AOper :=
  [.mk (some 42) (.mv (.tmp 10)) none [],.mk (some 43) (.raw (Op.call (Call.mk (Callee.invoke (.tmp 42) "Unwrap") (Array.mk []) (Array.mk [])))) none [0],.mk (some 44) (.len (.tmp 43)) none [1],.mk (some 45) (.mv (.const (.int .i64 0))) none []]
def l68r15:List AOper :=
  [.mk (some 46) (.bin .lss (.tmp 45) (.tmp 44)) none []]
def l68r16:List AOper :=
  [.mk (some 47) (.idxA 1 (.tmp 43) (.tmp 45)) none [],.mk (some 48) (.load false 1 (.tmp 47)) none [0],.mk (some 12) (.mv (.tmp 48)) none [1,0,1]]
def l68r17:List AOper :=
  [.mk (some 49) (.mv (.tmp 12)) none [],.mk (some 50) (.mv (.tmp 1)) none [],.mk (some 51) (.mv (.tmp 2)) none [],.mk (some 52) (.call 68 [.tmp 49,.tmp 50,.tmp 51]) none [0,1,2]]
def l68r18:List AOper :=
  [.mk (some 6) (.mv (.const (.bool true))) none []]
def l68r19:List AOper :=
  [.mk (some 53) (.bin .add (.tmp 45) (.const (.int .i64 1))) none [],.mk (some 45) (.mv (.tmp 53)) none [0]]
def l68r20:List AOper :=
  [.mk (some 6) (.mv (.const (.bool false))) none []]
def l68r21:List AOper :=
  [.mk (some 13) (.mv (.tmp 31)) none []]
def l68r22:List AOper :=
  [.mk (some 6) (.mv (.const (.bool false))) none []]
def l68:AFn :=
  (AFn.mk 54 3 (.seq (.reg l68r0) (.block 0 (.loop (.block 1 (.seq (.seq (.reg l68r1) (.cond (.tmp 19) (.seq (.reg l68r2) .ret) .skip)) (.seq (.seq (.reg l68r3) (.seq (.reg l68r4) (.cond (.tmp 30) (.seq (.reg l68r5) .ret) .skip))) (.seq (.reg l68r6) (.block 2 (.seq (.reg l68r7) (.cond (.tmp 33) (.seq (.reg l68r8) (.seq (.reg l68r9) (.seq (.reg l68r10) (.cond (.tmp 38) (.seq (.reg l68r11) .ret) .skip)))) (.seq (.reg l68r12) (.cond (.tmp 40) (.seq (.reg l68r13) (.seq (.seq (.reg l68r14) (.block 3 (.loop (.seq (.reg l68r15) (.seq (.cond (.tmp 46) .skip (.exit 3)) (.seq (.block 4 (.seq (.reg l68r16) (.seq (.reg l68r17) (.cond (.tmp 52) (.seq (.reg l68r18) .ret) .skip)))) (.reg l68r19))))))) (.seq (.reg l68r20) .ret))) (.seq (.reg l68r21) (.seq (.reg l68r22) .ret)))))))))))))) [.tmp 6])
theorem l68_eq:lowFn Tryd.prog 68=some l68:=by kernel_rfl
def l69r0:List AOper :=
  [.mk (some 6) (.mv (.const (.pointer none))) none []]
def l69r1:List AOper :=
  [.mk (some 7) (.mv (.tmp 2)) none []]
def l69r2:List AOper :=
  [.mk (some 8) (.mv (.tmp 0)) none [],.mk (some 9) (.mv (.tmp 0)) none [],.mk (some 10) (.nilck (.tmp 9)) none [1],.mk (some 11) (.fld 0 (.tmp 10)) none [2],.mk (some 12) (.load false 1 (.tmp 11)) none [3],.mk (some 13) (.mv (.tmp 1)) none [],.mk (some 14) (.bslice 1 [.int .i64 0] [(0,.tmp 13)] 1) none [5],.mk (some 15) (.append 1 (.tmp 12) (.tmp 14)) none [4,6],.mk (some 16) (.nilck (.tmp 8)) none [0,0,1,2,3,4,5,6,7],.mk (some 17) (.fld 0 (.tmp 16)) none [8,0,1,2,3,4,5,6,7],.mk none (.store 1 (.tmp 17) (.tmp 15)) none [9,7,7,0,1,2,3,4,5,6,7]]
def l69r3:List AOper :=
  [.mk (some 18) (.build [.slice none 0 0] []) none [],.mk (some 19) (.box (.tmp 18)) none [0],.mk (some 6) (.mv (.tmp 19)) none [1,0,1]]
def l69:AFn :=
  (AFn.mk 20 3 (.seq (.reg l69r0) (.seq (.seq (.reg l69r1) (.cond (.tmp 7) (.reg l69r2) .skip)) (.seq (.reg l69r3) .ret))) [.tmp 6])
theorem l69_eq:lowFn Tryd.prog 69=some l69:=by kernel_rfl
def l70r0:List AOper :=
  [.mk (some 2) (.mv (.const (.slice none 0 0))) none []]
def l70r1:List AOper :=
  [.mk (some 3) (.mv (.tmp 0)) none [],.mk (some 4) (.isnil false (.tmp 3)) none [0]]
def l70r2:List AOper :=
  [.mk (some 2) (.mv (.const (.slice none 0 0))) none []]
def l70r3:List AOper :=
  [.mk (some 5) (.bslice 1 [.int .i64 0] [] 0) none [],.mk (some 6) (.mv (.tmp 0)) none [],.mk (some 7) (.append 1 (.tmp 5) (.tmp 6)) none [0,1],.mk (some 2) (.mv (.tmp 7)) none [2,2,0,1,2]]
def l70:AFn :=
  (AFn.mk 8 1 (.seq (.reg l70r0) (.seq (.seq (.reg l70r1) (.cond (.tmp 4) (.seq (.reg l70r2) .ret) .skip)) (.seq (.reg l70r3) .ret))) [.tmp 2])
theorem l70_eq:lowFn Tryd.prog 70=some l70:=by kernel_rfl
def l71r0:List AOper :=
  [.mk (some 1) (.box (.tmp 0)) none [],.mk (some 2) (.alloc [.int .i64 0,.slice none 0 0,.slice none 0 0]) none []]
def l71r1a:List AOper :=
  [.mk (some 3) (.fld 0 (.tmp 1)) none [],.mk (some 4) (.load false 1 (.tmp 3)) none [0],.mk (some 5) (.fld 1 (.tmp 1)) none [],.mk (some 6) (.load false 1 (.tmp 5)) none [2],.mk (some 7) (.call 70 [.tmp 6]) none [3],.mk (some 8) (.fld 2 (.tmp 1)) none [],.mk (some 9) (.load false 1 (.tmp 8)) none [5],.mk (some 10) (.call 70 [.tmp 9]) none [6,4]]
def l71r1b:List AOper :=
  [.mk (some 11) (.build [.int .i64 0,.slice none 0 0,.slice none 0 0] [(0,1,.tmp 4),(1,1,.tmp 7),(2,1,.tmp 10)]) none [1,4,7],.mk none (.store 3 (.tmp 2) (.tmp 11)) none [8,7,0,1,2,3,4,5,6,7,8]]
def l71r1:List AOper:=l71r1a ++ l71r1b
def l71:AFn :=
  (AFn.mk 12 1 (.seq (.reg l71r0) (.seq (.draw l71r1) .ret)) [.cell 2 true 3])
theorem l71_eq:lowFn Tryd.prog 71=some l71:=by kernel_rfl
def l72r0:List AOper :=
  [.mk (some 2) (.box (.tmp 0)) none [],.mk (some 3) (.box (.tmp 1)) none [],.mk (some 4) (.mv (.const (.bool false))) none []]
def l72r1:List AOper :=
  [.mk (some 5) (.fld 0 (.tmp 2)) none [],.mk (some 6) (.load false 1 (.tmp 5)) none [0],.mk (some 7) (.fld 0 (.tmp 3)) none [],.mk (some 8) (.load false 1 (.tmp 7)) none [2],.mk (some 9) (.bin .neq (.tmp 6) (.tmp 8)) none [1,3]]
def l72r2:List AOper :=
  [.mk (some 4) (.mv (.const (.bool false))) none []]
def l72r3:List AOper :=
  [.mk (some 10) (.fld 1 (.tmp 2)) none [],.mk (some 11) (.load true 3 (.tmp 10)) none [0],.mk (some 12) (.fld 1 (.tmp 3)) none [],.mk (some 13) (.load true 3 (.tmp 12)) none [2],.mk (some 14) (.call 25 [.tmp 11,.tmp 13]) none [1,3],.mk (some 15) (.un .not (.tmp 14)) none [4]]
def l72r4:List AOper :=
  [.mk (some 4) (.mv (.const (.bool false))) none []]
def l72r5:List AOper :=
  [.mk (some 16) (.fld 4 (.tmp 2)) none [],.mk (some 17) (.load false 1 (.tmp 16)) none [0],.mk (some 18) (.fld 4 (.tmp 3)) none [],.mk (some 19) (.load false 1 (.tmp 18)) none [2],.mk (some 20) (.binB .neq (.tmp 17) (.tmp 19)) none [1,3]]
def l72r6:List AOper :=
  [.mk (some 4) (.mv (.const (.bool false))) none []]
def l72r7:List AOper :=
  [.mk (some 4) (.mv (.const (.bool true))) none []]
def l72:AFn :=
  (AFn.mk 21 2 (.seq (.reg l72r0) (.seq (.seq (.reg l72r1) (.cond (.tmp 9) (.seq (.reg l72r2) .ret) .skip)) (.seq (.seq (.reg l72r3) (.cond (.tmp 15) (.seq (.reg l72r4) .ret) .skip)) (.seq (.seq (.reg l72r5) (.cond (.tmp 20) (.seq (.reg l72r6) .ret) .skip)) (.seq (.reg l72r7) .ret))))) [.tmp 4])
theorem l72_eq:lowFn Tryd.prog 72=some l72:=by kernel_rfl
def l74r0:List AOper :=
  [.mk (some 1) (.box (.tmp 0)) none [],.mk (some 2) (.mv (.const (.slice none 0 0))) none []]
def l74r1:List AOper :=
  [.mk (some 5) (.bslice 1 [.int .i64 0] [] 0) none [],.mk (some 3) (.mv (.tmp 5)) none [0,0]]
def l74r2:List AOper :=
  [.mk (some 4) (.mv (.const (.int .i64 0))) none []]
def l74r3:List AOper :=
  [.mk (some 6) (.mv (.tmp 4)) none [],.mk (some 7) (.fld 1 (.tmp 1)) none [],.mk (some 8) (.load false 1 (.tmp 7)) none [1],.mk (some 9) (.call 89 [.tmp 8]) none [2],.mk (some 10) (.bin .lss (.tmp 6) (.tmp 9)) none [0,3]]
def l74r4a:List AOper :=
  [.mk (some 13) (.mv (.tmp 3)) none [],.mk (some 14) (.load true 3 (.tmp 1)) none [],.mk (some 15) (.fld 1 (.tmp 1)) none [],.mk (some 16) (.load false 1 (.tmp 15)) none [2],.mk (some 17) (.mv (.tmp 4)) none [],.mk (some 18) (.call 93 [.tmp 16,.tmp 17]) none [3,4],.mk (some 19) (.call 92 [.tmp 14,.tmp 18]) none [1,5,5],.mk (some 20) (.bslice 1 [.int .i64 0] [(0,.tmp 19)] 1) none [6]]
def l74r4b:List AOper :=
  [.mk (some 21) (.append 1 (.tmp 13) (.tmp 20)) none [0,7,6],.mk (some 3) (.mv (.tmp 21)) none [8,8,0,1,2,3,4,5,6,7,8]]
def l74r4:List AOper:=l74r4a ++ l74r4b
def l74r5:List AOper :=
  [.mk (some 11) (.mv (.tmp 4)) none [],.mk (some 12) (.bin .add (.tmp 11) (.const (.int .i64 1))) none [0],.mk (some 4) (.mv (.tmp 12)) none [1,0,1]]
def l74r6:List AOper :=
  [.mk (some 22) (.mv (.tmp 3)) none [],.mk (some 2) (.mv (.tmp 22)) none [0,0]]
def l74:AFn :=
  (AFn.mk 23 1 (.seq (.reg l74r0) (.seq (.reg l74r1) (.seq (.seq (.reg l74r2) (.block 0 (.loop (.seq (.seq (.reg l74r3) (.cond (.tmp 10) .skip (.exit 0))) (.seq (.block 1 (.draw l74r4)) (.reg l74r5)))))) (.seq (.reg l74r6) .ret)))) [.tmp 2])
theorem l74_eq:lowFn Tryd.prog 74=some l74:=by kernel_rfl
def l76r0:List AOper :=
  [.mk (some 2) (.mv (.const (.bool false))) none []]
def l76r1:List AOper :=
  [.mk (some 5) (.mv (.tmp 0)) none [],.mk (some 6) (.len (.tmp 5)) none [0],.mk (some 7) (.mv (.const (.int .i64 0))) none []]
def l76r2:List AOper :=
  [.mk (some 8) (.bin .lss (.tmp 7) (.tmp 6)) none []]
def l76r3:List AOper :=
  [.mk (some 9) (.idxA 1 (.tmp 5) (.tmp 7)) none [],.mk (some 10) (.load false 1 (.tmp 9)) none [0],.mk (some 4) (.mv (.tmp 10)) none [1,0,1]]
def l76r4:List AOper :=
  [.mk (some 11) (.mv (.tmp 4)) none [],.mk (some 12) (.call 66 [.tmp 11,.const (.int .i64 255)]) none [0],.mk (some 13) (.un .not (.tmp 12)) none [1]]
def l76r5:List AOper :=
  [.mk (some 2) (.mv (.const (.bool false))) none []]
def l76r6:List AOper :=
  [.mk (some 14) (.bin .add (.tmp 7) (.const (.int .i64 1))) none [],.mk (some 7) (.mv (.tmp 14)) none [0]]
def l76r7:List AOper :=
  [.mk (some 2) (.mv (.const (.bool true))) none []]
def l76:AFn :=
  (AFn.mk 15 1 (.seq (.reg l76r0) (.seq (.seq (.reg l76r1) (.block 0 (.loop (.seq (.reg l76r2) (.seq (.cond (.tmp 8) .skip (.exit 0)) (.seq (.block 1 (.seq (.reg l76r3) (.seq (.reg l76r4) (.cond (.tmp 13) (.seq (.reg l76r5) .ret) .skip)))) (.reg l76r6))))))) (.seq (.reg l76r7) .ret))) [.tmp 2])
theorem l76_eq:lowFn Tryd.prog 76=some l76:=by kernel_rfl
def l79r0:List AOper :=
  [.mk (some 1) (.box (.tmp 0)) none [],.mk (some 2) (.mv (.const (.int .i64 0))) none []]
def l79r1:List AOper :=
  [.mk (some 3) (.fld 1 (.tmp 1)) none [],.mk (some 4) (.load false 1 (.tmp 3)) none [0],.mk (some 5) (.call 98 [.tmp 4]) none [1],.mk (some 2) (.mv (.tmp 5)) none [2,2,0,1,2]]
def l79:AFn :=
  (AFn.mk 6 1 (.seq (.reg l79r0) (.seq (.reg l79r1) .ret)) [.tmp 2])
theorem l79_eq:lowFn Tryd.prog 79=some l79:=by kernel_rfl
def l85r0:List AOper :=
  [.mk (some 2) (.mv (.const (.bool false))) none []]
def l85r1:List AOper :=
  [.mk (some 3) (.mv (.tmp 0)) none [],.mk (some 4) (.len (.tmp 3)) none [0],.mk (some 5) (.call 54 [.tmp 4]) none [1],.mk (some 6) (.mv (.tmp 5)) none [2,2],.mk (some 7) (.mv (.tmp 0)) (some (6,true)) [3],.mk (some 8) (.call 76 [.tmp 7]) (some (6,true)) [4,3,3],.mk (some 9) (.pick (.tmp 6) (.tmp 8) (.const (.bool false))) none [3,5],.mk (some 2) (.mv (.tmp 9)) none [6,5,0,1,2,3,4,5,6]]
def l85:AFn :=
  (AFn.mk 10 1 (.seq (.reg l85r0) (.seq (.reg l85r1) .ret)) [.tmp 2])
theorem l85_eq:lowFn Tryd.prog 85=some l85:=by kernel_rfl
def l86r0:List AOper :=
  [.mk (some 3) (.box (.tmp 0)) none [],.mk (some 6) (.mv (.const (.bool false))) none []]
def l86r1:List AOper :=
  [.mk (some 7) (.fld 1 (.tmp 3)) none [],.mk (some 8) (.load true 3 (.tmp 7)) none [0],.mk (some 9) (.call 90 [.tmp 8]) none [1],.mk (some 10) (.un .not (.tmp 9)) none [2],.mk (some 11) (.mv (.tmp 10)) none [3,2],.mk (some 12) (.fld 0 (.tmp 3)) (some (11,false)) [4],.mk (some 13) (.load false 1 (.tmp 12)) (some (11,false)) [5,4],.mk (some 14) (.bin .lss (.tmp 13) (.const (.int .i64 (-1)))) (some (11,false)) [6,4],.mk (some 15) (.pick (.tmp 11) (.const (.bool true)) (.tmp 14)) none [4,7],.mk (some 16) (.mv (.tmp 15)) none [8,4],.mk (some 17) (.fld 0 (.tmp 3)) (some (16,false)) [9],.mk (some 18) (.load false 1 (.tmp 17)) (some (16,false)) [10,9],.mk (some 19) (.mv (.tmp 1)) (some (16,false)) [9],.mk (some 20) (.bin .geq (.tmp 18) (.tmp 19)) (some (16,false)) [11,12,9],.mk (some 21) (.pick (.tmp 16) (.const (.bool true)) (.tmp 20)) none [9,13]]
def l86r2:List AOper :=
  [.mk (some 6) (.mv (.const (.bool false))) none []]
def l86r3:List AOper :=
  [.mk (some 22) (.fld 4 (.tmp 3)) none [],.mk (some 23) (.load false 1 (.tmp 22)) none [0],.mk (some 24) (.un .not (.tmp 23)) none [1],.mk (some 25) (.mv (.tmp 24)) none [2],.mk (some 26) (.fld 1 (.tmp 3)) (some (25,false)) [3],.mk (some 27) (.load true 3 (.tmp 26)) (some (25,false)) [4,3],.mk (some 28) (.mv (.tmp 2)) (some (25,false)) [3],.mk (some 29) (.call 58 [.tmp 27,.tmp 28]) (some (25,false)) [5,6,3,3],.mk (some 30) (.pick (.tmp 25) (.const (.bool true)) (.tmp 29)) none [3,7],.mk (some 6) (.mv (.tmp 30)) none [8,7,0,1,2,3,4,5,6,7,8]]
def l86:AFn :=
  (AFn.mk 31 3 (.seq (.reg l86r0) (.seq (.seq (.reg l86r1) (.cond (.tmp 21) (.seq (.reg l86r2) .ret) .skip)) (.seq (.reg l86r3) .ret))) [.tmp 6])
theorem l86_eq:lowFn Tryd.prog 86=some l86:=by kernel_rfl
def l87r0:List AOper :=
  [.mk (some 2) (.mv (.const (.bool false))) none []]
def l87r1:List AOper :=
  [.mk (some 3) (.mv (.tmp 0)) none [],.mk (some 4) (.len (.tmp 3)) none [0],.mk (some 5) (.bin .leq (.tmp 4) (.const (.int .i64 4))) none [1],.mk (some 6) (.mv (.tmp 5)) none [2],.mk (some 7) (.mv (.tmp 0)) (some (6,true)) [3],.mk (some 8) (.call 88 [.tmp 7,.const (.int .i64 0),.const (.int .i64 60)]) (some (6,true)) [4,3,3],.mk (some 9) (.pick (.tmp 6) (.tmp 8) (.const (.bool false))) none [3,5],.mk (some 10) (.mv (.tmp 9)) none [6,5],.mk (some 11) (.mv (.tmp 0)) (some (10,true)) [7],.mk (some 12) (.call 89 [.tmp 11]) (some (10,true)) [8,7,7],.mk (some 13) (.bin .leq (.tmp 12) (.const (.int .i64 60))) (some (10,true)) [9,7],.mk (some 14) (.pick (.tmp 10) (.tmp 13) (.const (.bool false))) none [7,10],.mk (some 2) (.mv (.tmp 14)) none [11,9,0,1,2,3,4,5,6,7,8,9,10,11]]
def l87:AFn :=
  (AFn.mk 15 1 (.seq (.reg l87r0) (.seq (.reg l87r1) .ret)) [.tmp 2])
theorem l87_eq:lowFn Tryd.prog 87=some l87:=by kernel_rfl
def l88r0:List AOper :=
  [.mk (some 6) (.mv (.const (.bool false))) none []]
def l88r1:List AOper :=
  [.mk (some 7) (.mv (.const (.int .i64 0))) none []]
def l88r2:List AOper :=
  [.mk (some 8) (.mv (.tmp 7)) none [],.mk (some 9) (.mv (.tmp 0)) none [],.mk (some 10) (.len (.tmp 9)) none [1],.mk (some 11) (.bin .lss (.tmp 8) (.tmp 10)) none [0,2]]
def l88r3:List AOper :=
  [.mk (some 14) (.mv (.tmp 0)) none [],.mk (some 15) (.mv (.tmp 7)) none [],.mk (some 16) (.idxA 1 (.tmp 14) (.tmp 15)) none [0,1],.mk (some 17) (.load false 1 (.tmp 16)) none [2],.mk (some 18) (.mv (.tmp 1)) none [],.mk (some 19) (.mv (.tmp 2)) none [],.mk (some 20) (.call 46 [.tmp 17,.tmp 18,.tmp 19]) none [3,4,5],.mk (some 21) (.un .not (.tmp 20)) none [6]]
def l88r4:List AOper :=
  [.mk (some 6) (.mv (.const (.bool false))) none []]
def l88r5:List AOper :=
  [.mk (some 12) (.mv (.tmp 7)) none [],.mk (some 13) (.bin .add (.tmp 12) (.const (.int .i64 1))) none [0],.mk (some 7) (.mv (.tmp 13)) none [1,0,1]]
def l88r6:List AOper :=
  [.mk (some 6) (.mv (.const (.bool true))) none []]
def l88:AFn :=
  (AFn.mk 22 3 (.seq (.reg l88r0) (.seq (.seq (.reg l88r1) (.block 0 (.loop (.seq (.seq (.reg l88r2) (.cond (.tmp 11) .skip (.exit 0))) (.seq (.block 1 (.seq (.reg l88r3) (.cond (.tmp 21) (.seq (.reg l88r4) .ret) .skip))) (.reg l88r5)))))) (.seq (.reg l88r6) .ret))) [.tmp 6])
theorem l88_eq:lowFn Tryd.prog 88=some l88:=by kernel_rfl
def l89r0:List AOper :=
  [.mk (some 2) (.mv (.const (.int .i64 0))) none []]
def l89r1:List AOper :=
  [.mk (some 3) (.mv (.const (.int .i64 1))) none []]
def l89r2:List AOper :=
  [.mk (some 4) (.mv (.const (.int .i64 0))) none []]
def l89r3:List AOper :=
  [.mk (some 5) (.mv (.tmp 4)) none [],.mk (some 6) (.mv (.tmp 0)) none [],.mk (some 7) (.len (.tmp 6)) none [1],.mk (some 8) (.bin .lss (.tmp 5) (.tmp 7)) none [0,2]]
def l89r4:List AOper :=
  [.mk (some 11) (.mv (.tmp 3)) none [],.mk (some 12) (.mv (.tmp 0)) none [],.mk (some 13) (.mv (.tmp 4)) none [],.mk (some 14) (.idxA 1 (.tmp 12) (.tmp 13)) none [1,2],.mk (some 15) (.load false 1 (.tmp 14)) none [3],.mk (some 16) (.bin .mul (.tmp 11) (.tmp 15)) none [0,4],.mk (some 3) (.mv (.tmp 16)) none [5,0,1,2,3,4,5]]
def l89r5:List AOper :=
  [.mk (some 9) (.mv (.tmp 4)) none [],.mk (some 10) (.bin .add (.tmp 9) (.const (.int .i64 1))) none [0],.mk (some 4) (.mv (.tmp 10)) none [1,0,1]]
def l89r6:List AOper :=
  [.mk (some 17) (.mv (.tmp 3)) none [],.mk (some 2) (.mv (.tmp 17)) none [0,0]]
def l89:AFn :=
  (AFn.mk 18 1 (.seq (.reg l89r0) (.seq (.reg l89r1) (.seq (.seq (.reg l89r2) (.block 0 (.loop (.seq (.seq (.reg l89r3) (.cond (.tmp 8) .skip (.exit 0))) (.seq (.block 1 (.reg l89r4)) (.reg l89r5)))))) (.seq (.reg l89r6) .ret)))) [.tmp 2])
theorem l89_eq:lowFn Tryd.prog 89=some l89:=by kernel_rfl
def l90r0:List AOper :=
  [.mk (some 1) (.box (.tmp 0)) none [],.mk (some 2) (.mv (.const (.bool false))) none []]
def l90r1:List AOper :=
  [.mk (some 5) (.fld 1 (.tmp 1)) none [],.mk (some 6) (.load false 1 (.tmp 5)) none [0],.mk (some 7) (.call 101 [.tmp 6]) none [1],.mk (some 8) (.un .not (.tmp 7)) none [2],.mk (some 9) (.mv (.tmp 8)) none [3,2],.mk (some 10) (.fld 2 (.tmp 1)) (some (9,false)) [4],.mk (some 11) (.load false 1 (.tmp 10)) (some (9,false)) [5,4],.mk (some 12) (.fld 1 (.tmp 1)) (some (9,false)) [4],.mk (some 13) (.load false 1 (.tmp 12)) (some (9,false)) [7,4],.mk (some 14) (.len (.tmp 13)) (some (9,false)) [8,4],.mk (some 15) (.call 102 [.tmp 11,.tmp 14]) (some (9,false)) [6,9,4,4],.mk (some 16) (.un .not (.tmp 15)) (some (9,false)) [10,4],.mk (some 17) (.pick (.tmp 9) (.const (.bool true)) (.tmp 16)) none [4,11],.mk (some 18) (.mv (.tmp 17)) none [12,10],.mk (some 19) (.fld 0 (.tmp 1)) (some (18,false)) [13],.mk (some 20) (.load false 1 (.tmp 19)) (some (18,false)) [14,13],.mk (some 21) (.call 66 [.tmp 20,.const (.int .i64 60)]) (some (18,false)) [15,13,13],.mk (some 22) (.un .not (.tmp 21)) (some (18,false)) [16,13],.mk (some 23) (.pick (.tmp 18) (.const (.bool true)) (.tmp 22)) none [13,17]]
def l90r2:List AOper :=
  [.mk (some 2) (.mv (.const (.bool false))) none []]
def l90r3:List AOper :=
  [.mk (some 25) (.load true 3 (.tmp 1)) none [],.mk (some 26) (.call 91 [.tmp 25]) none [0],.mk (some 24) (.mv (.tmp 26)) none [1],.mk (some 27) (.extract (.tmp 24) 0) none [2],.mk (some 28) (.extract (.tmp 24) 1) none [2],.mk (some 3) (.mv (.tmp 27)) none [3,1,0,1,2,3],.mk (some 4) (.mv (.tmp 28)) none [4,5,0,1,2,3,4,5]]
def l90r4:List AOper :=
  [.mk (some 29) (.load true 3 (.tmp 1)) none [],.mk (some 30) (.call 79 [.tmp 29]) none [0],.mk (some 31) (.bin .eql (.tmp 30) (.const (.int .i64 0))) none [1],.mk (some 32) (.mv (.tmp 31)) none [2,1],.mk (some 33) (.mv (.tmp 3)) (some (32,false)) [3],.mk (some 34) (.bin .geq (.tmp 33) (.const (.int .i64 0))) (some (32,false)) [4,3],.mk (some 35) (.mv (.tmp 34)) (some (32,false)) [5,3,3],.mk (some 36) (.mv (.tmp 4)) (some (35,true)) [6],.mk (some 37) (.bin .lss (.tmp 36) (.const (.int .i64 60))) (some (35,true)) [7,6],.mk (some 38) (.pick (.tmp 35) (.tmp 37) (.const (.bool false))) (some (32,false)) [6,8,3],.mk (some 39) (.pick (.tmp 32) (.const (.bool true)) (.tmp 38)) none [3,9],.mk (some 2) (.mv (.tmp 39)) none [10,6,0,1,2,3,4,5,6,7,8,9,10]]
def l90:AFn :=
  (AFn.mk 40 1 (.seq (.reg l90r0) (.seq (.seq (.reg l90r1) (.cond (.tmp 23) (.seq (.reg l90r2) .ret) .skip)) (.seq (.reg l90r3) (.seq (.reg l90r4) .ret)))) [.tmp 2])
theorem l90_eq:lowFn Tryd.prog 90=some l90:=by kernel_rfl
def l91r0:List AOper :=
  [.mk (some 1) (.box (.tmp 0)) none [],.mk (some 2) (.mv (.const (.int .i64 0))) none [],.mk (some 3) (.mv (.const (.int .i64 0))) none [1]]
def l91r1:List AOper :=
  [.mk (some 9) (.load true 3 (.tmp 1)) none [],.mk (some 10) (.call 79 [.tmp 9]) none [0],.mk (some 11) (.bin .eql (.tmp 10) (.const (.int .i64 0))) none [1]]
def l91r2:List AOper :=
  [.mk (some 2) (.mv (.const (.int .i64 (-1)))) none [],.mk (some 3) (.mv (.const (.int .i64 (-1)))) none [0,0]]
def l91r3a:List AOper :=
  [.mk (some 12) (.fld 0 (.tmp 1)) none [],.mk (some 13) (.load false 1 (.tmp 12)) none [0],.mk (some 14) (.fld 0 (.tmp 1)) none [],.mk (some 15) (.load false 1 (.tmp 14)) none [2],.mk (some 4) (.mv (.tmp 13)) none [1,0,1]]
def l91r3b:List AOper :=
  [.mk (some 5) (.mv (.tmp 15)) none [3,4,0,1,2,3,4]]
def l91r3:List AOper:=l91r3a ++ l91r3b
def l91r4:List AOper :=
  [.mk (some 16) (.fld 2 (.tmp 1)) none [],.mk (some 17) (.load false 1 (.tmp 16)) none [0],.mk (some 18) (.len (.tmp 17)) none [1],.mk (some 19) (.mv (.const (.int .i64 0))) none []]
def l91r5:List AOper :=
  [.mk (some 20) (.bin .lss (.tmp 19) (.tmp 18)) none []]
def l91r6:List AOper :=
  [.mk (some 21) (.mv (.tmp 19)) none [],.mk (some 22) (.idxA 1 (.tmp 17) (.tmp 19)) none [],.mk (some 23) (.load false 1 (.tmp 22)) none [1],.mk (some 6) (.mv (.tmp 21)) none [0,0,1,2],.mk (some 7) (.mv (.tmp 23)) none [2,3,0,1,2,3]]
def l91r7:List AOper :=
  [.mk (some 24) (.fld 1 (.tmp 1)) none [],.mk (some 25) (.load false 1 (.tmp 24)) none [0],.mk (some 26) (.mv (.tmp 6)) none [],.mk (some 27) (.idxA 1 (.tmp 25) (.tmp 26)) none [1,2],.mk (some 28) (.load false 1 (.tmp 27)) none [3],.mk (some 29) (.bin .sub (.tmp 28) (.const (.int .i64 1))) none [4],.mk (some 30) (.mv (.tmp 7)) none [],.mk (some 31) (.bin .mul (.tmp 29) (.tmp 30)) none [5,6],.mk (some 8) (.mv (.tmp 31)) none [7,0,1,2,3,4,5,6,7]]
def l91r8:List AOper :=
  [.mk (some 32) (.mv (.tmp 4)) none [],.mk (some 33) (.mv (.tmp 8)) none [],.mk (some 34) (.minmax false (.tmp 33) (.const (.int .i64 0))) none [1],.mk (some 35) (.bin .add (.tmp 32) (.tmp 34)) none [0,2],.mk (some 4) (.mv (.tmp 35)) none [3,0,1,2,3]]
def l91r9:List AOper :=
  [.mk (some 36) (.mv (.tmp 5)) none [],.mk (some 37) (.mv (.tmp 8)) none [],.mk (some 38) (.minmax true (.tmp 37) (.const (.int .i64 0))) none [1],.mk (some 39) (.bin .add (.tmp 36) (.tmp 38)) none [0,2],.mk (some 5) (.mv (.tmp 39)) none [3,0,1,2,3]]
def l91r10:List AOper :=
  [.mk (some 40) (.bin .add (.tmp 19) (.const (.int .i64 1))) none [],.mk (some 19) (.mv (.tmp 40)) none [0]]
def l91r11:List AOper :=
  [.mk (some 41) (.mv (.tmp 4)) none [],.mk (some 42) (.mv (.tmp 5)) none [],.mk (some 2) (.mv (.tmp 41)) none [0,0],.mk (some 3) (.mv (.tmp 42)) none [1,2,0,1,2]]
def l91:AFn :=
  (AFn.mk 43 1 (.seq (.reg l91r0) (.seq (.seq (.reg l91r1) (.cond (.tmp 11) (.seq (.reg l91r2) .ret) .skip)) (.seq (.draw l91r3) (.seq (.seq (.reg l91r4) (.block 0 (.loop (.seq (.reg l91r5) (.seq (.cond (.tmp 20) .skip (.exit 0)) (.seq (.block 1 (.seq (.reg l91r6) (.seq (.reg l91r7) (.seq (.reg l91r8) (.reg l91r9))))) (.reg l91r10))))))) (.seq (.reg l91r11) .ret))))) [.tmp 2,.tmp 3])
theorem l91_eq:lowFn Tryd.prog 91=some l91:=by kernel_rfl
def l92r0:List AOper :=
  [.mk (some 2) (.box (.tmp 0)) none [],.mk (some 4) (.mv (.const (.int .i64 0))) none []]
def l92r1:List AOper :=
  [.mk (some 7) (.fld 0 (.tmp 2)) none [],.mk (some 8) (.load false 1 (.tmp 7)) none [0],.mk (some 5) (.mv (.tmp 8)) none [1,0,1]]
def l92r2:List AOper :=
  [.mk (some 6) (.mv (.const (.int .i64 0))) none []]
def l92r3:List AOper :=
  [.mk (some 9) (.mv (.tmp 6)) none [],.mk (some 10) (.mv (.tmp 1)) none [],.mk (some 11) (.len (.tmp 10)) none [1],.mk (some 12) (.bin .lss (.tmp 9) (.tmp 11)) none [0,2]]
def l92r4a:List AOper :=
  [.mk (some 15) (.mv (.tmp 5)) none [],.mk (some 16) (.mv (.tmp 1)) none [],.mk (some 17) (.mv (.tmp 6)) none [],.mk (some 18) (.idxA 1 (.tmp 16) (.tmp 17)) none [1,2],.mk (some 19) (.load false 1 (.tmp 18)) none [3],.mk (some 20) (.fld 2 (.tmp 2)) none [],.mk (some 21) (.load false 1 (.tmp 20)) none [5],.mk (some 22) (.mv (.tmp 6)) none [],.mk (some 23) (.idxA 1 (.tmp 21) (.tmp 22)) none [6,7],.mk (some 24) (.load false 1 (.tmp 23)) none [8],.mk (some 25) (.bin .mul (.tmp 19) (.tmp 24)) none [4,9]]
def l92r4b:List AOper :=
  [.mk (some 26) (.bin .add (.tmp 15) (.tmp 25)) none [0,10],.mk (some 5) (.mv (.tmp 26)) none [11,0,1,2,3,4,5,6,7,8,9,10,11]]
def l92r4:List AOper:=l92r4a ++ l92r4b
def l92r5:List AOper :=
  [.mk (some 13) (.mv (.tmp 6)) none [],.mk (some 14) (.bin .add (.tmp 13) (.const (.int .i64 1))) none [0],.mk (some 6) (.mv (.tmp 14)) none [1,0,1]]
def l92r6:List AOper :=
  [.mk (some 27) (.mv (.tmp 5)) none [],.mk (some 4) (.mv (.tmp 27)) none [0,0]]
def l92:AFn :=
  (AFn.mk 28 2 (.seq (.reg l92r0) (.seq (.reg l92r1) (.seq (.seq (.reg l92r2) (.block 0 (.loop (.seq (.seq (.reg l92r3) (.cond (.tmp 12) .skip (.exit 0))) (.seq (.block 1 (.draw l92r4)) (.reg l92r5)))))) (.seq (.reg l92r6) .ret)))) [.tmp 4])
theorem l92_eq:lowFn Tryd.prog 92=some l92:=by kernel_rfl
def l93r0:List AOper :=
  [.mk (some 4) (.mv (.const (.slice none 0 0))) none []]
def l93r1:List AOper :=
  [.mk (some 7) (.mv (.tmp 0)) none [],.mk (some 8) (.len (.tmp 7)) none [0],.mk (some 9) (.mkslice 1 [.int .i64 0] (.tmp 8) (.tmp 8)) none [1,1],.mk (some 5) (.mv (.tmp 9)) none [2,0,1,2]]
def l93r2:List AOper :=
  [.mk (some 10) (.mv (.tmp 0)) none [],.mk (some 11) (.len (.tmp 10)) none [0],.mk (some 12) (.bin .sub (.tmp 11) (.const (.int .i64 1))) none [1],.mk (some 6) (.mv (.tmp 12)) none [2,0,1,2]]
def l93r3:List AOper :=
  [.mk (some 13) (.mv (.tmp 6)) none [],.mk (some 14) (.bin .geq (.tmp 13) (.const (.int .i64 0))) none [0]]
def l93r4:List AOper :=
  [.mk (some 17) (.mv (.tmp 5)) none [],.mk (some 18) (.mv (.tmp 6)) none [],.mk (some 19) (.mv (.tmp 1)) none [],.mk (some 20) (.mv (.tmp 0)) none [],.mk (some 21) (.mv (.tmp 6)) none [],.mk (some 22) (.idxA 1 (.tmp 20) (.tmp 21)) none [3,4],.mk (some 23) (.load false 1 (.tmp 22)) none [5],.mk (some 24) (.bin .rem (.tmp 19) (.tmp 23)) none [2,6],.mk (some 25) (.idxA 1 (.tmp 17) (.tmp 18)) none [0,1,0,1,2,3,4,5,6,7],.mk none (.store 1 (.tmp 25) (.tmp 24)) none [8,7,0,1,2,3,4,5,6,7]]
def l93r5:List AOper :=
  [.mk (some 26) (.mv (.tmp 1)) none [],.mk (some 27) (.mv (.tmp 0)) none [],.mk (some 28) (.mv (.tmp 6)) none [],.mk (some 29) (.idxA 1 (.tmp 27) (.tmp 28)) none [1,2],.mk (some 30) (.load false 1 (.tmp 29)) none [3],.mk (some 31) (.bin .quo (.tmp 26) (.tmp 30)) none [0,4],.mk (some 1) (.mv (.tmp 31)) none [5,0,1,2,3,4,5]]
def l93r6:List AOper :=
  [.mk (some 15) (.mv (.tmp 6)) none [],.mk (some 16) (.bin .sub (.tmp 15) (.const (.int .i64 1))) none [0],.mk (some 6) (.mv (.tmp 16)) none [1,0,1]]
def l93r7:List AOper :=
  [.mk (some 32) (.mv (.tmp 5)) none [],.mk (some 4) (.mv (.tmp 32)) none [0,0]]
def l93:AFn :=
  (AFn.mk 33 2 (.seq (.reg l93r0) (.seq (.reg l93r1) (.seq (.seq (.reg l93r2) (.block 0 (.loop (.seq (.seq (.reg l93r3) (.cond (.tmp 14) .skip (.exit 0))) (.seq (.block 1 (.seq (.reg l93r4) (.reg l93r5))) (.reg l93r6)))))) (.seq (.reg l93r7) .ret)))) [.tmp 4])
theorem l93_eq:lowFn Tryd.prog 93=some l93:=by kernel_rfl
def l98r0:List AOper :=
  [.mk (some 2) (.mv (.const (.int .i64 0))) none []]
def l98r1:List AOper :=
  [.mk (some 3) (.mv (.const (.int .i64 1))) none []]
def l98r2:List AOper :=
  [.mk (some 6) (.mv (.tmp 0)) none [],.mk (some 7) (.len (.tmp 6)) none [0],.mk (some 8) (.mv (.const (.int .i64 0))) none []]
def l98r3:List AOper :=
  [.mk (some 9) (.bin .lss (.tmp 8) (.tmp 7)) none []]
def l98r4:List AOper :=
  [.mk (some 10) (.idxA 1 (.tmp 6) (.tmp 8)) none [],.mk (some 11) (.load false 1 (.tmp 10)) none [0],.mk (some 5) (.mv (.tmp 11)) none [1,0,1]]
def l98r5:List AOper :=
  [.mk (some 12) (.mv (.tmp 3)) none [],.mk (some 13) (.mv (.tmp 5)) none [],.mk (some 14) (.bin .mul (.tmp 12) (.tmp 13)) none [0,1],.mk (some 3) (.mv (.tmp 14)) none [2,0,1,2]]
def l98r6:List AOper :=
  [.mk (some 15) (.bin .add (.tmp 8) (.const (.int .i64 1))) none [],.mk (some 8) (.mv (.tmp 15)) none [0]]
def l98r7:List AOper :=
  [.mk (some 16) (.mv (.tmp 3)) none [],.mk (some 2) (.mv (.tmp 16)) none [0,0]]
def l98:AFn :=
  (AFn.mk 17 1 (.seq (.reg l98r0) (.seq (.reg l98r1) (.seq (.seq (.reg l98r2) (.block 0 (.loop (.seq (.reg l98r3) (.seq (.cond (.tmp 9) .skip (.exit 0)) (.seq (.block 1 (.seq (.reg l98r4) (.reg l98r5))) (.reg l98r6))))))) (.seq (.reg l98r7) .ret)))) [.tmp 2])
theorem l98_eq:lowFn Tryd.prog 98=some l98:=by kernel_rfl
def l101r0:List AOper :=
  [.mk (some 2) (.mv (.const (.bool false))) none []]
def l101r1:List AOper :=
  [.mk (some 5) (.mv (.tmp 0)) none [],.mk (some 6) (.len (.tmp 5)) none [0],.mk (some 7) (.bin .gtr (.tmp 6) (.const (.int .i64 4))) none [1]]
def l101r2:List AOper :=
  [.mk (some 2) (.mv (.const (.bool false))) none []]
def l101r3:List AOper :=
  [.mk (some 8) (.mv (.tmp 0)) none [],.mk (some 9) (.len (.tmp 8)) none [0],.mk (some 10) (.mv (.const (.int .i64 0))) none []]
def l101r4:List AOper :=
  [.mk (some 11) (.bin .lss (.tmp 10) (.tmp 9)) none []]
def l101r5:List AOper :=
  [.mk (some 12) (.idxA 1 (.tmp 8) (.tmp 10)) none [],.mk (some 13) (.load false 1 (.tmp 12)) none [0],.mk (some 4) (.mv (.tmp 13)) none [1,0,1]]
def l101r6:List AOper :=
  [.mk (some 14) (.mv (.tmp 4)) none [],.mk (some 15) (.call 66 [.tmp 14,.const (.int .i64 60)]) none [0],.mk (some 16) (.un .not (.tmp 15)) none [1]]
def l101r7:List AOper :=
  [.mk (some 2) (.mv (.const (.bool false))) none []]
def l101r8:List AOper :=
  [.mk (some 17) (.bin .add (.tmp 10) (.const (.int .i64 1))) none [],.mk (some 10) (.mv (.tmp 17)) none [0]]
def l101r9:List AOper :=
  [.mk (some 18) (.mv (.tmp 0)) none [],.mk (some 19) (.call 98 [.tmp 18]) none [0],.mk (some 20) (.bin .leq (.tmp 19) (.const (.int .i64 60))) none [1],.mk (some 2) (.mv (.tmp 20)) none [2,1,0,1,2]]
def l101:AFn :=
  (AFn.mk 21 1 (.seq (.reg l101r0) (.seq (.seq (.reg l101r1) (.cond (.tmp 7) (.seq (.reg l101r2) .ret) .skip)) (.seq (.seq (.reg l101r3) (.block 0 (.loop (.seq (.reg l101r4) (.seq (.cond (.tmp 11) .skip (.exit 0)) (.seq (.block 1 (.seq (.reg l101r5) (.seq (.reg l101r6) (.cond (.tmp 16) (.seq (.reg l101r7) .ret) .skip)))) (.reg l101r8))))))) (.seq (.reg l101r9) .ret)))) [.tmp 2])
theorem l101_eq:lowFn Tryd.prog 101=some l101:=by kernel_rfl
def l102r0:List AOper :=
  [.mk (some 4) (.mv (.const (.bool false))) none []]
def l102r1:List AOper :=
  [.mk (some 7) (.mv (.tmp 0)) none [],.mk (some 8) (.len (.tmp 7)) none [0],.mk (some 9) (.mv (.tmp 1)) none [],.mk (some 10) (.bin .neq (.tmp 8) (.tmp 9)) none [1,2]]
def l102r2:List AOper :=
  [.mk (some 4) (.mv (.const (.bool false))) none []]
def l102r3:List AOper :=
  [.mk (some 11) (.mv (.tmp 0)) none [],.mk (some 12) (.len (.tmp 11)) none [0],.mk (some 13) (.mv (.const (.int .i64 0))) none []]
def l102r4:List AOper :=
  [.mk (some 14) (.bin .lss (.tmp 13) (.tmp 12)) none []]
def l102r5:List AOper :=
  [.mk (some 15) (.idxA 1 (.tmp 11) (.tmp 13)) none [],.mk (some 16) (.load false 1 (.tmp 15)) none [0],.mk (some 6) (.mv (.tmp 16)) none [1,0,1]]
def l102r6:List AOper :=
  [.mk (some 17) (.mv (.tmp 6)) none [],.mk (some 18) (.call 107 [.tmp 17,.const (.int .i64 60)]) none [0],.mk (some 19) (.un .not (.tmp 18)) none [1]]
def l102r7:List AOper :=
  [.mk (some 4) (.mv (.const (.bool false))) none []]
def l102r8:List AOper :=
  [.mk (some 20) (.bin .add (.tmp 13) (.const (.int .i64 1))) none [],.mk (some 13) (.mv (.tmp 20)) none [0]]
def l102r9:List AOper :=
  [.mk (some 4) (.mv (.const (.bool true))) none []]
def l102:AFn :=
  (AFn.mk 21 2 (.seq (.reg l102r0) (.seq (.seq (.reg l102r1) (.cond (.tmp 10) (.seq (.reg l102r2) .ret) .skip)) (.seq (.seq (.reg l102r3) (.block 0 (.loop (.seq (.reg l102r4) (.seq (.cond (.tmp 14) .skip (.exit 0)) (.seq (.block 1 (.seq (.reg l102r5) (.seq (.reg l102r6) (.cond (.tmp 19) (.seq (.reg l102r7) .ret) .skip)))) (.reg l102r8))))))) (.seq (.reg l102r9) .ret)))) [.tmp 4])
theorem l102_eq:lowFn Tryd.prog 102=some l102:=by kernel_rfl
def l107r0:List AOper :=
  [.mk (some 4) (.mv (.const (.bool false))) none []]
def l107r1:List AOper :=
  [.mk (some 5) (.mv (.tmp 1)) none [],.mk (some 6) (.un .neg (.tmp 5)) none [0],.mk (some 7) (.mv (.tmp 0)) none [],.mk (some 8) (.bin .leq (.tmp 6) (.tmp 7)) none [1,2],.mk (some 9) (.mv (.tmp 8)) none [3],.mk (some 10) (.mv (.tmp 0)) (some (9,true)) [4],.mk (some 11) (.mv (.tmp 1)) (some (9,true)) [4],.mk (some 12) (.bin .leq (.tmp 10) (.tmp 11)) (some (9,true)) [5,6,4],.mk (some 13) (.pick (.tmp 9) (.tmp 12) (.const (.bool false))) none [4,7],.mk (some 4) (.mv (.tmp 13)) none [8,4,0,1,2,3,4,5,6,7,8]]
def l107:AFn :=
  (AFn.mk 14 2 (.seq (.reg l107r0) (.seq (.reg l107r1) .ret)) [.tmp 4])
theorem l107_eq:lowFn Tryd.prog 107=some l107:=by kernel_rfl
end Go.Proofs.YtahdlohpncjdbaaDoor
