import Derived.Test.YtahdlohpncjdbaaDoorCW3
import Derived.Test.YtahdlohpncjdbaaDoorProg
import Derived.KernelRfl
set_option maxRecDepth 100000
namespace Go.Proofs.YtahdlohpncjdbaaDoor
open Vw Go
/-- Where the sentinel error lies. -/
class SentA where
  a:Addr
instance globs [SentA]:Inhabited GlobT:=⟨⟨[(0,[.iface 137 (.pointer (some SentA.a))])]⟩⟩
attribute [push_cast] Bool.false_eq_true List.length_replicate
attribute [bitvec_to_nat] decide_eq_true_eq decide_eq_false_iff_not Bool.not_eq_true' Bool.not_eq_false' Bool.and_eq_true Bool.or_eq_true Bool.and_eq_false_iff Bool.or_eq_false_iff Int.not_le Int.not_lt bne_iff_ne ne_eq beq_iff_eq Bool.not_eq_true Bool.not_eq_false
theorem sd {P:Prop} (h:P:=by first|assumption|rfl|omega|(simp<;>omega)|(simp_all<;>omega)):P:=h
def l5r0:List AOper :=
  [.mk (some 3) (.box (.tmp 0)) none [],.mk (some 6) (.mv (.const (.bool false))) none []]
def l5r1:List AOper :=
  [.mk (some 7) (.mv (.const (.int .i64 1048576))) none []]
def l5r2:List AOper :=
  [.mk (some 18) (.load true 2 (.tmp 3)) none [],.mk (some 19) (.mv (.tmp 7)) none [],.mk (some 20) (.call 8 [.tmp 18,.tmp 19]) none [0,1],.mk (some 7) (.mv (.tmp 20)) none [2,2,0,1,2]]
def l5r3:List AOper :=
  [.mk (some 21) (.mv (.tmp 7)) none [],.mk (some 22) (.bin .lss (.tmp 21) (.const (.int .i64 0))) none [0]]
def l5r4:List AOper :=
  [.mk (some 6) (.mv (.const (.bool true))) none []]
def l5r5:List AOper :=
  [.mk (some 24) (.load true 2 (.tmp 3)) none [],.mk (some 25) (.call 10 [.tmp 24]) none [0],.mk (some 26) (.mv (.tmp 1)) none [],.mk (some 27) (.mv (.tmp 2)) none [],.mk (some 28) (.call 17 [.tmp 25,.tmp 26,.tmp 27]) none [1,2,3,1],.mk (some 23) (.mv (.tmp 28)) none [4],.mk (some 29) (.extract (.tmp 23) 0) none [5],.mk (some 30) (.extract (.tmp 23) 1) none [5],.mk (some 8) (.alloc [.slice none 0 0,.slice none 0 0]) none [],.mk none (.store 2 (.tmp 8) (.tmp 29)) none [8,6,4,0,1,2,3,4,5,6,8],.mk (some 9) (.mv (.tmp 30)) none [7,9,0,1,2,3,4,5,6,7,8,9]]
def l5r6:List AOper :=
  [.mk (some 31) (.load true 2 (.tmp 3)) none [],.mk (some 32) (.call 10 [.tmp 31]) none [0],.mk (some 10) (.alloc [.slice none 0 0,.slice none 0 0]) none [],.mk none (.store 2 (.tmp 10) (.tmp 32)) none [2,1,1,0,1,2]]
def l5r7:List AOper :=
  [.mk (some 34) (.load true 2 (.tmp 10)) none [],.mk (some 35) (.mv (.tmp 1)) none [],.mk (some 36) (.mv (.tmp 2)) none [],.mk (some 37) (.call 18 [.tmp 34,.tmp 35,.tmp 36]) none [0,1,2],.mk (some 33) (.mv (.tmp 37)) none [3],.mk (some 38) (.extract (.tmp 33) 0) none [4],.mk (some 39) (.extract (.tmp 33) 1) none [4],.mk (some 11) (.alloc [.slice none 0 0,.slice none 0 0]) none [],.mk none (.store 2 (.tmp 11) (.tmp 38)) none [7,5,3,0,1,2,3,4,5,7],.mk (some 12) (.mv (.tmp 39)) none [6,8,0,1,2,3,4,5,6,7,8]]
def l5r8:List AOper :=
  [.mk (some 40) (.load true 2 (.tmp 11)) none [],.mk (some 41) (.load true 2 (.tmp 8)) none [],.mk (some 42) (.call 12 [.tmp 40,.tmp 41]) none [0,1],.mk (some 43) (.un .not (.tmp 42)) none [2],.mk (some 44) (.mv (.tmp 43)) none [3,2],.mk (some 45) (.mv (.tmp 12)) (some (44,false)) [4],.mk (some 46) (.mv (.tmp 9)) (some (44,false)) [4],.mk (some 47) (.binB .neq (.tmp 45) (.tmp 46)) (some (44,false)) [5,6,4],.mk (some 48) (.pick (.tmp 44) (.const (.bool true)) (.tmp 47)) none [4,7]]
def l5r9:List AOper :=
  [.mk (some 6) (.mv (.const (.bool false))) none []]
def l5r10a:List AOper :=
  [.mk (some 49) (.load true 2 (.tmp 10)) none [],.mk (some 50) (.load true 2 (.tmp 3)) none [],.mk (some 51) (.call 10 [.tmp 50]) none [1]]
def l5r10b:List AOper :=
  [.mk (some 52) (.call 12 [.tmp 49,.tmp 51]) none [0,2,2],.mk (some 53) (.un .not (.tmp 52)) none [3]]
def l5r10:List AOper:=l5r10a ++ l5r10b
def l5r11:List AOper :=
  [.mk (some 6) (.mv (.const (.bool false))) none []]
def l5r12:List AOper :=
  [.mk (some 13) (.mv (.const (.int .i64 1))) none []]
def l5r13:List AOper :=
  [.mk (some 54) (.load true 2 (.tmp 10)) none [],.mk (some 55) (.mv (.tmp 13)) none [],.mk (some 56) (.call 13 [.tmp 54,.tmp 55]) none [0,1],.mk (some 13) (.mv (.tmp 56)) none [2,2,0,1,2]]
def l5r14:List AOper :=
  [.mk (some 57) (.mv (.tmp 13)) none [],.mk (some 58) (.bin .lss (.tmp 57) (.const (.int .i64 0))) none [0],.mk (some 59) (.mv (.tmp 58)) none [1],.mk (some 60) (.load true 2 (.tmp 11)) (some (59,false)) [2],.mk (some 61) (.load true 2 (.tmp 8)) (some (59,false)) [2],.mk (some 62) (.call 12 [.tmp 60,.tmp 61]) (some (59,false)) [3,4,2,2],.mk (some 63) (.un .not (.tmp 62)) (some (59,false)) [5,2],.mk (some 64) (.pick (.tmp 59) (.const (.bool true)) (.tmp 63)) none [2,6],.mk (some 65) (.mv (.tmp 64)) none [7,5],.mk (some 66) (.mv (.tmp 12)) (some (65,false)) [8],.mk (some 67) (.mv (.tmp 9)) (some (65,false)) [8],.mk (some 68) (.binB .neq (.tmp 66) (.tmp 67)) (some (65,false)) [9,10,8],.mk (some 69) (.pick (.tmp 65) (.const (.bool true)) (.tmp 68)) none [8,11]]
def l5r15:List AOper :=
  [.mk (some 6) (.mv (.const (.bool false))) none []]
def l5r16:List AOper :=
  [.mk (some 14) (.mv (.const (.int .i64 1))) none []]
def l5r17:List AOper :=
  [.mk (some 70) (.load true 2 (.tmp 11)) none [],.mk (some 71) (.mv (.tmp 14)) none [],.mk (some 72) (.call 13 [.tmp 70,.tmp 71]) none [0,1],.mk (some 14) (.mv (.tmp 72)) none [2,2,0,1,2]]
def l5r18:List AOper :=
  [.mk (some 15) (.mv (.const (.int .i64 1))) none []]
def l5r19:List AOper :=
  [.mk (some 73) (.load true 2 (.tmp 11)) none [],.mk (some 74) (.mv (.tmp 15)) none [],.mk (some 75) (.call 14 [.tmp 73,.tmp 74]) none [0,1],.mk (some 15) (.mv (.tmp 75)) none [2,2,0,1,2]]
def l5r20:List AOper :=
  [.mk (some 76) (.mv (.tmp 15)) none [],.mk (some 77) (.bin .lss (.tmp 76) (.const (.int .i64 0))) none [0]]
def l5r21:List AOper :=
  [.mk (some 6) (.mv (.const (.bool false))) none []]
def l5r22:List AOper :=
  [.mk (some 78) (.mv (.tmp 15)) none [],.mk (some 79) (.mv (.tmp 14)) none [],.mk (some 80) (.bin .neq (.tmp 78) (.tmp 79)) none [0,1]]
def l5r23:List AOper :=
  [.mk (some 6) (.mv (.const (.bool false))) none []]
def l5r24:List AOper :=
  [.mk (some 82) (.load true 2 (.tmp 3)) none [],.mk (some 83) (.call 10 [.tmp 82]) none [0],.mk (some 84) (.mv (.tmp 1)) none [],.mk (some 85) (.mv (.tmp 2)) none [],.mk (some 86) (.call 18 [.tmp 83,.tmp 84,.tmp 85]) none [1,2,3,1],.mk (some 81) (.mv (.tmp 86)) none [4],.mk (some 87) (.extract (.tmp 81) 0) none [5],.mk (some 88) (.extract (.tmp 81) 1) none [5],.mk (some 16) (.alloc [.slice none 0 0,.slice none 0 0]) none [],.mk none (.store 2 (.tmp 16) (.tmp 87)) none [8,6,4,0,1,2,3,4,5,6,8],.mk (some 17) (.mv (.tmp 88)) none [7,9,0,1,2,3,4,5,6,7,8,9]]
def l5r25:List AOper :=
  [.mk (some 89) (.load true 2 (.tmp 16)) none [],.mk (some 90) (.load true 2 (.tmp 8)) none [],.mk (some 91) (.call 12 [.tmp 89,.tmp 90]) none [0,1],.mk (some 92) (.un .not (.tmp 91)) none [2],.mk (some 93) (.mv (.tmp 92)) none [3,2],.mk (some 94) (.mv (.tmp 17)) (some (93,false)) [4],.mk (some 95) (.mv (.tmp 9)) (some (93,false)) [4],.mk (some 96) (.binB .neq (.tmp 94) (.tmp 95)) (some (93,false)) [5,6,4],.mk (some 97) (.pick (.tmp 93) (.const (.bool true)) (.tmp 96)) none [4,7]]
def l5r26:List AOper :=
  [.mk (some 6) (.mv (.const (.bool false))) none []]
def l5r27:List AOper :=
  [.mk (some 15) (.mv (.const (.int .i64 1))) none []]
def l5r28:List AOper :=
  [.mk (some 98) (.load true 2 (.tmp 11)) none [],.mk (some 99) (.mv (.tmp 15)) none [],.mk (some 100) (.call 14 [.tmp 98,.tmp 99]) none [0,1],.mk (some 15) (.mv (.tmp 100)) none [2,2,0,1,2]]
def l5r29:List AOper :=
  [.mk (some 101) (.mv (.tmp 15)) none [],.mk (some 102) (.bin .lss (.tmp 101) (.const (.int .i64 0))) none [0]]
def l5r30:List AOper :=
  [.mk (some 6) (.mv (.const (.bool false))) none []]
def l5r31:List AOper :=
  [.mk (some 103) (.mv (.tmp 15)) none [],.mk (some 104) (.mv (.tmp 14)) none [],.mk (some 105) (.bin .neq (.tmp 103) (.tmp 104)) none [0,1]]
def l5r32:List AOper :=
  [.mk (some 6) (.mv (.const (.bool false))) none []]
def l5r33:List AOper :=
  [.mk (some 6) (.mv (.const (.bool true))) none []]
def l5:AFn :=
  (AFn.mk 106 3 (.seq (.reg l5r0) (.seq (.reg l5r1) (.seq (.reg l5r2) (.seq (.seq (.reg l5r3) (.cond (.tmp 22) (.seq (.reg l5r4) .ret) .skip)) (.seq (.reg l5r5) (.seq (.reg l5r6) (.seq (.reg l5r7) (.seq (.seq (.reg l5r8) (.cond (.tmp 48) (.seq (.reg l5r9) .ret) .skip)) (.seq (.seq (.draw l5r10) (.cond (.tmp 53) (.seq (.reg l5r11) .ret) .skip)) (.seq (.reg l5r12) (.seq (.reg l5r13) (.seq (.seq (.reg l5r14) (.cond (.tmp 69) (.seq (.reg l5r15) .ret) .skip)) (.seq (.reg l5r16) (.seq (.reg l5r17) (.seq (.reg l5r18) (.seq (.reg l5r19) (.seq (.seq (.reg l5r20) (.cond (.tmp 77) (.seq (.reg l5r21) .ret) .skip)) (.seq (.seq (.reg l5r22) (.cond (.tmp 80) (.seq (.reg l5r23) .ret) .skip)) (.seq (.reg l5r24) (.seq (.seq (.reg l5r25) (.cond (.tmp 97) (.seq (.reg l5r26) .ret) .skip)) (.seq (.reg l5r27) (.seq (.reg l5r28) (.seq (.seq (.reg l5r29) (.cond (.tmp 102) (.seq (.reg l5r30) .ret) .skip)) (.seq (.seq (.reg l5r31) (.cond (.tmp 105) (.seq (.reg l5r32) .ret) .skip)) (.seq (.reg l5r33) .ret))))))))))))))))))))))))) [.tmp 6])
theorem l5_eq:lowFn Tryd.prog 5=some l5:=by kernel_rfl
def l8r0:List AOper :=
  [.mk (some 2) (.box (.tmp 0)) none [],.mk (some 4) (.mv (.const (.int .i64 0))) none []]
def l8r1:List AOper :=
  [.mk (some 5) (.fld 0 (.tmp 2)) none [],.mk (some 6) (.load false 1 (.tmp 5)) none [0],.mk (some 7) (.mv (.tmp 1)) none [],.mk (some 8) (.call 27 [.tmp 6,.tmp 7]) none [1,2],.mk (some 1) (.mv (.tmp 8)) none [3,3,0,1,2,3]]
def l8r2:List AOper :=
  [.mk (some 9) (.mv (.tmp 1)) none [],.mk (some 10) (.bin .lss (.tmp 9) (.const (.int .i64 0))) none [0]]
def l8r3:List AOper :=
  [.mk (some 4) (.mv (.const (.int .i64 (-1)))) none []]
def l8r4:List AOper :=
  [.mk (some 11) (.fld 1 (.tmp 2)) none [],.mk (some 12) (.load false 1 (.tmp 11)) none [0],.mk (some 13) (.mv (.tmp 1)) none [],.mk (some 14) (.call 28 [.tmp 12,.tmp 13]) none [1,2],.mk (some 1) (.mv (.tmp 14)) none [3,3,0,1,2,3]]
def l8r5:List AOper :=
  [.mk (some 15) (.mv (.tmp 1)) none [],.mk (some 16) (.bin .lss (.tmp 15) (.const (.int .i64 0))) none [0]]
def l8r6:List AOper :=
  [.mk (some 4) (.mv (.const (.int .i64 (-1)))) none []]
def l8r7:List AOper :=
  [.mk (some 17) (.mv (.tmp 1)) none [],.mk (some 4) (.mv (.tmp 17)) none [0,0]]
def l8:AFn :=
  (AFn.mk 18 2 (.seq (.reg l8r0) (.seq (.reg l8r1) (.seq (.seq (.reg l8r2) (.cond (.tmp 10) (.seq (.reg l8r3) .ret) .skip)) (.seq (.reg l8r4) (.seq (.seq (.reg l8r5) (.cond (.tmp 16) (.seq (.reg l8r6) .ret) .skip)) (.seq (.reg l8r7) .ret)))))) [.tmp 4])
theorem l8_eq:lowFn Tryd.prog 8=some l8:=by kernel_rfl
def l10r0:List AOper :=
  [.mk (some 1) (.box (.tmp 0)) none [],.mk (some 2) (.alloc [.slice none 0 0,.slice none 0 0]) none []]
def l10r1:List AOper :=
  [.mk (some 3) (.alloc [.slice none 0 0,.slice none 0 0]) none []]
def l10r2:List AOper :=
  [.mk (some 4) (.fld 0 (.tmp 1)) none [],.mk (some 5) (.load false 1 (.tmp 4)) none [0],.mk (some 6) (.call 33 [.tmp 5]) none [1],.mk (some 7) (.fld 0 (.tmp 3)) none [0,1,2],.mk none (.store 1 (.tmp 7) (.tmp 6)) none [3,2,2,0,1,2]]
def l10r3:List AOper :=
  [.mk (some 8) (.fld 1 (.tmp 1)) none [],.mk (some 9) (.load false 1 (.tmp 8)) none [0],.mk (some 10) (.call 34 [.tmp 9]) none [1],.mk (some 11) (.fld 1 (.tmp 3)) none [0,1,2],.mk none (.store 1 (.tmp 11) (.tmp 10)) none [3,2,2,0,1,2]]
def l10r4:List AOper :=
  [.mk (some 12) (.load true 2 (.tmp 3)) none [],.mk none (.store 2 (.tmp 2) (.tmp 12)) none [0,0]]
def l10:AFn :=
  (AFn.mk 13 1 (.seq (.reg l10r0) (.seq (.reg l10r1) (.seq (.reg l10r2) (.seq (.reg l10r3) (.seq (.reg l10r4) .ret))))) [.cell 2 true 2])
theorem l10_eq:lowFn Tryd.prog 10=some l10:=by kernel_rfl
def l12r0:List AOper :=
  [.mk (some 2) (.box (.tmp 0)) none [],.mk (some 3) (.box (.tmp 1)) none [],.mk (some 4) (.mv (.const (.bool false))) none []]
def l12r1:List AOper :=
  [.mk (some 5) (.fld 0 (.tmp 2)) none [],.mk (some 6) (.load false 1 (.tmp 5)) none [0],.mk (some 7) (.fld 0 (.tmp 3)) none [],.mk (some 8) (.load false 1 (.tmp 7)) none [2],.mk (some 9) (.call 40 [.tmp 6,.tmp 8]) none [1,3],.mk (some 10) (.un .not (.tmp 9)) none [4]]
def l12r2:List AOper :=
  [.mk (some 4) (.mv (.const (.bool false))) none []]
def l12r3:List AOper :=
  [.mk (some 11) (.fld 1 (.tmp 2)) none [],.mk (some 12) (.load false 1 (.tmp 11)) none [0],.mk (some 13) (.fld 1 (.tmp 3)) none [],.mk (some 14) (.load false 1 (.tmp 13)) none [2],.mk (some 15) (.call 41 [.tmp 12,.tmp 14]) none [1,3],.mk (some 16) (.un .not (.tmp 15)) none [4]]
def l12r4:List AOper :=
  [.mk (some 4) (.mv (.const (.bool false))) none []]
def l12r5:List AOper :=
  [.mk (some 4) (.mv (.const (.bool true))) none []]
def l12:AFn :=
  (AFn.mk 17 2 (.seq (.reg l12r0) (.seq (.seq (.reg l12r1) (.cond (.tmp 10) (.seq (.reg l12r2) .ret) .skip)) (.seq (.seq (.reg l12r3) (.cond (.tmp 16) (.seq (.reg l12r4) .ret) .skip)) (.seq (.reg l12r5) .ret)))) [.tmp 4])
theorem l12_eq:lowFn Tryd.prog 12=some l12:=by kernel_rfl
def l13r0:List AOper :=
  [.mk (some 2) (.box (.tmp 0)) none [],.mk (some 4) (.mv (.const (.int .i64 0))) none []]
def l13r1:List AOper :=
  [.mk (some 5) (.fld 0 (.tmp 2)) none [],.mk (some 6) (.load false 1 (.tmp 5)) none [0],.mk (some 7) (.mv (.tmp 1)) none [],.mk (some 8) (.call 42 [.tmp 6,.tmp 7]) none [1,2],.mk (some 1) (.mv (.tmp 8)) none [3,3,0,1,2,3]]
def l13r2:List AOper :=
  [.mk (some 9) (.fld 1 (.tmp 2)) none [],.mk (some 10) (.load false 1 (.tmp 9)) none [0],.mk (some 11) (.mv (.tmp 1)) none [],.mk (some 12) (.call 43 [.tmp 10,.tmp 11]) none [1,2],.mk (some 1) (.mv (.tmp 12)) none [3,3,0,1,2,3]]
def l13r3:List AOper :=
  [.mk (some 13) (.mv (.tmp 1)) none [],.mk (some 4) (.mv (.tmp 13)) none [0,0]]
def l13:AFn :=
  (AFn.mk 14 2 (.seq (.reg l13r0) (.seq (.reg l13r1) (.seq (.reg l13r2) (.seq (.reg l13r3) .ret)))) [.tmp 4])
theorem l13_eq:lowFn Tryd.prog 13=some l13:=by kernel_rfl
def l14r0:List AOper :=
  [.mk (some 2) (.box (.tmp 0)) none [],.mk (some 4) (.mv (.const (.int .i64 0))) none []]
def l14r1:List AOper :=
  [.mk (some 5) (.fld 0 (.tmp 2)) none [],.mk (some 6) (.load false 1 (.tmp 5)) none [0],.mk (some 7) (.mv (.tmp 1)) none [],.mk (some 8) (.call 44 [.tmp 6,.tmp 7]) none [1,2],.mk (some 1) (.mv (.tmp 8)) none [3,3,0,1,2,3]]
def l14r2:List AOper :=
  [.mk (some 9) (.mv (.tmp 1)) none [],.mk (some 10) (.bin .lss (.tmp 9) (.const (.int .i64 0))) none [0]]
def l14r3:List AOper :=
  [.mk (some 4) (.mv (.const (.int .i64 (-1)))) none []]
def l14r4:List AOper :=
  [.mk (some 11) (.fld 1 (.tmp 2)) none [],.mk (some 12) (.load false 1 (.tmp 11)) none [0],.mk (some 13) (.mv (.tmp 1)) none [],.mk (some 14) (.call 45 [.tmp 12,.tmp 13]) none [1,2],.mk (some 1) (.mv (.tmp 14)) none [3,3,0,1,2,3]]
def l14r5:List AOper :=
  [.mk (some 15) (.mv (.tmp 1)) none [],.mk (some 16) (.bin .lss (.tmp 15) (.const (.int .i64 0))) none [0]]
def l14r6:List AOper :=
  [.mk (some 4) (.mv (.const (.int .i64 (-1)))) none []]
def l14r7:List AOper :=
  [.mk (some 17) (.mv (.tmp 1)) none [],.mk (some 4) (.mv (.tmp 17)) none [0,0]]
def l14:AFn :=
  (AFn.mk 18 2 (.seq (.reg l14r0) (.seq (.reg l14r1) (.seq (.seq (.reg l14r2) (.cond (.tmp 10) (.seq (.reg l14r3) .ret) .skip)) (.seq (.reg l14r4) (.seq (.seq (.reg l14r5) (.cond (.tmp 16) (.seq (.reg l14r6) .ret) .skip)) (.seq (.reg l14r7) .ret)))))) [.tmp 4])
theorem l14_eq:lowFn Tryd.prog 14=some l14:=by kernel_rfl
def l17r0:List AOper :=
  [.mk (some 3) (.box (.tmp 0)) none [],.mk (some 6) (.alloc [.slice none 0 0,.slice none 0 0]) none [],.mk (some 7) (.mv (.const (.bool false))) none []]
def l17r1:List AOper :=
  [.mk (some 11) (.load true 2 (.tmp 3)) none [],.mk (some 12) (.call 29 [.tmp 11]) none [0],.mk (some 13) (.un .not (.tmp 12)) none [1],.mk (some 14) (.mv (.tmp 13)) none [2,1],.mk (some 15) (.load true 2 (.tmp 3)) (some (14,false)) [3],.mk (some 16) (.mv (.tmp 1)) (some (14,false)) [3],.mk (some 17) (.call 30 [.tmp 15,.tmp 16]) (some (14,false)) [4,5,3,3],.mk (some 18) (.un .not (.tmp 17)) (some (14,false)) [6,3],.mk (some 19) (.pick (.tmp 14) (.const (.bool true)) (.tmp 18)) none [3,7],.mk (some 20) (.mv (.tmp 19)) none [8,6],.mk (some 21) (.load true 2 (.tmp 3)) (some (20,false)) [9],.mk (some 22) (.mv (.tmp 2)) (some (20,false)) [9],.mk (some 23) (.call 30 [.tmp 21,.tmp 22]) (some (20,false)) [10,11,9,9],.mk (some 24) (.un .not (.tmp 23)) (some (20,false)) [12,9],.mk (some 25) (.pick (.tmp 20) (.const (.bool true)) (.tmp 24)) none [9,13]]
def l17r2:List AOper :=
  [.mk (some 26) (.build [.slice none 0 0,.slice none 0 0] []) none [],.mk none (.store 2 (.tmp 6) (.tmp 26)) none [0,0],.mk (some 7) (.mv (.const (.bool false))) none [1,0,1]]
def l17r3a:List AOper :=
  [.mk (some 28) (.fld 0 (.tmp 3)) none [],.mk (some 29) (.load false 1 (.tmp 28)) none [0],.mk (some 30) (.fld 1 (.tmp 3)) none [],.mk (some 31) (.load false 1 (.tmp 30)) none [2],.mk (some 32) (.mv (.tmp 1)) none [],.mk (some 33) (.idxA 5 (.tmp 31) (.tmp 32)) none [3,4],.mk (some 34) (.fld 1 (.tmp 33)) none [5],.mk (some 35) (.load true 3 (.tmp 34)) none [6],.mk (some 36) (.fld 1 (.tmp 3)) none [],.mk (some 37) (.load false 1 (.tmp 36)) none [8],.mk (some 38) (.mv (.tmp 2)) none [],.mk (some 39) (.idxA 5 (.tmp 37) (.tmp 38)) none [9,10],.mk (some 40) (.fld 1 (.tmp 39)) none [11],.mk (some 41) (.load true 3 (.tmp 40)) none [12],.mk (some 42) (.call 50 [.tmp 29,.tmp 35,.tmp 41]) none [1,7,13],.mk (some 27) (.mv (.tmp 42)) none [14],.mk (some 43) (.extract (.tmp 27) 0) none [15],.mk (some 44) (.extract (.tmp 27) 1) none [15],.mk (some 8) (.mv (.tmp 43)) none [16,14,0,1,2,3,4,5,6,7,8,9,10,11,12,13,14,15,16]]
def l17r3b:List AOper :=
  [.mk (some 9) (.mv (.tmp 44)) none [17,18,0,1,2,3,4,5,6,7,8,9,10,11,12,13,14,15,16,17,18]]
def l17r3:List AOper:=l17r3a ++ l17r3b
def l17r4:List AOper :=
  [.mk (some 45) (.mv (.tmp 9)) none [],.mk (some 46) (.un .not (.tmp 45)) none [0]]
def l17r5:List AOper :=
  [.mk (some 47) (.build [.slice none 0 0,.slice none 0 0] []) none [],.mk none (.store 2 (.tmp 6) (.tmp 47)) none [0,0],.mk (some 7) (.mv (.const (.bool false))) none [1,0,1]]
def l17r6:List AOper :=
  [.mk (some 48) (.load true 2 (.tmp 3)) none [],.mk (some 49) (.call 32 [.tmp 48]) none [0],.mk (some 10) (.alloc [.slice none 0 0,.slice none 0 0]) none [],.mk none (.store 2 (.tmp 10) (.tmp 49)) none [2,1,1,0,1,2]]
def l17r7:List AOper :=
  [.mk (some 50) (.mv (.tmp 8)) none [],.mk (some 51) (.fld 0 (.tmp 10)) none [0],.mk none (.store 1 (.tmp 51) (.tmp 50)) none [1,0,0]]
def l17r8:List AOper :=
  [.mk (some 52) (.load true 2 (.tmp 10)) none [],.mk none (.store 2 (.tmp 6) (.tmp 52)) none [0,0],.mk (some 7) (.mv (.const (.bool true))) none [1,0,1]]
def l17:AFn :=
  (AFn.mk 53 3 (.seq (.reg l17r0) (.seq (.seq (.reg l17r1) (.cond (.tmp 25) (.seq (.reg l17r2) .ret) .skip)) (.seq (.draw l17r3) (.seq (.seq (.reg l17r4) (.cond (.tmp 46) (.seq (.reg l17r5) .ret) .skip)) (.seq (.reg l17r6) (.seq (.reg l17r7) (.seq (.reg l17r8) .ret))))))) [.cell 6 true 2,.tmp 7])
theorem l17_eq:lowFn Tryd.prog 17=some l17:=by kernel_rfl
def l18r0:List AOper :=
  [.mk (some 3) (.box (.tmp 0)) none [],.mk (some 6) (.alloc [.slice none 0 0,.slice none 0 0]) none [],.mk (some 7) (.mv (.const (.bool false))) none []]
def l18r1:List AOper :=
  [.mk (some 8) (.load true 2 (.tmp 3)) none [],.mk (some 9) (.mv (.tmp 1)) none [],.mk (some 10) (.call 35 [.tmp 8,.tmp 9]) none [0,1],.mk (some 11) (.un .not (.tmp 10)) none [2],.mk (some 12) (.mv (.tmp 11)) none [3,2],.mk (some 13) (.load true 2 (.tmp 3)) (some (12,false)) [4],.mk (some 14) (.mv (.tmp 2)) (some (12,false)) [4],.mk (some 15) (.call 35 [.tmp 13,.tmp 14]) (some (12,false)) [5,6,4,4],.mk (some 16) (.un .not (.tmp 15)) (some (12,false)) [7,4],.mk (some 17) (.pick (.tmp 12) (.const (.bool true)) (.tmp 16)) none [4,8]]
def l18r2:List AOper :=
  [.mk (some 18) (.build [.slice none 0 0,.slice none 0 0] []) none [],.mk none (.store 2 (.tmp 6) (.tmp 18)) none [0,0],.mk (some 7) (.mv (.const (.bool false))) none [1,0,1]]
def l18r3a:List AOper :=
  [.mk (some 19) (.load true 2 (.tmp 3)) none [],.mk (some 20) (.fld 0 (.tmp 3)) none [],.mk (some 21) (.load false 1 (.tmp 20)) none [1],.mk (some 22) (.fld 1 (.tmp 3)) none [],.mk (some 23) (.load false 1 (.tmp 22)) none [3],.mk (some 24) (.mv (.tmp 1)) none [],.mk (some 25) (.idxA 5 (.tmp 23) (.tmp 24)) none [4,5],.mk (some 26) (.fld 1 (.tmp 25)) none [6],.mk (some 27) (.load true 3 (.tmp 26)) none [7],.mk (some 28) (.fld 1 (.tmp 3)) none [],.mk (some 29) (.load false 1 (.tmp 28)) none [9],.mk (some 30) (.mv (.tmp 2)) none [],.mk (some 31) (.idxA 5 (.tmp 29) (.tmp 30)) none [10,11],.mk (some 32) (.fld 1 (.tmp 31)) none [12],.mk (some 33) (.load true 3 (.tmp 32)) none [13],.mk (some 34) (.call 51 [.tmp 21,.tmp 27,.tmp 33]) none [2,8,14],.mk (some 35) (.extract (.tmp 34) 0) none [15],.mk (some 36) (.extract (.tmp 34) 1) none [15],.mk (some 37) (.call 48 [.tmp 19,.tmp 35,.tmp 36]) none [0,16,17,15],.mk (some 38) (.extract (.tmp 37) 0) none [18],.mk (some 39) (.extract (.tmp 37) 1) none [18]]
def l18r3b:List AOper :=
  [.mk none (.store 2 (.tmp 6) (.tmp 38)) none [19,18,0,1,2,3,4,5,6,7,8,9,10,11,12,13,14,15,16,17,18,19,20],.mk (some 7) (.mv (.tmp 39)) none [20,21,0,1,2,3,4,5,6,7,8,9,10,11,12,13,14,15,16,17,18,19,20,21]]
def l18r3:List AOper:=l18r3a ++ l18r3b
def l18:AFn :=
  (AFn.mk 40 3 (.seq (.reg l18r0) (.seq (.seq (.reg l18r1) (.cond (.tmp 17) (.seq (.reg l18r2) .ret) .skip)) (.seq (.draw l18r3) .ret))) [.cell 6 true 2,.tmp 7])
theorem l18_eq:lowFn Tryd.prog 18=some l18:=by kernel_rfl
def l21r0:List AOper :=
  [.mk (some 2) (.box (.tmp 0)) none [],.mk (some 4) (.mv (.const (.int .i64 0))) none []]
def l21r1:List AOper :=
  [.mk (some 5) (.fld 1 (.tmp 2)) none [],.mk (some 6) (.load false 1 (.tmp 5)) none [0],.mk (some 7) (.mv (.tmp 1)) none [],.mk (some 8) (.call 27 [.tmp 6,.tmp 7]) none [1,2],.mk (some 1) (.mv (.tmp 8)) none [3,3,0,1,2,3]]
def l21r2:List AOper :=
  [.mk (some 9) (.mv (.tmp 1)) none [],.mk (some 10) (.bin .lss (.tmp 9) (.const (.int .i64 0))) none [0]]
def l21r3:List AOper :=
  [.mk (some 4) (.mv (.const (.int .i64 (-1)))) none []]
def l21r4:List AOper :=
  [.mk (some 11) (.fld 2 (.tmp 2)) none [],.mk (some 12) (.load false 1 (.tmp 11)) none [0],.mk (some 13) (.mv (.tmp 1)) none [],.mk (some 14) (.call 27 [.tmp 12,.tmp 13]) none [1,2],.mk (some 1) (.mv (.tmp 14)) none [3,3,0,1,2,3]]
def l21r5:List AOper :=
  [.mk (some 15) (.mv (.tmp 1)) none [],.mk (some 16) (.bin .lss (.tmp 15) (.const (.int .i64 0))) none [0]]
def l21r6:List AOper :=
  [.mk (some 4) (.mv (.const (.int .i64 (-1)))) none []]
def l21r7:List AOper :=
  [.mk (some 17) (.mv (.tmp 1)) none [],.mk (some 4) (.mv (.tmp 17)) none [0,0]]
def l21:AFn :=
  (AFn.mk 18 2 (.seq (.reg l21r0) (.seq (.reg l21r1) (.seq (.seq (.reg l21r2) (.cond (.tmp 10) (.seq (.reg l21r3) .ret) .skip)) (.seq (.reg l21r4) (.seq (.seq (.reg l21r5) (.cond (.tmp 16) (.seq (.reg l21r6) .ret) .skip)) (.seq (.reg l21r7) .ret)))))) [.tmp 4])
theorem l21_eq:lowFn Tryd.prog 21=some l21:=by kernel_rfl
def l23r0:List AOper :=
  [.mk (some 1) (.box (.tmp 0)) none [],.mk (some 2) (.alloc [.int .i64 0,.slice none 0 0,.slice none 0 0]) none []]
def l23r1:List AOper :=
  [.mk (some 3) (.alloc [.int .i64 0,.slice none 0 0,.slice none 0 0]) none []]
def l23r2:List AOper :=
  [.mk (some 4) (.fld 0 (.tmp 1)) none [],.mk (some 5) (.load false 1 (.tmp 4)) none [0],.mk (some 6) (.fld 0 (.tmp 3)) none [0,1],.mk none (.store 1 (.tmp 6) (.tmp 5)) none [2,1,0,1]]
def l23r3:List AOper :=
  [.mk (some 7) (.fld 1 (.tmp 1)) none [],.mk (some 8) (.load false 1 (.tmp 7)) none [0],.mk (some 9) (.call 33 [.tmp 8]) none [1],.mk (some 10) (.fld 1 (.tmp 3)) none [0,1,2],.mk none (.store 1 (.tmp 10) (.tmp 9)) none [3,2,2,0,1,2]]
def l23r4:List AOper :=
  [.mk (some 11) (.fld 2 (.tmp 1)) none [],.mk (some 12) (.load false 1 (.tmp 11)) none [0],.mk (some 13) (.call 33 [.tmp 12]) none [1],.mk (some 14) (.fld 2 (.tmp 3)) none [0,1,2],.mk none (.store 1 (.tmp 14) (.tmp 13)) none [3,2,2,0,1,2]]
def l23r5:List AOper :=
  [.mk (some 15) (.load true 3 (.tmp 3)) none [],.mk none (.store 3 (.tmp 2) (.tmp 15)) none [0,0]]
def l23:AFn :=
  (AFn.mk 16 1 (.seq (.reg l23r0) (.seq (.reg l23r1) (.seq (.reg l23r2) (.seq (.reg l23r3) (.seq (.reg l23r4) (.seq (.reg l23r5) .ret)))))) [.cell 2 true 3])
theorem l23_eq:lowFn Tryd.prog 23=some l23:=by kernel_rfl
def l25r0:List AOper :=
  [.mk (some 2) (.box (.tmp 0)) none [],.mk (some 3) (.box (.tmp 1)) none [],.mk (some 4) (.mv (.const (.bool false))) none []]
def l25r1:List AOper :=
  [.mk (some 5) (.fld 0 (.tmp 2)) none [],.mk (some 6) (.load false 1 (.tmp 5)) none [0],.mk (some 7) (.fld 0 (.tmp 3)) none [],.mk (some 8) (.load false 1 (.tmp 7)) none [2],.mk (some 9) (.bin .neq (.tmp 6) (.tmp 8)) none [1,3]]
def l25r2:List AOper :=
  [.mk (some 4) (.mv (.const (.bool false))) none []]
def l25r3:List AOper :=
  [.mk (some 10) (.fld 1 (.tmp 2)) none [],.mk (some 11) (.load false 1 (.tmp 10)) none [0],.mk (some 12) (.fld 1 (.tmp 3)) none [],.mk (some 13) (.load false 1 (.tmp 12)) none [2],.mk (some 14) (.call 40 [.tmp 11,.tmp 13]) none [1,3],.mk (some 15) (.un .not (.tmp 14)) none [4]]
def l25r4:List AOper :=
  [.mk (some 4) (.mv (.const (.bool false))) none []]
def l25r5:List AOper :=
  [.mk (some 16) (.fld 2 (.tmp 2)) none [],.mk (some 17) (.load false 1 (.tmp 16)) none [0],.mk (some 18) (.fld 2 (.tmp 3)) none [],.mk (some 19) (.load false 1 (.tmp 18)) none [2],.mk (some 20) (.call 40 [.tmp 17,.tmp 19]) none [1,3],.mk (some 21) (.un .not (.tmp 20)) none [4]]
def l25r6:List AOper :=
  [.mk (some 4) (.mv (.const (.bool false))) none []]
def l25r7:List AOper :=
  [.mk (some 4) (.mv (.const (.bool true))) none []]
def l25:AFn :=
  (AFn.mk 22 2 (.seq (.reg l25r0) (.seq (.seq (.reg l25r1) (.cond (.tmp 9) (.seq (.reg l25r2) .ret) .skip)) (.seq (.seq (.reg l25r3) (.cond (.tmp 15) (.seq (.reg l25r4) .ret) .skip)) (.seq (.seq (.reg l25r5) (.cond (.tmp 21) (.seq (.reg l25r6) .ret) .skip)) (.seq (.reg l25r7) .ret))))) [.tmp 4])
theorem l25_eq:lowFn Tryd.prog 25=some l25:=by kernel_rfl
def l27r0:List AOper :=
  [.mk (some 4) (.mv (.const (.int .i64 0))) none []]
def l27r1:List AOper :=
  [.mk (some 5) (.mv (.tmp 1)) none [],.mk (some 6) (.mv (.tmp 0)) none [],.mk (some 7) (.len (.tmp 6)) none [1],.mk (some 8) (.bin .sub (.tmp 5) (.tmp 7)) none [0,2],.mk (some 1) (.mv (.tmp 8)) none [3,0,1,2,3]]
def l27r2:List AOper :=
  [.mk (some 9) (.mv (.tmp 1)) none [],.mk (some 10) (.bin .lss (.tmp 9) (.const (.int .i64 0))) none [0]]
def l27r3:List AOper :=
  [.mk (some 4) (.mv (.const (.int .i64 (-1)))) none []]
def l27r4:List AOper :=
  [.mk (some 11) (.mv (.tmp 1)) none [],.mk (some 4) (.mv (.tmp 11)) none [0,0]]
def l27:AFn :=
  (AFn.mk 12 2 (.seq (.reg l27r0) (.seq (.reg l27r1) (.seq (.seq (.reg l27r2) (.cond (.tmp 10) (.seq (.reg l27r3) .ret) .skip)) (.seq (.reg l27r4) .ret)))) [.tmp 4])
theorem l27_eq:lowFn Tryd.prog 27=some l27:=by kernel_rfl
def l28r0:List AOper :=
  [.mk (some 4) (.mv (.const (.int .i64 0))) none []]
def l28r1:List AOper :=
  [.mk (some 6) (.mv (.tmp 1)) none [],.mk (some 7) (.mv (.tmp 0)) none [],.mk (some 8) (.len (.tmp 7)) none [1],.mk (some 9) (.bin .sub (.tmp 6) (.tmp 8)) none [0,2],.mk (some 1) (.mv (.tmp 9)) none [3,0,1,2,3]]
def l28r2:List AOper :=
  [.mk (some 10) (.mv (.tmp 1)) none [],.mk (some 11) (.bin .lss (.tmp 10) (.const (.int .i64 0))) none [0]]
def l28r3:List AOper :=
  [.mk (some 4) (.mv (.const (.int .i64 (-1)))) none []]
def l28r4:List AOper :=
  [.mk (some 5) (.mv (.const (.int .i64 0))) none []]
def l28r5:List AOper :=
  [.mk (some 12) (.mv (.tmp 5)) none [],.mk (some 13) (.mv (.tmp 0)) none [],.mk (some 14) (.len (.tmp 13)) none [1],.mk (some 15) (.bin .lss (.tmp 12) (.tmp 14)) none [0,2]]
def l28r6:List AOper :=
  [.mk (some 18) (.mv (.tmp 0)) none [],.mk (some 19) (.mv (.tmp 5)) none [],.mk (some 20) (.idxA 5 (.tmp 18) (.tmp 19)) none [0,1],.mk (some 21) (.load true 5 (.tmp 20)) none [2],.mk (some 22) (.mv (.tmp 1)) none [],.mk (some 23) (.call 60 [.tmp 21,.tmp 22]) none [3,4],.mk (some 1) (.mv (.tmp 23)) none [5,5,0,1,2,3,4,5]]
def l28r7:List AOper :=
  [.mk (some 24) (.mv (.tmp 1)) none [],.mk (some 25) (.bin .lss (.tmp 24) (.const (.int .i64 0))) none [0]]
def l28r8:List AOper :=
  [.mk (some 4) (.mv (.const (.int .i64 (-1)))) none []]
def l28r9:List AOper :=
  [.mk (some 16) (.mv (.tmp 5)) none [],.mk (some 17) (.bin .add (.tmp 16) (.const (.int .i64 1))) none [0],.mk (some 5) (.mv (.tmp 17)) none [1,0,1]]
def l28r10:List AOper :=
  [.mk (some 26) (.mv (.tmp 1)) none [],.mk (some 4) (.mv (.tmp 26)) none [0,0]]
def l28:AFn :=
  (AFn.mk 27 2 (.seq (.reg l28r0) (.seq (.reg l28r1) (.seq (.seq (.reg l28r2) (.cond (.tmp 11) (.seq (.reg l28r3) .ret) .skip)) (.seq (.seq (.reg l28r4) (.block 0 (.loop (.seq (.seq (.reg l28r5) (.cond (.tmp 15) .skip (.exit 0))) (.seq (.block 1 (.seq (.reg l28r6) (.seq (.reg l28r7) (.cond (.tmp 25) (.seq (.reg l28r8) .ret) .skip)))) (.reg l28r9)))))) (.seq (.reg l28r10) .ret))))) [.tmp 4])
theorem l28_eq:lowFn Tryd.prog 28=some l28:=by kernel_rfl
def l29r0:List AOper :=
  [.mk (some 1) (.box (.tmp 0)) none [],.mk (some 2) (.mv (.const (.bool false))) none []]
def l29r1:List AOper :=
  [.mk (some 3) (.mv (.const (.int .i64 0))) none []]
def l29r2:List AOper :=
  [.mk (some 4) (.mv (.tmp 3)) none [],.mk (some 5) (.fld 1 (.tmp 1)) none [],.mk (some 6) (.load false 1 (.tmp 5)) none [1],.mk (some 7) (.len (.tmp 6)) none [2],.mk (some 8) (.bin .lss (.tmp 4) (.tmp 7)) none [0,3]]
def l29r3:List AOper :=
  [.mk (some 11) (.load true 2 (.tmp 1)) none [],.mk (some 12) (.mv (.tmp 3)) none [],.mk (some 13) (.call 61 [.tmp 11,.tmp 12]) none [0,1],.mk (some 14) (.un .not (.tmp 13)) none [2]]
def l29r4:List AOper :=
  [.mk (some 2) (.mv (.const (.bool false))) none []]
def l29r5:List AOper :=
  [.mk (some 9) (.mv (.tmp 3)) none [],.mk (some 10) (.bin .add (.tmp 9) (.const (.int .i64 1))) none [0],.mk (some 3) (.mv (.tmp 10)) none [1,0,1]]
def l29r6:List AOper :=
  [.mk (some 15) (.fld 0 (.tmp 1)) none [],.mk (some 16) (.load false 1 (.tmp 15)) none [0],.mk (some 17) (.call 62 [.tmp 16]) none [1],.mk (some 18) (.mv (.tmp 17)) none [2,2],.mk (some 19) (.fld 1 (.tmp 1)) (some (18,true)) [3],.mk (some 20) (.load false 1 (.tmp 19)) (some (18,true)) [4,3],.mk (some 21) (.len (.tmp 20)) (some (18,true)) [5,3],.mk (some 22) (.bin .leq (.tmp 21) (.const (.int .i64 8))) (some (18,true)) [6,3],.mk (some 23) (.pick (.tmp 18) (.tmp 22) (.const (.bool false))) none [3,7],.mk (some 2) (.mv (.tmp 23)) none [8,3,0,1,2,3,4,5,6,7,8]]
def l29:AFn :=
  (AFn.mk 24 1 (.seq (.reg l29r0) (.seq (.seq (.reg l29r1) (.block 0 (.loop (.seq (.seq (.reg l29r2) (.cond (.tmp 8) .skip (.exit 0))) (.seq (.block 1 (.seq (.reg l29r3) (.cond (.tmp 14) (.seq (.reg l29r4) .ret) .skip))) (.reg l29r5)))))) (.seq (.reg l29r6) .ret))) [.tmp 2])
theorem l29_eq:lowFn Tryd.prog 29=some l29:=by kernel_rfl
def l30r0:List AOper :=
  [.mk (some 2) (.box (.tmp 0)) none [],.mk (some 4) (.mv (.const (.bool false))) none []]
def l30r1:List AOper :=
  [.mk (some 5) (.mv (.tmp 1)) none [],.mk (some 6) (.fld 1 (.tmp 2)) none [],.mk (some 7) (.load false 1 (.tmp 6)) none [1],.mk (some 8) (.len (.tmp 7)) none [2],.mk (some 9) (.bin .sub (.tmp 8) (.const (.int .i64 1))) none [3],.mk (some 10) (.call 46 [.tmp 5,.const (.int .i64 0),.tmp 9]) none [0,4],.mk (some 11) (.mv (.tmp 10)) none [5,5],.mk (some 12) (.fld 1 (.tmp 2)) (some (11,true)) [6],.mk (some 13) (.load false 1 (.tmp 12)) (some (11,true)) [7,6],.mk (some 14) (.mv (.tmp 1)) (some (11,true)) [6],.mk (some 15) (.idxA 5 (.tmp 13) (.tmp 14)) (some (11,true)) [8,9,6],.mk (some 16) (.fld 4 (.tmp 15)) (some (11,true)) [10,6],.mk (some 17) (.load false 1 (.tmp 16)) (some (11,true)) [11,6],.mk (some 18) (.pick (.tmp 11) (.tmp 17) (.const (.bool false))) none [6,12],.mk (some 4) (.mv (.tmp 18)) none [13,6,0,1,2,3,4,5,6,7,8,9,10,11,12,13]]
def l30:AFn :=
  (AFn.mk 19 2 (.seq (.reg l30r0) (.seq (.reg l30r1) .ret)) [.tmp 4])
theorem l30_eq:lowFn Tryd.prog 30=some l30:=by kernel_rfl
def l32r0:List AOper :=
  [.mk (some 1) (.box (.tmp 0)) none [],.mk (some 2) (.alloc [.slice none 0 0,.slice none 0 0]) none []]
def l32r1:List AOper :=
  [.mk (some 6) (.fld 0 (.tmp 1)) none [],.mk (some 7) (.load false 1 (.tmp 6)) none [0],.mk (some 8) (.call 63 [.tmp 7]) none [1],.mk (some 9) (.build [.slice none 0 0,.slice none 0 0] [(0,1,.tmp 8)]) none [2],.mk (some 3) (.alloc [.slice none 0 0,.slice none 0 0]) none [],.mk none (.store 2 (.tmp 3) (.tmp 9)) none [4,3,2,0,1,2,3,4]]
def l32r2:List AOper :=
  [.mk (some 4) (.mv (.const (.int .i64 0))) none []]
def l32r3:List AOper :=
  [.mk (some 10) (.mv (.tmp 4)) none [],.mk (some 11) (.fld 1 (.tmp 1)) none [],.mk (some 12) (.load false 1 (.tmp 11)) none [1],.mk (some 13) (.len (.tmp 12)) none [2],.mk (some 14) (.bin .lss (.tmp 10) (.tmp 13)) none [0,3]]
def l32r4:List AOper :=
  [.mk (some 17) (.fld 1 (.tmp 1)) none [],.mk (some 18) (.load false 1 (.tmp 17)) none [0],.mk (some 19) (.mv (.tmp 4)) none [],.mk (some 20) (.idxA 5 (.tmp 18) (.tmp 19)) none [1,2],.mk (some 21) (.load true 5 (.tmp 20)) none [3],.mk (some 5) (.alloc [.int .i64 0,.int .i64 0,.slice none 0 0,.slice none 0 0,.bool false]) none [],.mk none (.store 5 (.tmp 5) (.tmp 21)) none [5,4,0,1,2,3,4,5]]
def l32r5:List AOper :=
  [.mk (some 22) (.fld 1 (.tmp 5)) none [],.mk (some 23) (.load true 3 (.tmp 22)) none [0],.mk (some 24) (.call 64 [.tmp 23]) none [1],.mk (some 25) (.fld 1 (.tmp 5)) none [0,1,2],.mk none (.store 3 (.tmp 25) (.tmp 24)) none [3,2,2,0,1,2]]
def l32r6:List AOper :=
  [.mk (some 26) (.fld 1 (.tmp 3)) none [],.mk (some 27) (.load false 1 (.tmp 26)) none [0],.mk (some 28) (.load true 5 (.tmp 5)) none [],.mk (some 29) (.bslice 5 [.int .i64 0,.int .i64 0,.slice none 0 0,.slice none 0 0,.bool false] [(0,.tmp 28)] 1) none [2],.mk (some 30) (.append 5 (.tmp 27) (.tmp 29)) none [1,3],.mk (some 31) (.fld 1 (.tmp 3)) none [0,1,2,3,4],.mk none (.store 1 (.tmp 31) (.tmp 30)) none [5,4,4,0,1,2,3,4]]
def l32r7:List AOper :=
  [.mk (some 15) (.mv (.tmp 4)) none [],.mk (some 16) (.bin .add (.tmp 15) (.const (.int .i64 1))) none [0],.mk (some 4) (.mv (.tmp 16)) none [1,0,1]]
def l32r8:List AOper :=
  [.mk (some 32) (.load true 2 (.tmp 3)) none [],.mk none (.store 2 (.tmp 2) (.tmp 32)) none [0,0]]
def l32:AFn :=
  (AFn.mk 33 1 (.seq (.reg l32r0) (.seq (.reg l32r1) (.seq (.seq (.reg l32r2) (.block 0 (.loop (.seq (.seq (.reg l32r3) (.cond (.tmp 14) .skip (.exit 0))) (.seq (.block 1 (.seq (.reg l32r4) (.seq (.reg l32r5) (.reg l32r6)))) (.reg l32r7)))))) (.seq (.reg l32r8) .ret)))) [.cell 2 true 2])
theorem l32_eq:lowFn Tryd.prog 32=some l32:=by kernel_rfl
def l33r0:List AOper :=
  [.mk (some 2) (.mv (.const (.slice none 0 0))) none []]
def l33r1:List AOper :=
  [.mk (some 5) (.mv (.tmp 0)) none [],.mk (some 6) (.len (.tmp 5)) none [0],.mk (some 7) (.mkslice 1 [.int .i64 0] (.tmp 6) (.tmp 6)) none [1,1],.mk (some 3) (.mv (.tmp 7)) none [2,0,1,2]]
def l33r2:List AOper :=
  [.mk (some 4) (.mv (.const (.int .i64 0))) none []]
def l33r3:List AOper :=
  [.mk (some 8) (.mv (.tmp 4)) none [],.mk (some 9) (.mv (.tmp 0)) none [],.mk (some 10) (.len (.tmp 9)) none [1],.mk (some 11) (.bin .lss (.tmp 8) (.tmp 10)) none [0,2]]
def l33r4:List AOper :=
  [.mk (some 14) (.mv (.tmp 3)) none [],.mk (some 15) (.mv (.tmp 4)) none [],.mk (some 16) (.mv (.tmp 0)) none [],.mk (some 17) (.mv (.tmp 4)) none [],.mk (some 18) (.idxA 1 (.tmp 16) (.tmp 17)) none [2,3],.mk (some 19) (.load false 1 (.tmp 18)) none [4],.mk (some 20) (.idxA 1 (.tmp 14) (.tmp 15)) none [0,1,0,1,2,3,4,5],.mk none (.store 1 (.tmp 20) (.tmp 19)) none [6,5,0,1,2,3,4,5]]
def l33r5:List AOper :=
  [.mk (some 12) (.mv (.tmp 4)) none [],.mk (some 13) (.bin .add (.tmp 12) (.const (.int .i64 1))) none [0],.mk (some 4) (.mv (.tmp 13)) none [1,0,1]]
def l33r6:List AOper :=
  [.mk (some 21) (.mv (.tmp 3)) none [],.mk (some 2) (.mv (.tmp 21)) none [0,0]]
def l33:AFn :=
  (AFn.mk 22 1 (.seq (.reg l33r0) (.seq (.reg l33r1) (.seq (.seq (.reg l33r2) (.block 0 (.loop (.seq (.seq (.reg l33r3) (.cond (.tmp 11) .skip (.exit 0))) (.seq (.block 1 (.reg l33r4)) (.reg l33r5)))))) (.seq (.reg l33r6) .ret)))) [.tmp 2])
theorem l33_eq:lowFn Tryd.prog 33=some l33:=by kernel_rfl
def l34r0:List AOper :=
  [.mk (some 2) (.mv (.const (.slice none 0 0))) none []]
def l34r1:List AOper :=
  [.mk (some 5) (.mv (.tmp 0)) none [],.mk (some 6) (.len (.tmp 5)) none [0],.mk (some 7) (.mkslice 5 [.int .i64 0,.int .i64 0,.slice none 0 0,.slice none 0 0,.bool false] (.tmp 6) (.tmp 6)) none [1,1],.mk (some 3) (.mv (.tmp 7)) none [2,0,1,2]]
def l34r2:List AOper :=
  [.mk (some 4) (.mv (.const (.int .i64 0))) none []]
def l34r3:List AOper :=
  [.mk (some 8) (.mv (.tmp 4)) none [],.mk (some 9) (.mv (.tmp 0)) none [],.mk (some 10) (.len (.tmp 9)) none [1],.mk (some 11) (.bin .lss (.tmp 8) (.tmp 10)) none [0,2]]
def l34r4:List AOper :=
  [.mk (some 14) (.mv (.tmp 3)) none [],.mk (some 15) (.mv (.tmp 4)) none [],.mk (some 16) (.mv (.tmp 0)) none [],.mk (some 17) (.mv (.tmp 4)) none [],.mk (some 18) (.idxA 5 (.tmp 16) (.tmp 17)) none [2,3],.mk (some 19) (.load true 5 (.tmp 18)) none [4],.mk (some 20) (.call 65 [.tmp 19]) none [5],.mk (some 21) (.idxA 5 (.tmp 14) (.tmp 15)) none [0,1,0,1,2,3,4,5,6],.mk none (.store 5 (.tmp 21) (.tmp 20)) none [7,6,6,0,1,2,3,4,5,6]]
def l34r5:List AOper :=
  [.mk (some 12) (.mv (.tmp 4)) none [],.mk (some 13) (.bin .add (.tmp 12) (.const (.int .i64 1))) none [0],.mk (some 4) (.mv (.tmp 13)) none [1,0,1]]
def l34r6:List AOper :=
  [.mk (some 22) (.mv (.tmp 3)) none [],.mk (some 2) (.mv (.tmp 22)) none [0,0]]
def l34:AFn :=
  (AFn.mk 23 1 (.seq (.reg l34r0) (.seq (.reg l34r1) (.seq (.seq (.reg l34r2) (.block 0 (.loop (.seq (.seq (.reg l34r3) (.cond (.tmp 11) .skip (.exit 0))) (.seq (.block 1 (.reg l34r4)) (.reg l34r5)))))) (.seq (.reg l34r6) .ret)))) [.tmp 2])
theorem l34_eq:lowFn Tryd.prog 34=some l34:=by kernel_rfl
def l35r0:List AOper :=
  [.mk (some 2) (.box (.tmp 0)) none [],.mk (some 4) (.mv (.const (.bool false))) none []]
def l35r1:List AOper :=
  [.mk (some 5) (.load true 2 (.tmp 2)) none [],.mk (some 6) (.call 53 [.tmp 5]) none [0],.mk (some 7) (.mv (.tmp 6)) none [1,1],.mk (some 8) (.mv (.tmp 1)) (some (7,true)) [2],.mk (some 9) (.fld 1 (.tmp 2)) (some (7,true)) [2],.mk (some 10) (.load false 1 (.tmp 9)) (some (7,true)) [4,2],.mk (some 11) (.len (.tmp 10)) (some (7,true)) [5,2],.mk (some 12) (.bin .sub (.tmp 11) (.const (.int .i64 1))) (some (7,true)) [6,2],.mk (some 13) (.call 66 [.tmp 8,.tmp 12]) (some (7,true)) [3,7,2,2],.mk (some 14) (.pick (.tmp 7) (.tmp 13) (.const (.bool false))) none [2,8],.mk (some 15) (.mv (.tmp 14)) none [9,8],.mk (some 16) (.fld 1 (.tmp 2)) (some (15,true)) [10],.mk (some 17) (.load false 1 (.tmp 16)) (some (15,true)) [11,10],.mk (some 18) (.mv (.tmp 1)) (some (15,true)) [10],.mk (some 19) (.idxA 5 (.tmp 17) (.tmp 18)) (some (15,true)) [12,13,10],.mk (some 20) (.fld 4 (.tmp 19)) (some (15,true)) [14,10],.mk (some 21) (.load false 1 (.tmp 20)) (some (15,true)) [15,10],.mk (some 22) (.pick (.tmp 15) (.tmp 21) (.const (.bool false))) none [10,16],.mk (some 4) (.mv (.tmp 22)) none [17,10,0,1,2,3,4,5,6,7,8,9,10,11,12,13,14,15,16,17]]
def l35:AFn :=
  (AFn.mk 23 2 (.seq (.reg l35r0) (.seq (.reg l35r1) .ret)) [.tmp 4])
theorem l35_eq:lowFn Tryd.prog 35=some l35:=by kernel_rfl
def l36r0:List AOper :=
  [.mk (some 4) (.mv (.const (.bool false))) none []]
def l36r1:List AOper :=
  [.mk (some 6) (.mv (.tmp 0)) none [],.mk (some 7) (.bin .eql (.tmp 6) (.const .nilIface)) none [0],.mk (some 8) (.mv (.tmp 7)) none [1],.mk (some 9) (.mv (.tmp 1)) (some (8,false)) [2],.mk (some 10) (.bin .eql (.tmp 9) (.const .nilIface)) (some (8,false)) [3,2],.mk (some 11) (.pick (.tmp 8) (.const (.bool true)) (.tmp 10)) none [2,4]]
def l36r2:List AOper :=
  [.mk (some 12) (.mv (.tmp 0)) none [],.mk (some 13) (.mv (.tmp 1)) none [],.mk (some 14) (.bin .eql (.tmp 12) (.tmp 13)) none [0,1],.mk (some 4) (.mv (.tmp 14)) none [2,0,1,2]]
def l36r3:List AOper :=
  [.mk (some 15) (.mv (.tmp 1)) none [],.mk (some 16) (.raw (Op.call (Call.mk (Callee.value (.func 67)) (Array.mk [.tmp 15]) (Array.mk [20])))) none [0],.mk (some 17) (.raw (Op.call (Call.mk (Callee.invoke (.tmp 16) "Comparable") (Array.mk []) (Array.mk [])))) none [1,1],.mk (some 5) (.mv (.tmp 17)) none [2,2,0,1,2]]
def l36r4:List AOper :=
  [.mk (some 18) (.mv (.tmp 0)) none [],.mk (some 19) (.mv (.tmp 1)) none [],.mk (some 20) (.mv (.tmp 5)) none [],.mk (some 21) (.call 68 [.tmp 18,.tmp 19,.tmp 20]) none [0,1,2],.mk (some 4) (.mv (.tmp 21)) none [3,3,0,1,2,3]]
def l36:AFn :=
  (AFn.mk 22 2 (.seq (.reg l36r0) (.seq (.seq (.reg l36r1) (.cond (.tmp 11) (.seq (.reg l36r2) .ret) .skip)) (.seq (.reg l36r3) (.seq (.reg l36r4) .ret)))) [.tmp 4])
theorem l36_eq:lowFn Tryd.prog 36=some l36:=by kernel_rfl
def l37r0:List AOper :=
  [.mk (some 2) (.box (.tmp 0)) none [],.mk (some 4) (.mv (.const (.pointer none))) none []]
def l37r1:List AOper :=
  [.mk (some 10) (.build [.slice none 0 0] []) none [],.mk (some 11) (.box (.tmp 10)) none [0],.mk (some 5) (.mv (.tmp 11)) none [1,0,1]]
def l37r2:List AOper :=
  [.mk (some 6) (.mv (.const (.slice none 0 0))) none []]
def l37r3:List AOper :=
  [.mk (some 12) (.fld 1 (.tmp 2)) none [],.mk (some 13) (.load false 1 (.tmp 12)) none [0],.mk (some 14) (.len (.tmp 13)) none [1],.mk (some 15) (.mv (.const (.int .i64 0))) none []]
def l37r4:List AOper :=
  [.mk (some 16) (.bin .lss (.tmp 15) (.tmp 14)) none []]
def l37r5:List AOper :=
  [.mk (some 17) (.mv (.tmp 15)) none [],.mk (some 18) (.idxA 5 (.tmp 13) (.tmp 15)) none [],.mk (some 19) (.load true 5 (.tmp 18)) none [1],.mk (some 8) (.alloc [.int .i64 0,.int .i64 0,.slice none 0 0,.slice none 0 0,.bool false]) none [],.mk (some 7) (.mv (.tmp 17)) none [0,0,1,2,3],.mk none (.store 5 (.tmp 8) (.tmp 19)) none [3,2,4,0,1,2,3,4]]
def l37r6:List AOper :=
  [.mk (some 20) (.mv (.tmp 5)) none [],.mk (some 9) (.mv (.tmp 20)) none [0,0]]
def l37r7:List AOper :=
  [.mk (some 21) (.fld 0 (.tmp 8)) none [],.mk (some 22) (.load false 1 (.tmp 21)) none [0],.mk (some 23) (.bin .neq (.tmp 22) (.const (.int .i64 (-1)))) none [1]]
def l37r8:List AOper :=
  [.mk (some 24) (.mv (.tmp 6)) none [],.mk (some 25) (.fld 0 (.tmp 8)) none [],.mk (some 26) (.load false 1 (.tmp 25)) none [1],.mk (some 27) (.idxA 1 (.tmp 24) (.tmp 26)) none [0,2],.mk (some 28) (.load false 1 (.tmp 27)) none [3],.mk (some 9) (.mv (.tmp 28)) none [4,0,1,2,3,4]]
def l37r9:List AOper :=
  [.mk (some 29) (.mv (.tmp 6)) none [],.mk (some 30) (.mv (.tmp 9)) none [],.mk (some 31) (.mv (.tmp 7)) none [],.mk (some 32) (.fld 4 (.tmp 8)) none [],.mk (some 33) (.load false 1 (.tmp 32)) none [3],.mk (some 34) (.call 69 [.tmp 30,.tmp 31,.tmp 33]) none [1,2,4],.mk (some 35) (.bslice 1 [.pointer none] [(0,.tmp 34)] 1) none [5],.mk (some 36) (.append 1 (.tmp 29) (.tmp 35)) none [0,6,5],.mk (some 6) (.mv (.tmp 36)) none [7,7,0,1,2,3,4,5,6,7]]
def l37r10:List AOper :=
  [.mk (some 37) (.bin .add (.tmp 15) (.const (.int .i64 1))) none [],.mk (some 15) (.mv (.tmp 37)) none [0]]
def l37r11:List AOper :=
  [.mk (some 38) (.mv (.tmp 1)) none [],.mk (some 39) (.bin .eql (.tmp 38) (.const (.int .i64 (-1)))) none [0]]
def l37r12:List AOper :=
  [.mk (some 40) (.mv (.tmp 5)) none [],.mk (some 4) (.mv (.tmp 40)) none [0,0]]
def l37r13:List AOper :=
  [.mk (some 41) (.mv (.tmp 6)) none [],.mk (some 42) (.mv (.tmp 1)) none [],.mk (some 43) (.idxA 1 (.tmp 41) (.tmp 42)) none [0,1],.mk (some 44) (.load false 1 (.tmp 43)) none [2],.mk (some 4) (.mv (.tmp 44)) none [3,0,1,2,3]]
def l37:AFn :=
  (AFn.mk 45 2 (.seq (.reg l37r0) (.seq (.reg l37r1) (.seq (.reg l37r2) (.seq (.seq (.reg l37r3) (.block 0 (.loop (.seq (.reg l37r4) (.seq (.cond (.tmp 16) .skip (.exit 0)) (.seq (.block 1 (.seq (.reg l37r5) (.seq (.reg l37r6) (.seq (.seq (.reg l37r7) (.cond (.tmp 23) (.reg l37r8) .skip)) (.reg l37r9))))) (.reg l37r10))))))) (.seq (.seq (.reg l37r11) (.cond (.tmp 39) (.seq (.reg l37r12) .ret) .skip)) (.seq (.reg l37r13) .ret)))))) [.tmp 4])
theorem l37_eq:lowFn Tryd.prog 37=some l37:=by kernel_rfl
def l38r0:List AOper :=
  [.mk (some 2) (.mv (.const .nilIface)) none []]
def l38r1:List AOper :=
  [.mk (some 3) (.mv (.tmp 0)) none [],.mk (some 4) (.nilck (.tmp 3)) none [0],.mk (some 5) (.fld 0 (.tmp 4)) none [1],.mk (some 6) (.load false 1 (.tmp 5)) none [2],.mk (some 7) (.len (.tmp 6)) none [3],.mk (some 8) (.bin .gtr (.tmp 7) (.const (.int .i64 0))) none [4]]
def l38r2:List AOper :=
  [.mk (some 9) (.load false 1 (.global 0)) none [],.mk (some 2) (.mv (.tmp 9)) none [0,0]]
def l38r3:List AOper :=
  [.mk (some 2) (.mv (.const .nilIface)) none []]
def l38:AFn :=
  (AFn.mk 10 1 (.seq (.reg l38r0) (.seq (.seq (.reg l38r1) (.cond (.tmp 8) (.seq (.reg l38r2) .ret) .skip)) (.seq (.reg l38r3) .ret))) [.tmp 2])
theorem l38_eq:lowFn Tryd.prog 38=some l38:=by kernel_rfl
def l39r0:List AOper :=
  [.mk (some 1) (.box (.tmp 0)) none [],.mk (some 2) (.alloc [.slice none 0 0,.slice none 0 0]) none []]
def l39r1:List AOper :=
  [.mk (some 6) (.fld 0 (.tmp 1)) none [],.mk (some 7) (.load false 1 (.tmp 6)) none [0],.mk (some 8) (.call 70 [.tmp 7]) none [1],.mk (some 9) (.build [.slice none 0 0,.slice none 0 0] [(0,1,.tmp 8)]) none [2],.mk (some 3) (.alloc [.slice none 0 0,.slice none 0 0]) none [],.mk none (.store 2 (.tmp 3) (.tmp 9)) none [4,3,2,0,1,2,3,4]]
def l39r2:List AOper :=
  [.mk (some 10) (.fld 1 (.tmp 1)) none [],.mk (some 11) (.load false 1 (.tmp 10)) none [0],.mk (some 12) (.len (.tmp 11)) none [1],.mk (some 13) (.mv (.const (.int .i64 0))) none []]
def l39r3:List AOper :=
  [.mk (some 14) (.bin .lss (.tmp 13) (.tmp 12)) none []]
def l39r4:List AOper :=
  [.mk (some 15) (.idxA 5 (.tmp 11) (.tmp 13)) none [],.mk (some 16) (.load true 5 (.tmp 15)) none [0],.mk (some 5) (.alloc [.int .i64 0,.int .i64 0,.slice none 0 0,.slice none 0 0,.bool false]) none [],.mk none (.store 5 (.tmp 5) (.tmp 16)) none [2,1,0,1,2]]
def l39r5a:List AOper :=
  [.mk (some 17) (.fld 1 (.tmp 3)) none [],.mk (some 18) (.load false 1 (.tmp 17)) none [0],.mk (some 19) (.fld 0 (.tmp 5)) none [],.mk (some 20) (.load false 1 (.tmp 19)) none [2],.mk (some 21) (.fld 1 (.tmp 5)) none [],.mk (some 22) (.load true 3 (.tmp 21)) none [4],.mk (some 23) (.call 71 [.tmp 22]) none [5],.mk (some 24) (.fld 4 (.tmp 5)) none [],.mk (some 25) (.load false 1 (.tmp 24)) none [7],.mk (some 26) (.build [.int .i64 0,.int .i64 0,.slice none 0 0,.slice none 0 0,.bool false] [(0,1,.tmp 20),(1,3,.tmp 23),(4,1,.tmp 25)]) none [3,6,8],.mk (some 27) (.bslice 5 [.int .i64 0,.int .i64 0,.slice none 0 0,.slice none 0 0,.bool false] [(0,.tmp 26)] 1) none [9]]
def l39r5b:List AOper :=
  [.mk (some 28) (.append 5 (.tmp 18) (.tmp 27)) none [1,10,6],.mk (some 29) (.fld 1 (.tmp 3)) none [0,1,2,3,4,5,6,7,8,9,10,11],.mk none (.store 1 (.tmp 29) (.tmp 28)) none [12,11,11,0,1,2,3,4,5,6,7,8,9,10,11]]
def l39r5:List AOper:=l39r5a ++ l39r5b
def l39r6:List AOper :=
  [.mk (some 30) (.bin .add (.tmp 13) (.const (.int .i64 1))) none [],.mk (some 13) (.mv (.tmp 30)) none [0]]
def l39r7:List AOper :=
  [.mk (some 31) (.load true 2 (.tmp 3)) none [],.mk none (.store 2 (.tmp 2) (.tmp 31)) none [0,0]]
def l39:AFn :=
  (AFn.mk 32 1 (.seq (.reg l39r0) (.seq (.reg l39r1) (.seq (.seq (.reg l39r2) (.block 0 (.loop (.seq (.reg l39r3) (.seq (.cond (.tmp 14) .skip (.exit 0)) (.seq (.block 1 (.seq (.reg l39r4) (.draw l39r5))) (.reg l39r6))))))) (.seq (.reg l39r7) .ret)))) [.cell 2 true 2])
theorem l39_eq:lowFn Tryd.prog 39=some l39:=by kernel_rfl
def l40r0:List AOper :=
  [.mk (some 4) (.mv (.const (.bool false))) none []]
def l40r1:List AOper :=
  [.mk (some 6) (.mv (.tmp 0)) none [],.mk (some 7) (.len (.tmp 6)) none [0],.mk (some 8) (.mv (.tmp 1)) none [],.mk (some 9) (.len (.tmp 8)) none [2],.mk (some 10) (.bin .neq (.tmp 7) (.tmp 9)) none [1,3]]
def l40r2:List AOper :=
  [.mk (some 4) (.mv (.const (.bool false))) none []]
def l40r3:List AOper :=
  [.mk (some 5) (.mv (.const (.int .i64 0))) none []]
def l40r4:List AOper :=
  [.mk (some 11) (.mv (.tmp 5)) none [],.mk (some 12) (.mv (.tmp 0)) none [],.mk (some 13) (.len (.tmp 12)) none [1],.mk (some 14) (.bin .lss (.tmp 11) (.tmp 13)) none [0,2]]
def l40r5a:List AOper :=
  [.mk (some 17) (.mv (.tmp 0)) none [],.mk (some 18) (.mv (.tmp 5)) none [],.mk (some 19) (.idxA 1 (.tmp 17) (.tmp 18)) none [0,1],.mk (some 20) (.load false 1 (.tmp 19)) none [2],.mk (some 21) (.mv (.tmp 1)) none [],.mk (some 22) (.mv (.tmp 5)) none [],.mk (some 23) (.idxA 1 (.tmp 21) (.tmp 22)) none [4,5],.mk (some 24) (.load false 1 (.tmp 23)) none [6]]
def l40r5b:List AOper :=
  [.mk (some 25) (.bin .neq (.tmp 20) (.tmp 24)) none [3,7]]
def l40r5:List AOper:=l40r5a ++ l40r5b
def l40r6:List AOper :=
  [.mk (some 4) (.mv (.const (.bool false))) none []]
def l40r7:List AOper :=
  [.mk (some 15) (.mv (.tmp 5)) none [],.mk (some 16) (.bin .add (.tmp 15) (.const (.int .i64 1))) none [0],.mk (some 5) (.mv (.tmp 16)) none [1,0,1]]
def l40r8:List AOper :=
  [.mk (some 4) (.mv (.const (.bool true))) none []]
def l40:AFn :=
  (AFn.mk 26 2 (.seq (.reg l40r0) (.seq (.seq (.reg l40r1) (.cond (.tmp 10) (.seq (.reg l40r2) .ret) .skip)) (.seq (.seq (.reg l40r3) (.block 0 (.loop (.seq (.seq (.reg l40r4) (.cond (.tmp 14) .skip (.exit 0))) (.seq (.block 1 (.seq (.draw l40r5) (.cond (.tmp 25) (.seq (.reg l40r6) .ret) .skip))) (.reg l40r7)))))) (.seq (.reg l40r8) .ret)))) [.tmp 4])
theorem l40_eq:lowFn Tryd.prog 40=some l40:=by kernel_rfl
def l41r0:List AOper :=
  [.mk (some 4) (.mv (.const (.bool false))) none []]
def l41r1:List AOper :=
  [.mk (some 6) (.mv (.tmp 0)) none [],.mk (some 7) (.len (.tmp 6)) none [0],.mk (some 8) (.mv (.tmp 1)) none [],.mk (some 9) (.len (.tmp 8)) none [2],.mk (some 10) (.bin .neq (.tmp 7) (.tmp 9)) none [1,3]]
def l41r2:List AOper :=
  [.mk (some 4) (.mv (.const (.bool false))) none []]
def l41r3:List AOper :=
  [.mk (some 5) (.mv (.const (.int .i64 0))) none []]
def l41r4:List AOper :=
  [.mk (some 11) (.mv (.tmp 5)) none [],.mk (some 12) (.mv (.tmp 0)) none [],.mk (some 13) (.len (.tmp 12)) none [1],.mk (some 14) (.bin .lss (.tmp 11) (.tmp 13)) none [0,2]]
def l41r5a:List AOper :=
  [.mk (some 17) (.mv (.tmp 0)) none [],.mk (some 18) (.mv (.tmp 5)) none [],.mk (some 19) (.idxA 5 (.tmp 17) (.tmp 18)) none [0,1],.mk (some 20) (.load true 5 (.tmp 19)) none [2],.mk (some 21) (.mv (.tmp 1)) none [],.mk (some 22) (.mv (.tmp 5)) none [],.mk (some 23) (.idxA 5 (.tmp 21) (.tmp 22)) none [4,5],.mk (some 24) (.load true 5 (.tmp 23)) none [6]]
def l41r5b:List AOper :=
  [.mk (some 25) (.call 72 [.tmp 20,.tmp 24]) none [3,7],.mk (some 26) (.un .not (.tmp 25)) none [8]]
def l41r5:List AOper:=l41r5a ++ l41r5b
def l41r6:List AOper :=
  [.mk (some 4) (.mv (.const (.bool false))) none []]
def l41r7:List AOper :=
  [.mk (some 15) (.mv (.tmp 5)) none [],.mk (some 16) (.bin .add (.tmp 15) (.const (.int .i64 1))) none [0],.mk (some 5) (.mv (.tmp 16)) none [1,0,1]]
def l41r8:List AOper :=
  [.mk (some 4) (.mv (.const (.bool true))) none []]
def l41:AFn :=
  (AFn.mk 27 2 (.seq (.reg l41r0) (.seq (.seq (.reg l41r1) (.cond (.tmp 10) (.seq (.reg l41r2) .ret) .skip)) (.seq (.seq (.reg l41r3) (.block 0 (.loop (.seq (.seq (.reg l41r4) (.cond (.tmp 14) .skip (.exit 0))) (.seq (.block 1 (.seq (.draw l41r5) (.cond (.tmp 26) (.seq (.reg l41r6) .ret) .skip))) (.reg l41r7)))))) (.seq (.reg l41r8) .ret)))) [.tmp 4])
theorem l41_eq:lowFn Tryd.prog 41=some l41:=by kernel_rfl
def l42r0:List AOper :=
  [.mk (some 4) (.mv (.const (.int .i64 0))) none []]
def l42r1:List AOper :=
  [.mk (some 5) (.mv (.const (.int .i64 0))) none []]
def l42r2:List AOper :=
  [.mk (some 6) (.mv (.tmp 5)) none [],.mk (some 7) (.mv (.tmp 0)) none [],.mk (some 8) (.len (.tmp 7)) none [1],.mk (some 9) (.bin .lss (.tmp 6) (.tmp 8)) none [0,2]]
def l42r3:List AOper :=
  [.mk (some 12) (.mv (.tmp 0)) none [],.mk (some 13) (.mv (.tmp 5)) none [],.mk (some 14) (.mv (.tmp 1)) none [],.mk (some 15) (.idxA 1 (.tmp 12) (.tmp 13)) none [0,1,0,1,2],.mk none (.store 1 (.tmp 15) (.tmp 14)) none [3,2,0,1,2]]
def l42r4:List AOper :=
  [.mk (some 16) (.mv (.tmp 1)) none [],.mk (some 17) (.bin .add (.tmp 16) (.const (.int .i64 1))) none [0],.mk (some 1) (.mv (.tmp 17)) none [1,0,1]]
def l42r5:List AOper :=
  [.mk (some 10) (.mv (.tmp 5)) none [],.mk (some 11) (.bin .add (.tmp 10) (.const (.int .i64 1))) none [0],.mk (some 5) (.mv (.tmp 11)) none [1,0,1]]
def l42r6:List AOper :=
  [.mk (some 18) (.mv (.tmp 1)) none [],.mk (some 4) (.mv (.tmp 18)) none [0,0]]
def l42:AFn :=
  (AFn.mk 19 2 (.seq (.reg l42r0) (.seq (.seq (.reg l42r1) (.block 0 (.loop (.seq (.seq (.reg l42r2) (.cond (.tmp 9) .skip (.exit 0))) (.seq (.block 1 (.seq (.reg l42r3) (.reg l42r4))) (.reg l42r5)))))) (.seq (.reg l42r6) .ret))) [.tmp 4])
theorem l42_eq:lowFn Tryd.prog 42=some l42:=by kernel_rfl
def l43r0:List AOper :=
  [.mk (some 4) (.mv (.const (.int .i64 0))) none []]
def l43r1:List AOper :=
  [.mk (some 5) (.mv (.const (.int .i64 0))) none []]
def l43r2:List AOper :=
  [.mk (some 6) (.mv (.tmp 5)) none [],.mk (some 7) (.mv (.tmp 0)) none [],.mk (some 8) (.len (.tmp 7)) none [1],.mk (some 9) (.bin .lss (.tmp 6) (.tmp 8)) none [0,2]]
def l43r3:List AOper :=
  [.mk (some 12) (.mv (.tmp 0)) none [],.mk (some 13) (.mv (.tmp 5)) none [],.mk (some 14) (.mv (.tmp 1)) none [],.mk (some 15) (.idxA 5 (.tmp 12) (.tmp 13)) none [0,1,0,1,2],.mk (some 16) (.fld 0 (.tmp 15)) none [3,0,1,2],.mk none (.store 1 (.tmp 16) (.tmp 14)) none [4,2,0,1,2]]
def l43r4:List AOper :=
  [.mk (some 17) (.mv (.tmp 1)) none [],.mk (some 18) (.bin .add (.tmp 17) (.const (.int .i64 1))) none [0],.mk (some 1) (.mv (.tmp 18)) none [1,0,1]]
def l43r5:List AOper :=
  [.mk (some 19) (.mv (.tmp 0)) none [],.mk (some 20) (.mv (.tmp 5)) none [],.mk (some 21) (.mv (.tmp 1)) none [],.mk (some 22) (.idxA 5 (.tmp 19) (.tmp 20)) none [0,1,0,1,2],.mk (some 23) (.fld 1 (.tmp 22)) none [3,0,1,2],.mk (some 24) (.fld 0 (.tmp 23)) none [4,0,1,2],.mk none (.store 1 (.tmp 24) (.tmp 21)) none [5,2,0,1,2]]
def l43r6:List AOper :=
  [.mk (some 25) (.mv (.tmp 1)) none [],.mk (some 26) (.bin .add (.tmp 25) (.const (.int .i64 1))) none [0],.mk (some 1) (.mv (.tmp 26)) none [1,0,1]]
def l43r7:List AOper :=
  [.mk (some 27) (.mv (.tmp 0)) none [],.mk (some 28) (.mv (.tmp 5)) none [],.mk (some 29) (.idxA 5 (.tmp 27) (.tmp 28)) none [0,1],.mk (some 30) (.fld 1 (.tmp 29)) none [2],.mk (some 31) (.fld 1 (.tmp 30)) none [3],.mk (some 32) (.load false 1 (.tmp 31)) none [4],.mk (some 33) (.mv (.tmp 1)) none [],.mk (some 34) (.call 42 [.tmp 32,.tmp 33]) none [5,6],.mk (some 1) (.mv (.tmp 34)) none [7,7,0,1,2,3,4,5,6,7]]
def l43r8:List AOper :=
  [.mk (some 35) (.mv (.tmp 0)) none [],.mk (some 36) (.mv (.tmp 5)) none [],.mk (some 37) (.idxA 5 (.tmp 35) (.tmp 36)) none [0,1],.mk (some 38) (.fld 1 (.tmp 37)) none [2],.mk (some 39) (.fld 2 (.tmp 38)) none [3],.mk (some 40) (.load false 1 (.tmp 39)) none [4],.mk (some 41) (.mv (.tmp 1)) none [],.mk (some 42) (.call 42 [.tmp 40,.tmp 41]) none [5,6],.mk (some 1) (.mv (.tmp 42)) none [7,7,0,1,2,3,4,5,6,7]]
def l43r9:List AOper :=
  [.mk (some 43) (.mv (.tmp 0)) none [],.mk (some 44) (.mv (.tmp 5)) none [],.mk (some 45) (.mv (.tmp 1)) none [],.mk (some 46) (.bin .rem (.tmp 45) (.const (.int .i64 3))) none [2],.mk (some 47) (.bin .eql (.tmp 46) (.const (.int .i64 0))) none [3],.mk (some 48) (.idxA 5 (.tmp 43) (.tmp 44)) none [0,1,0,1,2,3,4],.mk (some 49) (.fld 4 (.tmp 48)) none [5,0,1,2,3,4],.mk none (.store 1 (.tmp 49) (.tmp 47)) none [6,4,0,1,2,3,4]]
def l43r10:List AOper :=
  [.mk (some 50) (.mv (.tmp 1)) none [],.mk (some 51) (.bin .add (.tmp 50) (.const (.int .i64 1))) none [0],.mk (some 1) (.mv (.tmp 51)) none [1,0,1]]
def l43r11:List AOper :=
  [.mk (some 10) (.mv (.tmp 5)) none [],.mk (some 11) (.bin .add (.tmp 10) (.const (.int .i64 1))) none [0],.mk (some 5) (.mv (.tmp 11)) none [1,0,1]]
def l43r12:List AOper :=
  [.mk (some 52) (.mv (.tmp 1)) none [],.mk (some 4) (.mv (.tmp 52)) none [0,0]]
def l43:AFn :=
  (AFn.mk 53 2 (.seq (.reg l43r0) (.seq (.seq (.reg l43r1) (.block 0 (.loop (.seq (.seq (.reg l43r2) (.cond (.tmp 9) .skip (.exit 0))) (.seq (.block 1 (.seq (.reg l43r3) (.seq (.reg l43r4) (.seq (.reg l43r5) (.seq (.reg l43r6) (.seq (.reg l43r7) (.seq (.reg l43r8) (.seq (.reg l43r9) (.reg l43r10))))))))) (.reg l43r11)))))) (.seq (.reg l43r12) .ret))) [.tmp 4])
theorem l43_eq:lowFn Tryd.prog 43=some l43:=by kernel_rfl
def l44r0:List AOper :=
  [.mk (some 4) (.mv (.const (.int .i64 0))) none []]
def l44r1:List AOper :=
  [.mk (some 5) (.mv (.const (.int .i64 0))) none []]
def l44r2:List AOper :=
  [.mk (some 6) (.mv (.tmp 5)) none [],.mk (some 7) (.mv (.tmp 0)) none [],.mk (some 8) (.len (.tmp 7)) none [1],.mk (some 9) (.bin .lss (.tmp 6) (.tmp 8)) none [0,2]]
def l44r3:List AOper :=
  [.mk (some 12) (.mv (.tmp 0)) none [],.mk (some 13) (.mv (.tmp 5)) none [],.mk (some 14) (.idxA 1 (.tmp 12) (.tmp 13)) none [0,1],.mk (some 15) (.load false 1 (.tmp 14)) none [2],.mk (some 16) (.mv (.tmp 1)) none [],.mk (some 17) (.bin .neq (.tmp 15) (.tmp 16)) none [3,4]]
def l44r4:List AOper :=
  [.mk (some 4) (.mv (.const (.int .i64 (-1)))) none []]
def l44r5:List AOper :=
  [.mk (some 18) (.mv (.tmp 1)) none [],.mk (some 19) (.bin .add (.tmp 18) (.const (.int .i64 1))) none [0],.mk (some 1) (.mv (.tmp 19)) none [1,0,1]]
def l44r6:List AOper :=
  [.mk (some 10) (.mv (.tmp 5)) none [],.mk (some 11) (.bin .add (.tmp 10) (.const (.int .i64 1))) none [0],.mk (some 5) (.mv (.tmp 11)) none [1,0,1]]
def l44r7:List AOper :=
  [.mk (some 20) (.mv (.tmp 1)) none [],.mk (some 4) (.mv (.tmp 20)) none [0,0]]
def l44:AFn :=
  (AFn.mk 21 2 (.seq (.reg l44r0) (.seq (.seq (.reg l44r1) (.block 0 (.loop (.seq (.seq (.reg l44r2) (.cond (.tmp 9) .skip (.exit 0))) (.seq (.block 1 (.seq (.seq (.reg l44r3) (.cond (.tmp 17) (.seq (.reg l44r4) .ret) .skip)) (.reg l44r5))) (.reg l44r6)))))) (.seq (.reg l44r7) .ret))) [.tmp 4])
theorem l44_eq:lowFn Tryd.prog 44=some l44:=by kernel_rfl
def l45r0:List AOper :=
  [.mk (some 4) (.mv (.const (.int .i64 0))) none []]
def l45r1:List AOper :=
  [.mk (some 5) (.mv (.const (.int .i64 0))) none []]
def l45r2:List AOper :=
  [.mk (some 6) (.mv (.tmp 5)) none [],.mk (some 7) (.mv (.tmp 0)) none [],.mk (some 8) (.len (.tmp 7)) none [1],.mk (some 9) (.bin .lss (.tmp 6) (.tmp 8)) none [0,2]]
def l45r3:List AOper :=
  [.mk (some 12) (.mv (.tmp 0)) none [],.mk (some 13) (.mv (.tmp 5)) none [],.mk (some 14) (.idxA 5 (.tmp 12) (.tmp 13)) none [0,1],.mk (some 15) (.fld 0 (.tmp 14)) none [2],.mk (some 16) (.load false 1 (.tmp 15)) none [3],.mk (some 17) (.mv (.tmp 1)) none [],.mk (some 18) (.bin .neq (.tmp 16) (.tmp 17)) none [4,5]]
def l45r4:List AOper :=
  [.mk (some 4) (.mv (.const (.int .i64 (-1)))) none []]
def l45r5:List AOper :=
  [.mk (some 19) (.mv (.tmp 1)) none [],.mk (some 20) (.bin .add (.tmp 19) (.const (.int .i64 1))) none [0],.mk (some 1) (.mv (.tmp 20)) none [1,0,1]]
def l45r6:List AOper :=
  [.mk (some 21) (.mv (.tmp 0)) none [],.mk (some 22) (.mv (.tmp 5)) none [],.mk (some 23) (.idxA 5 (.tmp 21) (.tmp 22)) none [0,1],.mk (some 24) (.fld 1 (.tmp 23)) none [2],.mk (some 25) (.fld 0 (.tmp 24)) none [3],.mk (some 26) (.load false 1 (.tmp 25)) none [4],.mk (some 27) (.mv (.tmp 1)) none [],.mk (some 28) (.bin .neq (.tmp 26) (.tmp 27)) none [5,6]]
def l45r7:List AOper :=
  [.mk (some 4) (.mv (.const (.int .i64 (-1)))) none []]
def l45r8:List AOper :=
  [.mk (some 29) (.mv (.tmp 1)) none [],.mk (some 30) (.bin .add (.tmp 29) (.const (.int .i64 1))) none [0],.mk (some 1) (.mv (.tmp 30)) none [1,0,1]]
def l45r9:List AOper :=
  [.mk (some 31) (.mv (.tmp 0)) none [],.mk (some 32) (.mv (.tmp 5)) none [],.mk (some 33) (.idxA 5 (.tmp 31) (.tmp 32)) none [0,1],.mk (some 34) (.fld 1 (.tmp 33)) none [2],.mk (some 35) (.fld 1 (.tmp 34)) none [3],.mk (some 36) (.load false 1 (.tmp 35)) none [4],.mk (some 37) (.mv (.tmp 1)) none [],.mk (some 38) (.call 44 [.tmp 36,.tmp 37]) none [5,6],.mk (some 1) (.mv (.tmp 38)) none [7,7,0,1,2,3,4,5,6,7]]
def l45r10:List AOper :=
  [.mk (some 39) (.mv (.tmp 1)) none [],.mk (some 40) (.bin .lss (.tmp 39) (.const (.int .i64 0))) none [0]]
def l45r11:List AOper :=
  [.mk (some 4) (.mv (.const (.int .i64 (-1)))) none []]
def l45r12:List AOper :=
  [.mk (some 41) (.mv (.tmp 0)) none [],.mk (some 42) (.mv (.tmp 5)) none [],.mk (some 43) (.idxA 5 (.tmp 41) (.tmp 42)) none [0,1],.mk (some 44) (.fld 1 (.tmp 43)) none [2],.mk (some 45) (.fld 2 (.tmp 44)) none [3],.mk (some 46) (.load false 1 (.tmp 45)) none [4],.mk (some 47) (.mv (.tmp 1)) none [],.mk (some 48) (.call 44 [.tmp 46,.tmp 47]) none [5,6],.mk (some 1) (.mv (.tmp 48)) none [7,7,0,1,2,3,4,5,6,7]]
def l45r13:List AOper :=
  [.mk (some 49) (.mv (.tmp 1)) none [],.mk (some 50) (.bin .lss (.tmp 49) (.const (.int .i64 0))) none [0]]
def l45r14:List AOper :=
  [.mk (some 4) (.mv (.const (.int .i64 (-1)))) none []]
def l45r15:List AOper :=
  [.mk (some 51) (.mv (.tmp 0)) none [],.mk (some 52) (.mv (.tmp 5)) none [],.mk (some 53) (.idxA 5 (.tmp 51) (.tmp 52)) none [0,1],.mk (some 54) (.fld 4 (.tmp 53)) none [2],.mk (some 55) (.load false 1 (.tmp 54)) none [3],.mk (some 56) (.mv (.tmp 1)) none [],.mk (some 57) (.bin .rem (.tmp 56) (.const (.int .i64 3))) none [5],.mk (some 58) (.bin .eql (.tmp 57) (.const (.int .i64 0))) none [6],.mk (some 59) (.binB .neq (.tmp 55) (.tmp 58)) none [4,7]]
def l45r16:List AOper :=
  [.mk (some 4) (.mv (.const (.int .i64 (-1)))) none []]
def l45r17:List AOper :=
  [.mk (some 60) (.mv (.tmp 1)) none [],.mk (some 61) (.bin .add (.tmp 60) (.const (.int .i64 1))) none [0],.mk (some 1) (.mv (.tmp 61)) none [1,0,1]]
def l45r18:List AOper :=
  [.mk (some 10) (.mv (.tmp 5)) none [],.mk (some 11) (.bin .add (.tmp 10) (.const (.int .i64 1))) none [0],.mk (some 5) (.mv (.tmp 11)) none [1,0,1]]
def l45r19:List AOper :=
  [.mk (some 62) (.mv (.tmp 1)) none [],.mk (some 4) (.mv (.tmp 62)) none [0,0]]
def l45:AFn :=
  (AFn.mk 63 2 (.seq (.reg l45r0) (.seq (.seq (.reg l45r1) (.block 0 (.loop (.seq (.seq (.reg l45r2) (.cond (.tmp 9) .skip (.exit 0))) (.seq (.block 1 (.seq (.seq (.reg l45r3) (.cond (.tmp 18) (.seq (.reg l45r4) .ret) .skip)) (.seq (.reg l45r5) (.seq (.seq (.reg l45r6) (.cond (.tmp 28) (.seq (.reg l45r7) .ret) .skip)) (.seq (.reg l45r8) (.seq (.reg l45r9) (.seq (.seq (.reg l45r10) (.cond (.tmp 40) (.seq (.reg l45r11) .ret) .skip)) (.seq (.reg l45r12) (.seq (.seq (.reg l45r13) (.cond (.tmp 50) (.seq (.reg l45r14) .ret) .skip)) (.seq (.seq (.reg l45r15) (.cond (.tmp 59) (.seq (.reg l45r16) .ret) .skip)) (.reg l45r17))))))))))) (.reg l45r18)))))) (.seq (.reg l45r19) .ret))) [.tmp 4])
theorem l45_eq:lowFn Tryd.prog 45=some l45:=by kernel_rfl
def l46r0:List AOper :=
  [.mk (some 6) (.mv (.const (.bool false))) none []]
def l46r1:List AOper :=
  [.mk (some 7) (.mv (.tmp 1)) none [],.mk (some 8) (.mv (.tmp 0)) none [],.mk (some 9) (.bin .leq (.tmp 7) (.tmp 8)) none [0,1],.mk (some 10) (.mv (.tmp 9)) none [2],.mk (some 11) (.mv (.tmp 0)) (some (10,true)) [3],.mk (some 12) (.mv (.tmp 2)) (some (10,true)) [3],.mk (some 13) (.bin .leq (.tmp 11) (.tmp 12)) (some (10,true)) [4,5,3],.mk (some 14) (.pick (.tmp 10) (.tmp 13) (.const (.bool false))) none [3,6],.mk (some 6) (.mv (.tmp 14)) none [7,3,0,1,2,3,4,5,6,7]]
def l46:AFn :=
  (AFn.mk 15 3 (.seq (.reg l46r0) (.seq (.reg l46r1) .ret)) [.tmp 6])
theorem l46_eq:lowFn Tryd.prog 46=some l46:=by kernel_rfl
def l48r0:List AOper :=
  [.mk (some 3) (.box (.tmp 0)) none [],.mk (some 6) (.alloc [.slice none 0 0,.slice none 0 0]) none [],.mk (some 7) (.mv (.const (.bool false))) none []]
def l48r1:List AOper :=
  [.mk (some 9) (.mv (.tmp 2)) none [],.mk (some 10) (.un .not (.tmp 9)) none [0]]
def l48r2:List AOper :=
  [.mk (some 11) (.build [.slice none 0 0,.slice none 0 0] []) none [],.mk none (.store 2 (.tmp 6) (.tmp 11)) none [0,0],.mk (some 7) (.mv (.const (.bool false))) none [1,0,1]]
def l48r3:List AOper :=
  [.mk (some 12) (.load true 2 (.tmp 3)) none [],.mk (some 13) (.call 39 [.tmp 12]) none [0],.mk (some 8) (.alloc [.slice none 0 0,.slice none 0 0]) none [],.mk none (.store 2 (.tmp 8) (.tmp 13)) none [2,1,1,0,1,2]]
def l48r4:List AOper :=
  [.mk (some 14) (.mv (.tmp 1)) none [],.mk (some 15) (.fld 0 (.tmp 8)) none [0],.mk none (.store 1 (.tmp 15) (.tmp 14)) none [1,0,0]]
def l48r5:List AOper :=
  [.mk (some 16) (.load true 2 (.tmp 8)) none [],.mk none (.store 2 (.tmp 6) (.tmp 16)) none [0,0],.mk (some 7) (.mv (.const (.bool true))) none [1,0,1]]
def l48:AFn :=
  (AFn.mk 17 3 (.seq (.reg l48r0) (.seq (.seq (.reg l48r1) (.cond (.tmp 10) (.seq (.reg l48r2) .ret) .skip)) (.seq (.reg l48r3) (.seq (.reg l48r4) (.seq (.reg l48r5) .ret))))) [.cell 6 true 2,.tmp 7])
theorem l48_eq:lowFn Tryd.prog 48=some l48:=by kernel_rfl
def l50r0:List AOper :=
  [.mk (some 4) (.box (.tmp 1)) none [],.mk (some 5) (.box (.tmp 2)) none [],.mk (some 6) (.mv (.const (.slice none 0 0))) none [],.mk (some 7) (.mv (.const (.bool false))) none [2]]
def l50r1:List AOper :=
  [.mk (some 8) (.mv (.tmp 0)) none [],.mk (some 9) (.load true 3 (.tmp 4)) none [],.mk (some 10) (.load true 3 (.tmp 5)) none [],.mk (some 11) (.call 80 [.tmp 8,.tmp 9,.tmp 10]) none [0,1,2],.mk (some 12) (.un .not (.tmp 11)) none [3]]
def l50r2:List AOper :=
  [.mk (some 6) (.mv (.const (.slice none 0 0))) none [],.mk (some 7) (.mv (.const (.bool false))) none [0,0]]
def l50r3a:List AOper :=
  [.mk (some 13) (.mv (.tmp 0)) none [],.mk (some 14) (.load true 3 (.tmp 4)) none [],.mk (some 15) (.mv (.tmp 0)) none [],.mk (some 16) (.load true 3 (.tmp 5)) none [],.mk (some 17) (.call 82 [.tmp 15,.tmp 16]) none [2,3]]
def l50r3b:List AOper :=
  [.mk (some 18) (.call 81 [.tmp 13,.tmp 14,.tmp 17]) none [0,1,4,4],.mk (some 6) (.mv (.tmp 18)) none [5,5,0,1,2,3,4,5],.mk (some 7) (.mv (.const (.bool true))) none [6,0,1,2,3,4,5,6]]
def l50r3:List AOper:=l50r3a ++ l50r3b
def l50:AFn :=
  (AFn.mk 19 3 (.seq (.reg l50r0) (.seq (.seq (.reg l50r1) (.cond (.tmp 12) (.seq (.reg l50r2) .ret) .skip)) (.seq (.draw l50r3) .ret))) [.tmp 6,.tmp 7])
theorem l50_eq:lowFn Tryd.prog 50=some l50:=by kernel_rfl
def l51r0:List AOper :=
  [.mk (some 4) (.box (.tmp 1)) none [],.mk (some 5) (.box (.tmp 2)) none [],.mk (some 6) (.mv (.const (.slice none 0 0))) none [],.mk (some 7) (.mv (.const (.bool false))) none [2]]
def l51r1:List AOper :=
  [.mk (some 8) (.mv (.tmp 0)) none [],.mk (some 9) (.load true 3 (.tmp 4)) none [],.mk (some 10) (.load true 3 (.tmp 5)) none [],.mk (some 11) (.call 83 [.tmp 8,.tmp 9,.tmp 10]) none [0,1,2],.mk (some 12) (.un .not (.tmp 11)) none [3]]
def l51r2:List AOper :=
  [.mk (some 6) (.mv (.const (.slice none 0 0))) none [],.mk (some 7) (.mv (.const (.bool false))) none [0,0]]
def l51r3a:List AOper :=
  [.mk (some 13) (.mv (.tmp 0)) none [],.mk (some 14) (.load true 3 (.tmp 4)) none [],.mk (some 15) (.mv (.tmp 0)) none [],.mk (some 16) (.load true 3 (.tmp 5)) none [],.mk (some 17) (.call 84 [.tmp 15,.tmp 16]) none [2,3]]
def l51r3b:List AOper :=
  [.mk (some 18) (.call 77 [.tmp 13,.tmp 14,.tmp 17]) none [0,1,4,4],.mk (some 6) (.mv (.tmp 18)) none [5,5,0,1,2,3,4,5],.mk (some 7) (.mv (.const (.bool true))) none [6,0,1,2,3,4,5,6]]
def l51r3:List AOper:=l51r3a ++ l51r3b
def l51:AFn :=
  (AFn.mk 19 3 (.seq (.reg l51r0) (.seq (.seq (.reg l51r1) (.cond (.tmp 12) (.seq (.reg l51r2) .ret) .skip)) (.seq (.draw l51r3) .ret))) [.tmp 6,.tmp 7])
theorem l51_eq:lowFn Tryd.prog 51=some l51:=by kernel_rfl
def l53r0:List AOper :=
  [.mk (some 1) (.box (.tmp 0)) none [],.mk (some 2) (.mv (.const (.bool false))) none []]
def l53r1:List AOper :=
  [.mk (some 7) (.fld 0 (.tmp 1)) none [],.mk (some 8) (.load false 1 (.tmp 7)) none [0],.mk (some 9) (.call 85 [.tmp 8]) none [1],.mk (some 10) (.un .not (.tmp 9)) none [2],.mk (some 11) (.mv (.tmp 10)) none [3,2],.mk (some 12) (.fld 1 (.tmp 1)) (some (11,false)) [4],.mk (some 13) (.load false 1 (.tmp 12)) (some (11,false)) [5,4],.mk (some 14) (.len (.tmp 13)) (some (11,false)) [6,4],.mk (some 15) (.bin .gtr (.tmp 14) (.const (.int .i64 8))) (some (11,false)) [7,4],.mk (some 16) (.pick (.tmp 11) (.const (.bool true)) (.tmp 15)) none [4,8]]
def l53r2:List AOper :=
  [.mk (some 2) (.mv (.const (.bool false))) none []]
def l53r3:List AOper :=
  [.mk (some 17) (.fld 1 (.tmp 1)) none [],.mk (some 18) (.load false 1 (.tmp 17)) none [0],.mk (some 19) (.len (.tmp 18)) none [1],.mk (some 20) (.mv (.const (.int .i64 0))) none []]
def l53r4:List AOper :=
  [.mk (some 21) (.bin .lss (.tmp 20) (.tmp 19)) none []]
def l53r5:List AOper :=
  [.mk (some 22) (.mv (.tmp 20)) none [],.mk (some 23) (.idxA 5 (.tmp 18) (.tmp 20)) none [],.mk (some 24) (.load true 5 (.tmp 23)) none [1],.mk (some 4) (.alloc [.int .i64 0,.int .i64 0,.slice none 0 0,.slice none 0 0,.bool false]) none [],.mk (some 3) (.mv (.tmp 22)) none [0,0,1,2,3],.mk none (.store 5 (.tmp 4) (.tmp 24)) none [3,2,4,0,1,2,3,4]]
def l53r6:List AOper :=
  [.mk (some 25) (.load true 5 (.tmp 4)) none [],.mk (some 26) (.mv (.tmp 3)) none [],.mk (some 27) (.fld 0 (.tmp 1)) none [],.mk (some 28) (.load false 1 (.tmp 27)) none [2],.mk (some 29) (.len (.tmp 28)) none [3],.mk (some 30) (.call 86 [.tmp 25,.tmp 26,.tmp 29]) none [0,1,4],.mk (some 31) (.un .not (.tmp 30)) none [5]]
def l53r7:List AOper :=
  [.mk (some 2) (.mv (.const (.bool false))) none []]
def l53r8:List AOper :=
  [.mk (some 32) (.bin .add (.tmp 20) (.const (.int .i64 1))) none [],.mk (some 20) (.mv (.tmp 32)) none [0]]
def l53r9:List AOper :=
  [.mk (some 33) (.fld 1 (.tmp 1)) none [],.mk (some 34) (.load false 1 (.tmp 33)) none [0],.mk (some 35) (.len (.tmp 34)) none [1],.mk (some 36) (.mv (.const (.int .i64 0))) none []]
def l53r10:List AOper :=
  [.mk (some 37) (.bin .lss (.tmp 36) (.tmp 35)) none []]
def l53r11:List AOper :=
  [.mk (some 38) (.mv (.tmp 36)) none [],.mk (some 39) (.idxA 5 (.tmp 34) (.tmp 36)) none [],.mk (some 40) (.load true 5 (.tmp 39)) none [1],.mk (some 6) (.alloc [.int .i64 0,.int .i64 0,.slice none 0 0,.slice none 0 0,.bool false]) none [],.mk (some 5) (.mv (.tmp 38)) none [0,0,1,2,3],.mk none (.store 5 (.tmp 6) (.tmp 40)) none [3,2,4,0,1,2,3,4]]
def l53r12a:List AOper :=
  [.mk (some 41) (.fld 4 (.tmp 6)) none [],.mk (some 42) (.load false 1 (.tmp 41)) none [0],.mk (some 43) (.un .not (.tmp 42)) none [1],.mk (some 44) (.mv (.tmp 43)) none [2],.mk (some 45) (.load true 2 (.tmp 1)) (some (44,true)) [3],.mk (some 46) (.mv (.tmp 5)) (some (44,true)) [3],.mk (some 47) (.call 37 [.tmp 45,.tmp 46]) (some (44,true)) [4,5,3,3],.mk (some 48) (.call 38 [.tmp 47]) (some (44,true)) [6,6,3],.mk (some 49) (.load false 1 (.global 0)) (some (44,true)) [3]]
def l53r12b:List AOper :=
  [.mk (some 50) (.call 36 [.tmp 48,.tmp 49]) (some (44,true)) [7,8,7,3],.mk (some 51) (.pick (.tmp 44) (.tmp 50) (.const (.bool false))) none [3,9]]
def l53r12:List AOper:=l53r12a ++ l53r12b
def l53r13:List AOper :=
  [.mk (some 2) (.mv (.const (.bool false))) none []]
def l53r14:List AOper :=
  [.mk (some 52) (.bin .add (.tmp 36) (.const (.int .i64 1))) none [],.mk (some 36) (.mv (.tmp 52)) none [0]]
def l53r15:List AOper :=
  [.mk (some 2) (.mv (.const (.bool true))) none []]
def l53:AFn :=
  (AFn.mk 53 1 (.seq (.reg l53r0) (.seq (.seq (.reg l53r1) (.cond (.tmp 16) (.seq (.reg l53r2) .ret) .skip)) (.seq (.seq (.reg l53r3) (.block 0 (.loop (.seq (.reg l53r4) (.seq (.cond (.tmp 21) .skip (.exit 0)) (.seq (.block 1 (.seq (.reg l53r5) (.seq (.reg l53r6) (.cond (.tmp 31) (.seq (.reg l53r7) .ret) .skip)))) (.reg l53r8))))))) (.seq (.seq (.reg l53r9) (.block 2 (.loop (.seq (.reg l53r10) (.seq (.cond (.tmp 37) .skip (.exit 2)) (.seq (.block 3 (.seq (.reg l53r11) (.seq (.draw l53r12) (.cond (.tmp 51) (.seq (.reg l53r13) .ret) .skip)))) (.reg l53r14))))))) (.seq (.reg l53r15) .ret))))) [.tmp 2])
theorem l53_eq:lowFn Tryd.prog 53=some l53:=by kernel_rfl
def l54r0:List AOper :=
  [.mk (some 2) (.mv (.const (.bool false))) none []]
def l54r1:List AOper :=
  [.mk (some 3) (.mv (.tmp 0)) none [],.mk (some 4) (.bin .leq (.const (.int .i64 0)) (.tmp 3)) none [0],.mk (some 5) (.mv (.tmp 4)) none [1],.mk (some 6) (.mv (.tmp 0)) (some (5,true)) [2],.mk (some 7) (.bin .leq (.tmp 6) (.const (.int .i64 60))) (some (5,true)) [3,2],.mk (some 8) (.pick (.tmp 5) (.tmp 7) (.const (.bool false))) none [2,4],.mk (some 2) (.mv (.tmp 8)) none [5,2,0,1,2,3,4,5]]
def l54:AFn :=
  (AFn.mk 9 1 (.seq (.reg l54r0) (.seq (.reg l54r1) .ret)) [.tmp 2])
theorem l54_eq:lowFn Tryd.prog 54=some l54:=by kernel_rfl
def l55r0:List AOper :=
  [.mk (some 1) (.box (.tmp 0)) none [],.mk (some 2) (.mv (.const (.bool false))) none []]
def l55r1:List AOper :=
  [.mk (some 3) (.fld 1 (.tmp 1)) none [],.mk (some 4) (.load false 1 (.tmp 3)) none [0],.mk (some 5) (.call 87 [.tmp 4]) none [1],.mk (some 6) (.mv (.tmp 5)) none [2,2],.mk (some 7) (.fld 2 (.tmp 1)) (some (6,true)) [3],.mk (some 8) (.load false 1 (.tmp 7)) (some (6,true)) [4,3],.mk (some 9) (.len (.tmp 8)) (some (6,true)) [5,3],.mk (some 10) (.fld 1 (.tmp 1)) (some (6,true)) [3],.mk (some 11) (.load false 1 (.tmp 10)) (some (6,true)) [7,3],.mk (some 12) (.len (.tmp 11)) (some (6,true)) [8,3],.mk (some 13) (.bin .eql (.tmp 9) (.tmp 12)) (some (6,true)) [6,9,3],.mk (some 14) (.pick (.tmp 6) (.tmp 13) (.const (.bool false))) none [3,10],.mk (some 15) (.mv (.tmp 14)) none [11,3],.mk (some 16) (.fld 2 (.tmp 1)) (some (15,true)) [12],.mk (some 17) (.load false 1 (.tmp 16)) (some (15,true)) [13,12],.mk (some 18) (.call 88 [.tmp 17,.const (.int .i64 (-60)),.const (.int .i64 60)]) (some (15,true)) [14,12,12],.mk (some 19) (.pick (.tmp 15) (.tmp 18) (.const (.bool false))) none [12,15],.mk (some 20) (.mv (.tmp 19)) none [16,15],.mk (some 21) (.fld 0 (.tmp 1)) (some (20,true)) [17],.mk (some 22) (.load false 1 (.tmp 21)) (some (20,true)) [18,17],.mk (some 23) (.call 46 [.tmp 22,.const (.int .i64 0),.const (.int .i64 60)]) (some (20,true)) [19,17,17],.mk (some 24) (.pick (.tmp 20) (.tmp 23) (.const (.bool false))) none [17,20],.mk (some 25) (.mv (.tmp 24)) none [21,20],.mk (some 26) (.fld 1 (.tmp 1)) (some (25,true)) [22],.mk (some 27) (.load false 1 (.tmp 26)) (some (25,true)) [23,22],.mk (some 28) (.call 89 [.tmp 27]) (some (25,true)) [24,22,22],.mk (some 29) (.bin .eql (.tmp 28) (.const (.int .i64 0))) (some (25,true)) [25,22],.mk (some 30) (.mv (.tmp 29)) (some (25,true)) [26,25,22],.mk (some 31) (.load true 3 (.tmp 1)) (some (30,false)) [27],.mk (some 32) (.call 74 [.tmp 31]) (some (30,false)) [28,27,27],.mk (some 33) (.call 88 [.tmp 32,.const (.int .i64 0),.const (.int .i64 59)]) (some (30,false)) [29,29,27],.mk (some 34) (.pick (.tmp 30) (.const (.bool true)) (.tmp 33)) (some (25,true)) [27,30,22],.mk (some 35) (.pick (.tmp 25) (.tmp 34) (.const (.bool false))) none [22,31],.mk (some 2) (.mv (.tmp 35)) none [32,30,0,1,2,3,4,5,6,7,8,9,10,11,12,13,14,15,16,17,18,19,20,21,22,23,24,25,26,27,28,29,30,31,32]]
def l55:AFn :=
  (AFn.mk 36 1 (.seq (.reg l55r0) (.seq (.reg l55r1) .ret)) [.tmp 2])
theorem l55_eq:lowFn Tryd.prog 55=some l55:=by kernel_rfl
def l56r0:List AOper :=
  [.mk (some 2) (.box (.tmp 0)) none [],.mk (some 4) (.mv (.const (.bool false))) none []]
def l56r1:List AOper :=
  [.mk (some 5) (.load true 3 (.tmp 2)) none [],.mk (some 6) (.call 74 [.tmp 5]) none [0],.mk (some 7) (.mv (.tmp 1)) none [],.mk (some 8) (.bin .sub (.tmp 7) (.const (.int .i64 1))) none [2],.mk (some 9) (.call 88 [.tmp 6,.const (.int .i64 0),.tmp 8]) none [1,3,1],.mk (some 4) (.mv (.tmp 9)) none [4,4,0,1,2,3,4]]
def l56:AFn :=
  (AFn.mk 10 2 (.seq (.reg l56r0) (.seq (.reg l56r1) .ret)) [.tmp 4])
theorem l56_eq:lowFn Tryd.prog 56=some l56:=by kernel_rfl
def l58r0:List AOper :=
  [.mk (some 2) (.box (.tmp 0)) none [],.mk (some 4) (.mv (.const (.bool false))) none []]
def l58r1:List AOper :=
  [.mk (some 7) (.load true 3 (.tmp 2)) none [],.mk (some 8) (.call 90 [.tmp 7]) none [0],.mk (some 9) (.un .not (.tmp 8)) none [1],.mk (some 10) (.mv (.tmp 9)) none [2,1],.mk (some 11) (.mv (.tmp 1)) (some (10,false)) [3],.mk (some 12) (.call 66 [.tmp 11,.const (.int .i64 60)]) (some (10,false)) [4,3,3],.mk (some 13) (.un .not (.tmp 12)) (some (10,false)) [5,3],.mk (some 14) (.pick (.tmp 10) (.const (.bool true)) (.tmp 13)) none [3,6]]
def l58r2:List AOper :=
  [.mk (some 4) (.mv (.const (.bool false))) none []]
def l58r3:List AOper :=
  [.mk (some 16) (.load true 3 (.tmp 2)) none [],.mk (some 17) (.call 91 [.tmp 16]) none [0],.mk (some 15) (.mv (.tmp 17)) none [1],.mk (some 18) (.extract (.tmp 15) 0) none [2],.mk (some 19) (.extract (.tmp 15) 1) none [2],.mk (some 5) (.mv (.tmp 18)) none [3,1,0,1,2,3],.mk (some 6) (.mv (.tmp 19)) none [4,5,0,1,2,3,4,5]]
def l58r4:List AOper :=
  [.mk (some 20) (.mv (.tmp 6)) none [],.mk (some 21) (.mv (.tmp 1)) none [],.mk (some 22) (.bin .lss (.tmp 20) (.tmp 21)) none [0,1],.mk (some 4) (.mv (.tmp 22)) none [2,0,1,2]]
def l58:AFn :=
  (AFn.mk 23 2 (.seq (.reg l58r0) (.seq (.seq (.reg l58r1) (.cond (.tmp 14) (.seq (.reg l58r2) .ret) .skip)) (.seq (.reg l58r3) (.seq (.reg l58r4) .ret)))) [.tmp 4])
theorem l58_eq:lowFn Tryd.prog 58=some l58:=by kernel_rfl
def l60r0:List AOper :=
  [.mk (some 2) (.box (.tmp 0)) none [],.mk (some 4) (.mv (.const (.int .i64 0))) none []]
def l60r1:List AOper :=
  [.mk (some 5) (.fld 1 (.tmp 2)) none [],.mk (some 6) (.load true 3 (.tmp 5)) none [0],.mk (some 7) (.mv (.tmp 1)) none [],.mk (some 8) (.call 21 [.tmp 6,.tmp 7]) none [1,2],.mk (some 1) (.mv (.tmp 8)) none [3,3,0,1,2,3]]
def l60r2:List AOper :=
  [.mk (some 9) (.mv (.tmp 1)) none [],.mk (some 10) (.bin .lss (.tmp 9) (.const (.int .i64 0))) none [0]]
def l60r3:List AOper :=
  [.mk (some 4) (.mv (.const (.int .i64 (-1)))) none []]
def l60r4:List AOper :=
  [.mk (some 11) (.mv (.tmp 1)) none [],.mk (some 4) (.mv (.tmp 11)) none [0,0]]
def l60:AFn :=
  (AFn.mk 12 2 (.seq (.reg l60r0) (.seq (.reg l60r1) (.seq (.seq (.reg l60r2) (.cond (.tmp 10) (.seq (.reg l60r3) .ret) .skip)) (.seq (.reg l60r4) .ret)))) [.tmp 4])
theorem l60_eq:lowFn Tryd.prog 60=some l60:=by kernel_rfl
def l61r0:List AOper :=
  [.mk (some 2) (.box (.tmp 0)) none [],.mk (some 4) (.mv (.const (.bool false))) none []]
def l61r1:List AOper :=
  [.mk (some 6) (.fld 1 (.tmp 2)) none [],.mk (some 7) (.load false 1 (.tmp 6)) none [0],.mk (some 8) (.mv (.tmp 1)) none [],.mk (some 9) (.idxA 5 (.tmp 7) (.tmp 8)) none [1,2],.mk (some 10) (.load true 5 (.tmp 9)) none [3],.mk (some 5) (.alloc [.int .i64 0,.int .i64 0,.slice none 0 0,.slice none 0 0,.bool false]) none [],.mk none (.store 5 (.tmp 5) (.tmp 10)) none [5,4,0,1,2,3,4,5]]
def l61r2:List AOper :=
  [.mk (some 11) (.fld 0 (.tmp 5)) none [],.mk (some 12) (.load false 1 (.tmp 11)) none [0],.mk (some 13) (.mv (.tmp 1)) none [],.mk (some 14) (.bin .sub (.tmp 13) (.const (.int .i64 1))) none [2],.mk (some 15) (.call 46 [.tmp 12,.const (.int .i64 (-1)),.tmp 14]) none [1,3],.mk (some 16) (.un .not (.tmp 15)) none [4],.mk (some 17) (.mv (.tmp 16)) none [5,4],.mk (some 18) (.fld 1 (.tmp 5)) (some (17,false)) [6],.mk (some 19) (.load true 3 (.tmp 18)) (some (17,false)) [7,6],.mk (some 20) (.call 55 [.tmp 19]) (some (17,false)) [8,6,6],.mk (some 21) (.un .not (.tmp 20)) (some (17,false)) [9,6],.mk (some 22) (.pick (.tmp 17) (.const (.bool true)) (.tmp 21)) none [6,10]]
def l61r3:List AOper :=
  [.mk (some 4) (.mv (.const (.bool false))) none []]
def l61r4:List AOper :=
  [.mk (some 23) (.fld 4 (.tmp 5)) none [],.mk (some 24) (.load false 1 (.tmp 23)) none [0],.mk (some 25) (.un .not (.tmp 24)) none [1],.mk (some 26) (.mv (.tmp 25)) none [2],.mk (some 27) (.fld 1 (.tmp 5)) (some (26,false)) [3],.mk (some 28) (.load true 3 (.tmp 27)) (some (26,false)) [4,3],.mk (some 29) (.fld 0 (.tmp 2)) (some (26,false)) [3],.mk (some 30) (.load false 1 (.tmp 29)) (some (26,false)) [6,3],.mk (some 31) (.len (.tmp 30)) (some (26,false)) [7,3],.mk (some 32) (.call 56 [.tmp 28,.tmp 31]) (some (26,false)) [5,8,3,3],.mk (some 33) (.mv (.tmp 32)) (some (26,false)) [9,9,3],.mk (some 34) (.fld 0 (.tmp 5)) (some (33,true)) [10],.mk (some 35) (.load false 1 (.tmp 34)) (some (33,true)) [11,10],.mk (some 36) (.bin .lss (.tmp 35) (.const (.int .i64 0))) (some (33,true)) [12,10],.mk (some 37) (.mv (.tmp 36)) (some (33,true)) [13,10,10],.mk (some 38) (.fld 1 (.tmp 2)) (some (37,false)) [14],.mk (some 39) (.load false 1 (.tmp 38)) (some (37,false)) [15,14],.mk (some 40) (.fld 0 (.tmp 5)) (some (37,false)) [14],.mk (some 41) (.load false 1 (.tmp 40)) (some (37,false)) [17,14],.mk (some 42) (.idxA 5 (.tmp 39) (.tmp 41)) (some (37,false)) [16,18,14],.mk (some 43) (.fld 4 (.tmp 42)) (some (37,false)) [19,14],.mk (some 44) (.load false 1 (.tmp 43)) (some (37,false)) [20,14],.mk (some 45) (.pick (.tmp 37) (.const (.bool true)) (.tmp 44)) (some (33,true)) [14,21,10],.mk (some 46) (.pick (.tmp 33) (.tmp 45) (.const (.bool false))) (some (26,false)) [10,22,3],.mk (some 47) (.pick (.tmp 26) (.const (.bool true)) (.tmp 46)) none [3,23],.mk (some 4) (.mv (.tmp 47)) none [24,14,0,1,2,3,4,5,6,7,8,9,10,11,12,13,14,15,16,17,18,19,20,21,22,23,24]]
def l61:AFn :=
  (AFn.mk 48 2 (.seq (.reg l61r0) (.seq (.reg l61r1) (.seq (.seq (.reg l61r2) (.cond (.tmp 22) (.seq (.reg l61r3) .ret) .skip)) (.seq (.reg l61r4) .ret)))) [.tmp 4])
theorem l61_eq:lowFn Tryd.prog 61=some l61:=by kernel_rfl
def l62r0:List AOper :=
  [.mk (some 2) (.mv (.const (.bool false))) none []]
def l62r1:List AOper :=
  [.mk (some 3) (.mv (.tmp 0)) none [],.mk (some 4) (.len (.tmp 3)) none [0],.mk (some 5) (.bin .leq (.tmp 4) (.const (.int .i64 60))) none [1],.mk (some 6) (.mv (.tmp 5)) none [2],.mk (some 7) (.mv (.tmp 0)) (some (6,true)) [3],.mk (some 8) (.call 88 [.tmp 7,.const (.int .i64 0),.const (.int .i64 255)]) (some (6,true)) [4,3,3],.mk (some 9) (.pick (.tmp 6) (.tmp 8) (.const (.bool false))) none [3,5],.mk (some 2) (.mv (.tmp 9)) none [6,5,0,1,2,3,4,5,6]]
def l62:AFn :=
  (AFn.mk 10 1 (.seq (.reg l62r0) (.seq (.reg l62r1) .ret)) [.tmp 2])
theorem l62_eq:lowFn Tryd.prog 62=some l62:=by kernel_rfl
def l63r0:List AOper :=
  [.mk (some 2) (.mv (.const (.slice none 0 0))) none []]
def l63r1:List AOper :=
  [.mk (some 3) (.bslice 1 [.int .i64 0] [] 0) none [],.mk (some 4) (.mv (.tmp 0)) none [],.mk (some 5) (.append 1 (.tmp 3) (.tmp 4)) none [0,1],.mk (some 2) (.mv (.tmp 5)) none [2,2,0,1,2]]
def l63:AFn :=
  (AFn.mk 6 1 (.seq (.reg l63r0) (.seq (.reg l63r1) .ret)) [.tmp 2])
theorem l63_eq:lowFn Tryd.prog 63=some l63:=by kernel_rfl
def l64r0:List AOper :=
  [.mk (some 1) (.box (.tmp 0)) none [],.mk (some 2) (.alloc [.int .i64 0,.slice none 0 0,.slice none 0 0]) none []]
def l64r1a:List AOper :=
  [.mk (some 3) (.fld 0 (.tmp 1)) none [],.mk (some 4) (.load false 1 (.tmp 3)) none [0],.mk (some 5) (.fld 1 (.tmp 1)) none [],.mk (some 6) (.load false 1 (.tmp 5)) none [2],.mk (some 7) (.call 63 [.tmp 6]) none [3],.mk (some 8) (.fld 2 (.tmp 1)) none [],.mk (some 9) (.load false 1 (.tmp 8)) none [5],.mk (some 10) (.call 63 [.tmp 9]) none [6,4]]
def l64r1b:List AOper :=
  [.mk (some 11) (.build [.int .i64 0,.slice none 0 0,.slice none 0 0] [(0,1,.tmp 4),(1,1,.tmp 7),(2,1,.tmp 10)]) none [1,4,7],.mk none (.store 3 (.tmp 2) (.tmp 11)) none [8,7,0,1,2,3,4,5,6,7,8]]
def l64r1:List AOper:=l64r1a ++ l64r1b
def l64:AFn :=
  (AFn.mk 12 1 (.seq (.reg l64r0) (.seq (.draw l64r1) .ret)) [.cell 2 true 3])
theorem l64_eq:lowFn Tryd.prog 64=some l64:=by kernel_rfl
def l65r0:List AOper :=
  [.mk (some 1) (.box (.tmp 0)) none [],.mk (some 2) (.alloc [.int .i64 0,.int .i64 0,.slice none 0 0,.slice none 0 0,.bool false]) none []]
def l65r1:List AOper :=
  [.mk (some 3) (.alloc [.int .i64 0,.int .i64 0,.slice none 0 0,.slice none 0 0,.bool false]) none []]
def l65r2:List AOper :=
  [.mk (some 4) (.fld 0 (.tmp 1)) none [],.mk (some 5) (.load false 1 (.tmp 4)) none [0],.mk (some 6) (.fld 0 (.tmp 3)) none [0,1],.mk none (.store 1 (.tmp 6) (.tmp 5)) none [2,1,0,1]]
def l65r3:List AOper :=
  [.mk (some 7) (.fld 1 (.tmp 1)) none [],.mk (some 8) (.load true 3 (.tmp 7)) none [0],.mk (some 9) (.call 23 [.tmp 8]) none [1],.mk (some 10) (.fld 1 (.tmp 3)) none [0,1,2],.mk none (.store 3 (.tmp 10) (.tmp 9)) none [3,2,2,0,1,2]]
def l65r4:List AOper :=
  [.mk (some 11) (.fld 4 (.tmp 1)) none [],.mk (some 12) (.load false 1 (.tmp 11)) none [0],.mk (some 13) (.fld 4 (.tmp 3)) none [0,1],.mk none (.store 1 (.tmp 13) (.tmp 12)) none [2,1,0,1]]
def l65r5:List AOper :=
  [.mk (some 14) (.load true 5 (.tmp 3)) none [],.mk none (.store 5 (.tmp 2) (.tmp 14)) none [0,0]]
def l65:AFn :=
  (AFn.mk 15 1 (.seq (.reg l65r0) (.seq (.reg l65r1) (.seq (.reg l65r2) (.seq (.reg l65r3) (.seq (.reg l65r4) (.seq (.reg l65r5) .ret)))))) [.cell 2 true 5])
theorem l65_eq:lowFn Tryd.prog 65=some l65:=by kernel_rfl
def l66r0:List AOper :=
  [.mk (some 4) (.mv (.const (.bool false))) none []]
def l66r1:List AOper :=
  [.mk (some 5) (.mv (.tmp 0)) none [],.mk (some 6) (.bin .leq (.const (.int .i64 0)) (.tmp 5)) none [0],.mk (some 7) (.mv (.tmp 6)) none [1],.mk (some 8) (.mv (.tmp 0)) (some (7,true)) [2],.mk (some 9) (.mv (.tmp 1)) (some (7,true)) [2],.mk (some 10) (.bin .leq (.tmp 8) (.tmp 9)) (some (7,true)) [3,4,2],.mk (some 11) (.pick (.tmp 7) (.tmp 10) (.const (.bool false))) none [2,5],.mk (some 4) (.mv (.tmp 11)) none [6,2,0,1,2,3,4,5,6]]
def l66:AFn :=
  (AFn.mk 12 2 (.seq (.reg l66r0) (.seq (.reg l66r1) .ret)) [.tmp 4])
theorem l66_eq:lowFn Tryd.prog 66=some l66:=by kernel_rfl
def l68r0:List AOper :=
  [.mk (some 6) (.mv (.const (.bool false))) none []]
def l68r1:List AOper :=
  [.mk (some 14) (.mv (.tmp 2)) none [],.mk (some 15) (.mv (.tmp 14)) none [0],.mk (some 16) (.mv (.tmp 0)) (some (15,true)) [1],.mk (some 17) (.mv (.tmp 1)) (some (15,true)) [1],.mk (some 18) (.bin .eql (.tmp 16) (.tmp 17)) (some (15,true)) [2,3,1],.mk (some 19) (.pick (.tmp 15) (.tmp 18) (.const (.bool false))) none [1,4]]
def l68r2:List AOper :=
  [.mk (some 6) (.mv (.const (.bool true))) none []]
def l68r3:List AOper :=
  [.mk (some 21) (.mv (.tmp 0)) none [],.mk (some 22) (.raw (Op.typeAssert (.tmp 21) 59 112 true)) none [0],.mk (some 20) (.mv (.tmp 22)) none [1],.mk (some 23) (.extract (.tmp 20) 0) none [2],.mk (some 24) (.extract (.tmp 20) 1) none [2],.mk (some 7) (.mv (.tmp 23)) none [3,0,1,2,3],.mk (some 8) (.mv (.tmp 24)) none [4,5,0,1,2,3,4,5]]
def l68r4:List AOper :=
  [.mk (some 25) (.mv (.tmp 8)) none [],.mk (some 26) (.mv (.tmp 25)) none [0],.mk (some 27) (.mv (.tmp 7)) (some (26,true)) [1],.mk (some 28) (.mv (.tmp 1)) (some (26,true)) [1],.mk (some 29) (.raw (Op.call (Call.mk (Callee.invoke (.tmp 27) "Is") (Array.mk [.tmp 28]) (Array.mk [59])))) (some (26,true)) [2,3,1,1],.mk (some 30) (.pick (.tmp 26) (.tmp 29) (.const (.bool false))) none [1,4]]
def l68r5:List AOper :=
  [.mk (some 6) (.mv (.const (.bool true))) none []]
def l68r6:List AOper :=
  [.mk (some 31) (.mv (.tmp 0)) none []]
def l68r7:List AOper :=
  [.mk (some 32) (.raw (Op.typeAssert (.tmp 31) 59 115 true)) none [],.mk (some 33) (.extract (.tmp 32) 1) none [0],.mk (some 34) (.extract (.tmp 32) 0) none [0]]
def l68r8:List AOper :=
  [.mk (some 9) (.mv (.tmp 34)) none []]
def l68r9:List AOper :=
  [.mk (some 35) (.mv (.tmp 9)) none [],.mk (some 36) (.raw (Op.call (Call.mk (Callee.invoke (.tmp 35) "Unwrap") (Array.mk []) (Array.mk [])))) none [0],.mk (some 0) (.mv (.tmp 36)) none [1,1,0,1]]
def l68r10:List AOper :=
  [.mk (some 37) (.mv (.tmp 0)) none [],.mk (some 38) (.bin .eql (.tmp 37) (.const .nilIface)) none [0]]
def l68r11:List AOper :=
  [.mk (some 6) (.mv (.const (.bool false))) none []]
def l68r12:List AOper :=
  [.mk (some 39) (.raw (Op.typeAssert (.tmp 31) 59 116 true)) none [],.mk (some 40) (.extract (.tmp 39) 1) none [0],.mk (some 41) (.extract (.tmp 39) 0) none [0]]
def l68r13:List AOper :=
  [.mk (some 10) (.mv (.tmp 41)) none []]
def l68r14:List AOper :=
  [.mk (some 42) (.mv (.tmp 10)) none [],.mk (some 43) (.raw (Op.call (Call.mk (Callee.invoke (.tmp 42) "Unwrap") (Array.mk []) (Array.mk [])))) none [0],.mk (some 44) (.len (.tmp 43)) none [1],.mk (some 45) (.mv (.const (.int .i64 0))) none []]
def l68r15:List AOper :=
  [.mk (some 46) (.bin .lss (.tmp 45) (.tmp 44)) none []]
def l68r16:List AOper :=
  [.mk (some 47) (.idxA 1 (.tmp 43) (.tmp 45)) none [],.mk (some 48) (.load false 1 (.tmp 47)) none [0],.mk (some 12) (.mv (.tmp 48)) none [1,0,1]]
def l68r17:List AOper :=
  [.mk (some 49) (.mv (.tmp 12)) none [],.mk (some 50) (.mv (.tmp 1)) none [],.mk (some 51) (.mv (.tmp 2)) none [],.mk (some 52) (.call 68 [.tmp 49,.tmp 50,.tmp 51]) none [0,1,2]]
def l68r18:List AOper :=
  [.mk (some 6) (.mv (.const (.bool true))) none []]
def l68r19:List AOper :=
  [.mk (some 53) (.bin .add (.tmp 45) (.const (.int .i64 1))) none [],.mk (some 45) (.mv (.tmp 53)) none [0]]
def l68r20:List AOper :=
  [.mk (some 6) (.mv (.const (.bool false))) none []]
def l68r21:List AOper :=
  [.mk (some 13) (.mv (.tmp 31)) none []]
def l68r22:List AOper :=
  [.mk (some 6) (.mv (.const (.bool false))) none []]
def l68:AFn :=
  (AFn.mk 54 3 (.seq (.reg l68r0) (.block 0 (.loop (.block 1 (.seq (.seq (.reg l68r1) (.cond (.tmp 19) (.seq (.reg l68r2) .ret) .skip)) (.seq (.seq (.reg l68r3) (.seq (.reg l68r4) (.cond (.tmp 30) (.seq (.reg l68r5) .ret) .skip))) (.seq (.reg l68r6) (.block 2 (.seq (.reg l68r7) (.cond (.tmp 33) (.seq (.reg l68r8) (.seq (.reg l68r9) (.seq (.reg l68r10) (.cond (.tmp 38) (.seq (.reg l68r11) .ret) .skip)))) (.seq (.reg l68r12) (.cond (.tmp 40) (.seq (.reg l68r13) (.seq (.seq (.reg l68r14) (.block 3 (.loop (.seq (.reg l68r15) (.seq (.cond (.tmp 46) .skip (.exit 3)) (.seq (.block 4 (.seq (.reg l68r16) (.seq (.reg l68r17) (.cond (.tmp 52) (.seq (.reg l68r18) .ret) .skip)))) (.reg l68r19))))))) (.seq (.reg l68r20) .ret))) (.seq (.reg l68r21) (.seq (.reg l68r22) .ret)))))))))))))) [.tmp 6])
theorem l68_eq:lowFn Tryd.prog 68=some l68:=by kernel_rfl
def l69r0:List AOper :=
  [.mk (some 6) (.mv (.const (.pointer none))) none []]
def l69r1:List AOper :=
  [.mk (some 7) (.mv (.tmp 2)) none []]
def l69r2:List AOper :=
  [.mk (some 8) (.mv (.tmp 0)) none [],.mk (some 9) (.mv (.tmp 0)) none [],.mk (some 10) (.nilck (.tmp 9)) none [1],.mk (some 11) (.fld 0 (.tmp 10)) none [2],.mk (some 12) (.load false 1 (.tmp 11)) none [3],.mk (some 13) (.mv (.tmp 1)) none [],.mk (some 14) (.bslice 1 [.int .i64 0] [(0,.tmp 13)] 1) none [5],.mk (some 15) (.append 1 (.tmp 12) (.tmp 14)) none [4,6],.mk (some 16) (.nilck (.tmp 8)) none [0,0,1,2,3,4,5,6,7],.mk (some 17) (.fld 0 (.tmp 16)) none [8,0,1,2,3,4,5,6,7],.mk none (.store 1 (.tmp 17) (.tmp 15)) none [9,7,7,0,1,2,3,4,5,6,7]]
def l69r3:List AOper :=
  [.mk (some 18) (.build [.slice none 0 0] []) none [],.mk (some 19) (.box (.tmp 18)) none [0],.mk (some 6) (.mv (.tmp 19)) none [1,0,1]]
def l69:AFn :=
  (AFn.mk 20 3 (.seq (.reg l69r0) (.seq (.seq (.reg l69r1) (.cond (.tmp 7) (.reg l69r2) .skip)) (.seq (.reg l69r3) .ret))) [.tmp 6])
theorem l69_eq:lowFn Tryd.prog 69=some l69:=by kernel_rfl
def l70r0:List AOper :=
  [.mk (some 2) (.mv (.const (.slice none 0 0))) none []]
def l70r1:List AOper :=
  [.mk (some 3) (.mv (.tmp 0)) none [],.mk (some 4) (.isnil false (.tmp 3)) none [0]]
def l70r2:List AOper :=
  [.mk (some 2) (.mv (.const (.slice none 0 0))) none []]
def l70r3:List AOper :=
  [.mk (some 5) (.bslice 1 [.int .i64 0] [] 0) none [],.mk (some 6) (.mv (.tmp 0)) none [],.mk (some 7) (.append 1 (.tmp 5) (.tmp 6)) none [0,1],.mk (some 2) (.mv (.tmp 7)) none [2,2,0,1,2]]
def l70:AFn :=
  (AFn.mk 8 1 (.seq (.reg l70r0) (.seq (.seq (.reg l70r1) (.cond (.tmp 4) (.seq (.reg l70r2) .ret) .skip)) (.seq (.reg l70r3) .ret))) [.tmp 2])
theorem l70_eq:lowFn Tryd.prog 70=some l70:=by kernel_rfl
def l71r0:List AOper :=
  [.mk (some 1) (.box (.tmp 0)) none [],.mk (some 2) (.alloc [.int .i64 0,.slice none 0 0,.slice none 0 0]) none []]
def l71r1a:List AOper :=
  [.mk (some 3) (.fld 0 (.tmp 1)) none [],.mk (some 4) (.load false 1 (.tmp 3)) none [0],.mk (some 5) (.fld 1 (.tmp 1)) none [],.mk (some 6) (.load false 1 (.tmp 5)) none [2],.mk (some 7) (.call 70 [.tmp 6]) none [3],.mk (some 8) (.fld 2 (.tmp 1)) none [],.mk (some 9) (.load false 1 (.tmp 8)) none [5],.mk (some 10) (.call 70 [.tmp 9]) none [6,4]]
def l71r1b:List AOper :=
  [.mk (some 11) (.build [.int .i64 0,.slice none 0 0,.slice none 0 0] [(0,1,.tmp 4),(1,1,.tmp 7),(2,1,.tmp 10)]) none [1,4,7],.mk none (.store 3 (.tmp 2) (.tmp 11)) none [8,7,0,1,2,3,4,5,6,7,8]]
def l71r1:List AOper:=l71r1a ++ l71r1b
def l71:AFn :=
  (AFn.mk 12 1 (.seq (.reg l71r0) (.seq (.draw l71r1) .ret)) [.cell 2 true 3])
theorem l71_eq:lowFn Tryd.prog 71=some l71:=by kernel_rfl
def l72r0:List AOper :=
  [.mk (some 2) (.box (.tmp 0)) none [],.mk (some 3) (.box (.tmp 1)) none [],.mk (some 4) (.mv (.const (.bool false))) none []]
def l72r1:List AOper :=
  [.mk (some 5) (.fld 0 (.tmp 2)) none [],.mk (some 6) (.load false 1 (.tmp 5)) none [0],.mk (some 7) (.fld 0 (.tmp 3)) none [],.mk (some 8) (.load false 1 (.tmp 7)) none [2],.mk (some 9) (.bin .neq (.tmp 6) (.tmp 8)) none [1,3]]
def l72r2:List AOper :=
  [.mk (some 4) (.mv (.const (.bool false))) none []]
def l72r3:List AOper :=
  [.mk (some 10) (.fld 1 (.tmp 2)) none [],.mk (some 11) (.load true 3 (.tmp 10)) none [0],.mk (some 12) (.fld 1 (.tmp 3)) none [],.mk (some 13) (.load true 3 (.tmp 12)) none [2],.mk (some 14) (.call 25 [.tmp 11,.tmp 13]) none [1,3],.mk (some 15) (.un .not (.tmp 14)) none [4]]
def l72r4:List AOper :=
  [.mk (some 4) (.mv (.const (.bool false))) none []]
def l72r5:List AOper :=
  [.mk (some 16) (.fld 4 (.tmp 2)) none [],.mk (some 17) (.load false 1 (.tmp 16)) none [0],.mk (some 18) (.fld 4 (.tmp 3)) none [],.mk (some 19) (.load false 1 (.tmp 18)) none [2],.mk (some 20) (.binB .neq (.tmp 17) (.tmp 19)) none [1,3]]
def l72r6:List AOper :=
  [.mk (some 4) (.mv (.const (.bool false))) none []]
def l72r7:List AOper :=
  [.mk (some 4) (.mv (.const (.bool true))) none []]
def l72:AFn :=
  (AFn.mk 21 2 (.seq (.reg l72r0) (.seq (.seq (.reg l72r1) (.cond (.tmp 9) (.seq (.reg l72r2) .ret) .skip)) (.seq (.seq (.reg l72r3) (.cond (.tmp 15) (.seq (.reg l72r4) .ret) .skip)) (.seq (.seq (.reg l72r5) (.cond (.tmp 20) (.seq (.reg l72r6) .ret) .skip)) (.seq (.reg l72r7) .ret))))) [.tmp 4])
theorem l72_eq:lowFn Tryd.prog 72=some l72:=by kernel_rfl
def l73r0:List AOper :=
  [.mk (some 3) (.box (.tmp 1)) none [],.mk (some 4) (.mv (.const (.bool false))) none []]
def l73r1:List AOper :=
  [.mk (some 5) (.mv (.tmp 0)) none [],.mk (some 6) (.call 62 [.tmp 5]) none [0],.mk (some 7) (.mv (.tmp 6)) none [1,1],.mk (some 8) (.load true 3 (.tmp 3)) (some (7,true)) [2],.mk (some 9) (.call 55 [.tmp 8]) (some (7,true)) [3,2,2],.mk (some 10) (.pick (.tmp 7) (.tmp 9) (.const (.bool false))) none [2,4],.mk (some 11) (.mv (.tmp 10)) none [5,4],.mk (some 12) (.load true 3 (.tmp 3)) (some (11,true)) [6],.mk (some 13) (.mv (.tmp 0)) (some (11,true)) [6],.mk (some 14) (.len (.tmp 13)) (some (11,true)) [8,6],.mk (some 15) (.call 56 [.tmp 12,.tmp 14]) (some (11,true)) [7,9,6,6],.mk (some 16) (.pick (.tmp 11) (.tmp 15) (.const (.bool false))) none [6,10],.mk (some 4) (.mv (.tmp 16)) none [11,10,0,1,2,3,4,5,6,7,8,9,10,11]]
def l73:AFn :=
  (AFn.mk 17 2 (.seq (.reg l73r0) (.seq (.reg l73r1) .ret)) [.tmp 4])
theorem l73_eq:lowFn Tryd.prog 73=some l73:=by kernel_rfl
def l74r0:List AOper :=
  [.mk (some 1) (.box (.tmp 0)) none [],.mk (some 2) (.mv (.const (.slice none 0 0))) none []]
def l74r1:List AOper :=
  [.mk (some 5) (.bslice 1 [.int .i64 0] [] 0) none [],.mk (some 3) (.mv (.tmp 5)) none [0,0]]
def l74r2:List AOper :=
  [.mk (some 4) (.mv (.const (.int .i64 0))) none []]
def l74r3:List AOper :=
  [.mk (some 6) (.mv (.tmp 4)) none [],.mk (some 7) (.fld 1 (.tmp 1)) none [],.mk (some 8) (.load false 1 (.tmp 7)) none [1],.mk (some 9) (.call 89 [.tmp 8]) none [2],.mk (some 10) (.bin .lss (.tmp 6) (.tmp 9)) none [0,3]]
def l74r4a:List AOper :=
  [.mk (some 13) (.mv (.tmp 3)) none [],.mk (some 14) (.load true 3 (.tmp 1)) none [],.mk (some 15) (.fld 1 (.tmp 1)) none [],.mk (some 16) (.load false 1 (.tmp 15)) none [2],.mk (some 17) (.mv (.tmp 4)) none [],.mk (some 18) (.call 93 [.tmp 16,.tmp 17]) none [3,4],.mk (some 19) (.call 92 [.tmp 14,.tmp 18]) none [1,5,5],.mk (some 20) (.bslice 1 [.int .i64 0] [(0,.tmp 19)] 1) none [6]]
def l74r4b:List AOper :=
  [.mk (some 21) (.append 1 (.tmp 13) (.tmp 20)) none [0,7,6],.mk (some 3) (.mv (.tmp 21)) none [8,8,0,1,2,3,4,5,6,7,8]]
def l74r4:List AOper:=l74r4a ++ l74r4b
def l74r5:List AOper :=
  [.mk (some 11) (.mv (.tmp 4)) none [],.mk (some 12) (.bin .add (.tmp 11) (.const (.int .i64 1))) none [0],.mk (some 4) (.mv (.tmp 12)) none [1,0,1]]
def l74r6:List AOper :=
  [.mk (some 22) (.mv (.tmp 3)) none [],.mk (some 2) (.mv (.tmp 22)) none [0,0]]
def l74:AFn :=
  (AFn.mk 23 1 (.seq (.reg l74r0) (.seq (.reg l74r1) (.seq (.seq (.reg l74r2) (.block 0 (.loop (.seq (.seq (.reg l74r3) (.cond (.tmp 10) .skip (.exit 0))) (.seq (.block 1 (.draw l74r4)) (.reg l74r5)))))) (.seq (.reg l74r6) .ret)))) [.tmp 2])
theorem l74_eq:lowFn Tryd.prog 74=some l74:=by kernel_rfl
def l75r0:List AOper :=
  [.mk (some 3) (.box (.tmp 1)) none [],.mk (some 4) (.mv (.const (.bool false))) none []]
def l75r1:List AOper :=
  [.mk (some 5) (.mv (.tmp 0)) none [],.mk (some 6) (.call 85 [.tmp 5]) none [0],.mk (some 7) (.mv (.tmp 6)) none [1,1],.mk (some 8) (.load true 3 (.tmp 3)) (some (7,true)) [2],.mk (some 9) (.mv (.tmp 0)) (some (7,true)) [2],.mk (some 10) (.len (.tmp 9)) (some (7,true)) [4,2],.mk (some 11) (.call 58 [.tmp 8,.tmp 10]) (some (7,true)) [3,5,2,2],.mk (some 12) (.pick (.tmp 7) (.tmp 11) (.const (.bool false))) none [2,6],.mk (some 4) (.mv (.tmp 12)) none [7,6,0,1,2,3,4,5,6,7]]
def l75:AFn :=
  (AFn.mk 13 2 (.seq (.reg l75r0) (.seq (.reg l75r1) .ret)) [.tmp 4])
theorem l75_eq:lowFn Tryd.prog 75=some l75:=by kernel_rfl
def l76r0:List AOper :=
  [.mk (some 2) (.mv (.const (.bool false))) none []]
def l76r1:List AOper :=
  [.mk (some 5) (.mv (.tmp 0)) none [],.mk (some 6) (.len (.tmp 5)) none [0],.mk (some 7) (.mv (.const (.int .i64 0))) none []]
def l76r2:List AOper :=
  [.mk (some 8) (.bin .lss (.tmp 7) (.tmp 6)) none []]
def l76r3:List AOper :=
  [.mk (some 9) (.idxA 1 (.tmp 5) (.tmp 7)) none [],.mk (some 10) (.load false 1 (.tmp 9)) none [0],.mk (some 4) (.mv (.tmp 10)) none [1,0,1]]
def l76r4:List AOper :=
  [.mk (some 11) (.mv (.tmp 4)) none [],.mk (some 12) (.call 66 [.tmp 11,.const (.int .i64 255)]) none [0],.mk (some 13) (.un .not (.tmp 12)) none [1]]
def l76r5:List AOper :=
  [.mk (some 2) (.mv (.const (.bool false))) none []]
def l76r6:List AOper :=
  [.mk (some 14) (.bin .add (.tmp 7) (.const (.int .i64 1))) none [],.mk (some 7) (.mv (.tmp 14)) none [0]]
def l76r7:List AOper :=
  [.mk (some 2) (.mv (.const (.bool true))) none []]
def l76:AFn :=
  (AFn.mk 15 1 (.seq (.reg l76r0) (.seq (.seq (.reg l76r1) (.block 0 (.loop (.seq (.reg l76r2) (.seq (.cond (.tmp 8) .skip (.exit 0)) (.seq (.block 1 (.seq (.reg l76r3) (.seq (.reg l76r4) (.cond (.tmp 13) (.seq (.reg l76r5) .ret) .skip)))) (.reg l76r6))))))) (.seq (.reg l76r7) .ret))) [.tmp 2])
theorem l76_eq:lowFn Tryd.prog 76=some l76:=by kernel_rfl
def l77r0:List AOper :=
  [.mk (some 4) (.box (.tmp 1)) none [],.mk (some 6) (.mv (.const (.slice none 0 0))) none []]
def l77r1:List AOper :=
  [.mk (some 11) (.mv (.tmp 0)) none [],.mk (some 12) (.call 70 [.tmp 11]) none [0],.mk (some 7) (.mv (.tmp 12)) none [1,1,0,1]]
def l77r2a:List AOper :=
  [.mk (some 13) (.load true 3 (.tmp 4)) none [],.mk (some 14) (.call 94 [.tmp 13]) none [0],.mk (some 15) (.load true 3 (.tmp 4)) none []]
def l77r2b:List AOper :=
  [.mk (some 16) (.call 95 [.tmp 15]) none [2,1],.mk (some 8) (.mv (.tmp 14)) none [1,3,0,1],.mk (some 9) (.mv (.tmp 16)) none [3,4,0,1,2,3,4]]
def l77r2:List AOper:=l77r2a ++ l77r2b
def l77r3:List AOper :=
  [.mk (some 10) (.mv (.const (.int .i64 0))) none []]
def l77r4:List AOper :=
  [.mk (some 17) (.mv (.tmp 10)) none [],.mk (some 18) (.mv (.tmp 8)) none [],.mk (some 19) (.len (.tmp 18)) none [1],.mk (some 20) (.bin .lss (.tmp 17) (.tmp 19)) none [0,2]]
def l77r5:List AOper :=
  [.mk (some 24) (.mv (.tmp 7)) none [],.mk (some 25) (.mv (.tmp 8)) none [],.mk (some 26) (.mv (.tmp 10)) none [],.mk (some 27) (.idxA 1 (.tmp 25) (.tmp 26)) none [1,2],.mk (some 28) (.load false 1 (.tmp 27)) none [3],.mk (some 29) (.mv (.tmp 9)) none [],.mk (some 30) (.call 96 [.tmp 24,.tmp 28,.tmp 29]) none [0,4,5],.mk (some 31) (.mv (.tmp 2)) none [],.mk (some 32) (.mv (.tmp 10)) none [],.mk (some 33) (.mv (.tmp 9)) none [],.mk (some 34) (.call 96 [.tmp 31,.tmp 32,.tmp 33]) none [7,8,9,6],.mk (some 35) (.cpy 1 (.tmp 30) (.tmp 34)) none [6,10,10]]
def l77r6:List AOper :=
  [.mk (some 21) (.mv (.tmp 10)) none [],.mk (some 22) (.mv (.tmp 9)) none [],.mk (some 23) (.bin .add (.tmp 21) (.tmp 22)) none [0,1],.mk (some 10) (.mv (.tmp 23)) none [2,0,1,2]]
def l77r7:List AOper :=
  [.mk (some 36) (.mv (.tmp 7)) none [],.mk (some 6) (.mv (.tmp 36)) none [0,0]]
def l77:AFn :=
  (AFn.mk 37 3 (.seq (.reg l77r0) (.seq (.reg l77r1) (.seq (.draw l77r2) (.seq (.seq (.reg l77r3) (.block 0 (.loop (.seq (.seq (.reg l77r4) (.cond (.tmp 20) .skip (.exit 0))) (.seq (.block 1 (.reg l77r5)) (.reg l77r6)))))) (.seq (.reg l77r7) .ret))))) [.tmp 6])
theorem l77_eq:lowFn Tryd.prog 77=some l77:=by kernel_rfl
def l79r0:List AOper :=
  [.mk (some 1) (.box (.tmp 0)) none [],.mk (some 2) (.mv (.const (.int .i64 0))) none []]
def l79r1:List AOper :=
  [.mk (some 3) (.fld 1 (.tmp 1)) none [],.mk (some 4) (.load false 1 (.tmp 3)) none [0],.mk (some 5) (.call 98 [.tmp 4]) none [1],.mk (some 2) (.mv (.tmp 5)) none [2,2,0,1,2]]
def l79:AFn :=
  (AFn.mk 6 1 (.seq (.reg l79r0) (.seq (.reg l79r1) .ret)) [.tmp 2])
theorem l79_eq:lowFn Tryd.prog 79=some l79:=by kernel_rfl
def l80r0:List AOper :=
  [.mk (some 4) (.box (.tmp 1)) none [],.mk (some 5) (.box (.tmp 2)) none [],.mk (some 6) (.mv (.const (.bool false))) none []]
def l80r1:List AOper :=
  [.mk (some 7) (.mv (.tmp 0)) none [],.mk (some 8) (.load true 3 (.tmp 4)) none [],.mk (some 9) (.call 73 [.tmp 7,.tmp 8]) none [0,1],.mk (some 10) (.mv (.tmp 9)) none [2,2],.mk (some 11) (.mv (.tmp 0)) (some (10,true)) [3],.mk (some 12) (.load true 3 (.tmp 5)) (some (10,true)) [3],.mk (some 13) (.call 73 [.tmp 11,.tmp 12]) (some (10,true)) [4,5,3,3],.mk (some 14) (.pick (.tmp 10) (.tmp 13) (.const (.bool false))) none [3,6],.mk (some 15) (.mv (.tmp 14)) none [7,6],.mk (some 16) (.fld 1 (.tmp 4)) (some (15,true)) [8],.mk (some 17) (.load false 1 (.tmp 16)) (some (15,true)) [9,8],.mk (some 18) (.fld 1 (.tmp 5)) (some (15,true)) [8],.mk (some 19) (.load false 1 (.tmp 18)) (some (15,true)) [11,8],.mk (some 20) (.call 99 [.tmp 17,.tmp 19]) (some (15,true)) [10,12,8,8],.mk (some 21) (.pick (.tmp 15) (.tmp 20) (.const (.bool false))) none [8,13],.mk (some 6) (.mv (.tmp 21)) none [14,13,0,1,2,3,4,5,6,7,8,9,10,11,12,13,14]]
def l80:AFn :=
  (AFn.mk 22 3 (.seq (.reg l80r0) (.seq (.reg l80r1) .ret)) [.tmp 6])
theorem l80_eq:lowFn Tryd.prog 80=some l80:=by kernel_rfl
def l81r0:List AOper :=
  [.mk (some 4) (.box (.tmp 1)) none [],.mk (some 6) (.mv (.const (.slice none 0 0))) none []]
def l81r1:List AOper :=
  [.mk (some 10) (.mv (.tmp 0)) none [],.mk (some 11) (.call 63 [.tmp 10]) none [0],.mk (some 7) (.mv (.tmp 11)) none [1,1,0,1]]
def l81r2:List AOper :=
  [.mk (some 12) (.load true 3 (.tmp 4)) none [],.mk (some 13) (.call 74 [.tmp 12]) none [0],.mk (some 8) (.mv (.tmp 13)) none [1,1,0,1]]
def l81r3:List AOper :=
  [.mk (some 9) (.mv (.const (.int .i64 0))) none []]
def l81r4:List AOper :=
  [.mk (some 14) (.mv (.tmp 9)) none [],.mk (some 15) (.mv (.tmp 8)) none [],.mk (some 16) (.len (.tmp 15)) none [1],.mk (some 17) (.bin .lss (.tmp 14) (.tmp 16)) none [0,2]]
def l81r5a:List AOper :=
  [.mk (some 20) (.mv (.tmp 7)) none [],.mk (some 21) (.mv (.tmp 8)) none [],.mk (some 22) (.mv (.tmp 9)) none [],.mk (some 23) (.idxA 1 (.tmp 21) (.tmp 22)) none [1,2],.mk (some 24) (.load false 1 (.tmp 23)) none [3],.mk (some 25) (.mv (.tmp 2)) none [],.mk (some 26) (.mv (.tmp 9)) none [],.mk (some 27) (.idxA 1 (.tmp 25) (.tmp 26)) none [5,6],.mk (some 28) (.load false 1 (.tmp 27)) none [7]]
def l81r5b:List AOper :=
  [.mk (some 29) (.idxA 1 (.tmp 20) (.tmp 24)) none [0,4,0,1,2,3,4,5,6,7,8],.mk none (.store 1 (.tmp 29) (.tmp 28)) none [9,8,0,1,2,3,4,5,6,7,8]]
def l81r5:List AOper:=l81r5a ++ l81r5b
def l81r6:List AOper :=
  [.mk (some 18) (.mv (.tmp 9)) none [],.mk (some 19) (.bin .add (.tmp 18) (.const (.int .i64 1))) none [0],.mk (some 9) (.mv (.tmp 19)) none [1,0,1]]
def l81r7:List AOper :=
  [.mk (some 30) (.mv (.tmp 7)) none [],.mk (some 6) (.mv (.tmp 30)) none [0,0]]
def l81:AFn :=
  (AFn.mk 31 3 (.seq (.reg l81r0) (.seq (.reg l81r1) (.seq (.reg l81r2) (.seq (.seq (.reg l81r3) (.block 0 (.loop (.seq (.seq (.reg l81r4) (.cond (.tmp 17) .skip (.exit 0))) (.seq (.block 1 (.draw l81r5)) (.reg l81r6)))))) (.seq (.reg l81r7) .ret))))) [.tmp 6])
theorem l81_eq:lowFn Tryd.prog 81=some l81:=by kernel_rfl
def l82r0:List AOper :=
  [.mk (some 3) (.box (.tmp 1)) none [],.mk (some 4) (.mv (.const (.slice none 0 0))) none []]
def l82r1:List AOper :=
  [.mk (some 8) (.bslice 1 [.int .i64 0] [] 0) none [],.mk (some 5) (.mv (.tmp 8)) none [0,0]]
def l82r2:List AOper :=
  [.mk (some 9) (.load true 3 (.tmp 3)) none [],.mk (some 10) (.call 74 [.tmp 9]) none [0],.mk (some 6) (.mv (.tmp 10)) none [1,1,0,1]]
def l82r3:List AOper :=
  [.mk (some 7) (.mv (.const (.int .i64 0))) none []]
def l82r4:List AOper :=
  [.mk (some 11) (.mv (.tmp 7)) none [],.mk (some 12) (.mv (.tmp 6)) none [],.mk (some 13) (.len (.tmp 12)) none [1],.mk (some 14) (.bin .lss (.tmp 11) (.tmp 13)) none [0,2]]
def l82r5:List AOper :=
  [.mk (some 17) (.mv (.tmp 5)) none [],.mk (some 18) (.mv (.tmp 0)) none [],.mk (some 19) (.mv (.tmp 6)) none [],.mk (some 20) (.mv (.tmp 7)) none [],.mk (some 21) (.idxA 1 (.tmp 19) (.tmp 20)) none [2,3],.mk (some 22) (.load false 1 (.tmp 21)) none [4],.mk (some 23) (.idxA 1 (.tmp 18) (.tmp 22)) none [1,5],.mk (some 24) (.load false 1 (.tmp 23)) none [6],.mk (some 25) (.bslice 1 [.int .i64 0] [(0,.tmp 24)] 1) none [7],.mk (some 26) (.append 1 (.tmp 17) (.tmp 25)) none [0,8],.mk (some 5) (.mv (.tmp 26)) none [9,9,0,1,2,3,4,5,6,7,8,9]]
def l82r6:List AOper :=
  [.mk (some 15) (.mv (.tmp 7)) none [],.mk (some 16) (.bin .add (.tmp 15) (.const (.int .i64 1))) none [0],.mk (some 7) (.mv (.tmp 16)) none [1,0,1]]
def l82r7:List AOper :=
  [.mk (some 27) (.mv (.tmp 5)) none [],.mk (some 4) (.mv (.tmp 27)) none [0,0]]
def l82:AFn :=
  (AFn.mk 28 2 (.seq (.reg l82r0) (.seq (.reg l82r1) (.seq (.reg l82r2) (.seq (.seq (.reg l82r3) (.block 0 (.loop (.seq (.seq (.reg l82r4) (.cond (.tmp 14) .skip (.exit 0))) (.seq (.block 1 (.reg l82r5)) (.reg l82r6)))))) (.seq (.reg l82r7) .ret))))) [.tmp 4])
theorem l82_eq:lowFn Tryd.prog 82=some l82:=by kernel_rfl
def l83r0:List AOper :=
  [.mk (some 4) (.box (.tmp 1)) none [],.mk (some 5) (.box (.tmp 2)) none [],.mk (some 6) (.mv (.const (.bool false))) none []]
def l83r1:List AOper :=
  [.mk (some 7) (.mv (.tmp 0)) none [],.mk (some 8) (.load true 3 (.tmp 4)) none [],.mk (some 9) (.call 75 [.tmp 7,.tmp 8]) none [0,1],.mk (some 10) (.mv (.tmp 9)) none [2,2],.mk (some 11) (.mv (.tmp 0)) (some (10,true)) [3],.mk (some 12) (.load true 3 (.tmp 5)) (some (10,true)) [3],.mk (some 13) (.call 75 [.tmp 11,.tmp 12]) (some (10,true)) [4,5,3,3],.mk (some 14) (.pick (.tmp 10) (.tmp 13) (.const (.bool false))) none [3,6],.mk (some 15) (.mv (.tmp 14)) none [7,6],.mk (some 16) (.fld 1 (.tmp 4)) (some (15,true)) [8],.mk (some 17) (.load false 1 (.tmp 16)) (some (15,true)) [9,8],.mk (some 18) (.fld 1 (.tmp 5)) (some (15,true)) [8],.mk (some 19) (.load false 1 (.tmp 18)) (some (15,true)) [11,8],.mk (some 20) (.call 100 [.tmp 17,.tmp 19]) (some (15,true)) [10,12,8,8],.mk (some 21) (.pick (.tmp 15) (.tmp 20) (.const (.bool false))) none [8,13],.mk (some 6) (.mv (.tmp 21)) none [14,13,0,1,2,3,4,5,6,7,8,9,10,11,12,13,14]]
def l83:AFn :=
  (AFn.mk 22 3 (.seq (.reg l83r0) (.seq (.reg l83r1) .ret)) [.tmp 6])
theorem l83_eq:lowFn Tryd.prog 83=some l83:=by kernel_rfl
def l84r0:List AOper :=
  [.mk (some 3) (.box (.tmp 1)) none [],.mk (some 4) (.mv (.const (.slice none 0 0))) none []]
def l84r1a:List AOper :=
  [.mk (some 9) (.load true 3 (.tmp 3)) none [],.mk (some 10) (.call 94 [.tmp 9]) none [0],.mk (some 11) (.load true 3 (.tmp 3)) none []]
def l84r1b:List AOper :=
  [.mk (some 12) (.call 95 [.tmp 11]) none [2,1],.mk (some 5) (.mv (.tmp 10)) none [1,3,0,1],.mk (some 6) (.mv (.tmp 12)) none [3,4,0,1,2,3,4]]
def l84r1:List AOper:=l84r1a ++ l84r1b
def l84r2:List AOper :=
  [.mk (some 13) (.mv (.tmp 5)) none [],.mk (some 14) (.len (.tmp 13)) none [0],.mk (some 15) (.mkslice 1 [.int .i64 0] (.tmp 14) (.tmp 14)) none [1,1],.mk (some 7) (.mv (.tmp 15)) none [2,0,1,2]]
def l84r3:List AOper :=
  [.mk (some 8) (.mv (.const (.int .i64 0))) none []]
def l84r4:List AOper :=
  [.mk (some 16) (.mv (.tmp 8)) none [],.mk (some 17) (.mv (.tmp 5)) none [],.mk (some 18) (.len (.tmp 17)) none [1],.mk (some 19) (.bin .lss (.tmp 16) (.tmp 18)) none [0,2]]
def l84r5a:List AOper :=
  [.mk (some 23) (.mv (.tmp 7)) none [],.mk (some 24) (.mv (.tmp 8)) none [],.mk (some 25) (.mv (.tmp 6)) none [],.mk (some 26) (.call 96 [.tmp 23,.tmp 24,.tmp 25]) none [0,1,2],.mk (some 27) (.mv (.tmp 0)) none [],.mk (some 28) (.mv (.tmp 5)) none [],.mk (some 29) (.mv (.tmp 8)) none [],.mk (some 30) (.idxA 1 (.tmp 28) (.tmp 29)) none [5,6],.mk (some 31) (.load false 1 (.tmp 30)) none [7],.mk (some 32) (.mv (.tmp 6)) none []]
def l84r5b:List AOper :=
  [.mk (some 33) (.call 96 [.tmp 27,.tmp 31,.tmp 32]) none [4,8,9,3],.mk (some 34) (.cpy 1 (.tmp 26) (.tmp 33)) none [3,10,10]]
def l84r5:List AOper:=l84r5a ++ l84r5b
def l84r6:List AOper :=
  [.mk (some 20) (.mv (.tmp 8)) none [],.mk (some 21) (.mv (.tmp 6)) none [],.mk (some 22) (.bin .add (.tmp 20) (.tmp 21)) none [0,1],.mk (some 8) (.mv (.tmp 22)) none [2,0,1,2]]
def l84r7:List AOper :=
  [.mk (some 35) (.mv (.tmp 7)) none [],.mk (some 4) (.mv (.tmp 35)) none [0,0]]
def l84:AFn :=
  (AFn.mk 36 2 (.seq (.reg l84r0) (.seq (.draw l84r1) (.seq (.reg l84r2) (.seq (.seq (.reg l84r3) (.block 0 (.loop (.seq (.seq (.reg l84r4) (.cond (.tmp 19) .skip (.exit 0))) (.seq (.block 1 (.draw l84r5)) (.reg l84r6)))))) (.seq (.reg l84r7) .ret))))) [.tmp 4])
theorem l84_eq:lowFn Tryd.prog 84=some l84:=by kernel_rfl
def l85r0:List AOper :=
  [.mk (some 2) (.mv (.const (.bool false))) none []]
def l85r1:List AOper :=
  [.mk (some 3) (.mv (.tmp 0)) none [],.mk (some 4) (.len (.tmp 3)) none [0],.mk (some 5) (.call 54 [.tmp 4]) none [1],.mk (some 6) (.mv (.tmp 5)) none [2,2],.mk (some 7) (.mv (.tmp 0)) (some (6,true)) [3],.mk (some 8) (.call 76 [.tmp 7]) (some (6,true)) [4,3,3],.mk (some 9) (.pick (.tmp 6) (.tmp 8) (.const (.bool false))) none [3,5],.mk (some 2) (.mv (.tmp 9)) none [6,5,0,1,2,3,4,5,6]]
def l85:AFn :=
  (AFn.mk 10 1 (.seq (.reg l85r0) (.seq (.reg l85r1) .ret)) [.tmp 2])
theorem l85_eq:lowFn Tryd.prog 85=some l85:=by kernel_rfl
def l86r0:List AOper :=
  [.mk (some 3) (.box (.tmp 0)) none [],.mk (some 6) (.mv (.const (.bool false))) none []]
def l86r1:List AOper :=
  [.mk (some 7) (.fld 1 (.tmp 3)) none [],.mk (some 8) (.load true 3 (.tmp 7)) none [0],.mk (some 9) (.call 90 [.tmp 8]) none [1],.mk (some 10) (.un .not (.tmp 9)) none [2],.mk (some 11) (.mv (.tmp 10)) none [3,2],.mk (some 12) (.fld 0 (.tmp 3)) (some (11,false)) [4],.mk (some 13) (.load false 1 (.tmp 12)) (some (11,false)) [5,4],.mk (some 14) (.bin .lss (.tmp 13) (.const (.int .i64 (-1)))) (some (11,false)) [6,4],.mk (some 15) (.pick (.tmp 11) (.const (.bool true)) (.tmp 14)) none [4,7],.mk (some 16) (.mv (.tmp 15)) none [8,4],.mk (some 17) (.fld 0 (.tmp 3)) (some (16,false)) [9],.mk (some 18) (.load false 1 (.tmp 17)) (some (16,false)) [10,9],.mk (some 19) (.mv (.tmp 1)) (some (16,false)) [9],.mk (some 20) (.bin .geq (.tmp 18) (.tmp 19)) (some (16,false)) [11,12,9],.mk (some 21) (.pick (.tmp 16) (.const (.bool true)) (.tmp 20)) none [9,13]]
def l86r2:List AOper :=
  [.mk (some 6) (.mv (.const (.bool false))) none []]
def l86r3:List AOper :=
  [.mk (some 22) (.fld 4 (.tmp 3)) none [],.mk (some 23) (.load false 1 (.tmp 22)) none [0],.mk (some 24) (.un .not (.tmp 23)) none [1],.mk (some 25) (.mv (.tmp 24)) none [2],.mk (some 26) (.fld 1 (.tmp 3)) (some (25,false)) [3],.mk (some 27) (.load true 3 (.tmp 26)) (some (25,false)) [4,3],.mk (some 28) (.mv (.tmp 2)) (some (25,false)) [3],.mk (some 29) (.call 58 [.tmp 27,.tmp 28]) (some (25,false)) [5,6,3,3],.mk (some 30) (.pick (.tmp 25) (.const (.bool true)) (.tmp 29)) none [3,7],.mk (some 6) (.mv (.tmp 30)) none [8,7,0,1,2,3,4,5,6,7,8]]
def l86:AFn :=
  (AFn.mk 31 3 (.seq (.reg l86r0) (.seq (.seq (.reg l86r1) (.cond (.tmp 21) (.seq (.reg l86r2) .ret) .skip)) (.seq (.reg l86r3) .ret))) [.tmp 6])
theorem l86_eq:lowFn Tryd.prog 86=some l86:=by kernel_rfl
def l87r0:List AOper :=
  [.mk (some 2) (.mv (.const (.bool false))) none []]
def l87r1:List AOper :=
  [.mk (some 3) (.mv (.tmp 0)) none [],.mk (some 4) (.len (.tmp 3)) none [0],.mk (some 5) (.bin .leq (.tmp 4) (.const (.int .i64 4))) none [1],.mk (some 6) (.mv (.tmp 5)) none [2],.mk (some 7) (.mv (.tmp 0)) (some (6,true)) [3],.mk (some 8) (.call 88 [.tmp 7,.const (.int .i64 0),.const (.int .i64 60)]) (some (6,true)) [4,3,3],.mk (some 9) (.pick (.tmp 6) (.tmp 8) (.const (.bool false))) none [3,5],.mk (some 10) (.mv (.tmp 9)) none [6,5],.mk (some 11) (.mv (.tmp 0)) (some (10,true)) [7],.mk (some 12) (.call 89 [.tmp 11]) (some (10,true)) [8,7,7],.mk (some 13) (.bin .leq (.tmp 12) (.const (.int .i64 60))) (some (10,true)) [9,7],.mk (some 14) (.pick (.tmp 10) (.tmp 13) (.const (.bool false))) none [7,10],.mk (some 2) (.mv (.tmp 14)) none [11,9,0,1,2,3,4,5,6,7,8,9,10,11]]
def l87:AFn :=
  (AFn.mk 15 1 (.seq (.reg l87r0) (.seq (.reg l87r1) .ret)) [.tmp 2])
theorem l87_eq:lowFn Tryd.prog 87=some l87:=by kernel_rfl
def l88r0:List AOper :=
  [.mk (some 6) (.mv (.const (.bool false))) none []]
def l88r1:List AOper :=
  [.mk (some 7) (.mv (.const (.int .i64 0))) none []]
def l88r2:List AOper :=
  [.mk (some 8) (.mv (.tmp 7)) none [],.mk (some 9) (.mv (.tmp 0)) none [],.mk (some 10) (.len (.tmp 9)) none [1],.mk (some 11) (.bin .lss (.tmp 8) (.tmp 10)) none [0,2]]
def l88r3:List AOper :=
  [.mk (some 14) (.mv (.tmp 0)) none [],.mk (some 15) (.mv (.tmp 7)) none [],.mk (some 16) (.idxA 1 (.tmp 14) (.tmp 15)) none [0,1],.mk (some 17) (.load false 1 (.tmp 16)) none [2],.mk (some 18) (.mv (.tmp 1)) none [],.mk (some 19) (.mv (.tmp 2)) none [],.mk (some 20) (.call 46 [.tmp 17,.tmp 18,.tmp 19]) none [3,4,5],.mk (some 21) (.un .not (.tmp 20)) none [6]]
def l88r4:List AOper :=
  [.mk (some 6) (.mv (.const (.bool false))) none []]
def l88r5:List AOper :=
  [.mk (some 12) (.mv (.tmp 7)) none [],.mk (some 13) (.bin .add (.tmp 12) (.const (.int .i64 1))) none [0],.mk (some 7) (.mv (.tmp 13)) none [1,0,1]]
def l88r6:List AOper :=
  [.mk (some 6) (.mv (.const (.bool true))) none []]
def l88:AFn :=
  (AFn.mk 22 3 (.seq (.reg l88r0) (.seq (.seq (.reg l88r1) (.block 0 (.loop (.seq (.seq (.reg l88r2) (.cond (.tmp 11) .skip (.exit 0))) (.seq (.block 1 (.seq (.reg l88r3) (.cond (.tmp 21) (.seq (.reg l88r4) .ret) .skip))) (.reg l88r5)))))) (.seq (.reg l88r6) .ret))) [.tmp 6])
theorem l88_eq:lowFn Tryd.prog 88=some l88:=by kernel_rfl
def l89r0:List AOper :=
  [.mk (some 2) (.mv (.const (.int .i64 0))) none []]
def l89r1:List AOper :=
  [.mk (some 3) (.mv (.const (.int .i64 1))) none []]
def l89r2:List AOper :=
  [.mk (some 4) (.mv (.const (.int .i64 0))) none []]
def l89r3:List AOper :=
  [.mk (some 5) (.mv (.tmp 4)) none [],.mk (some 6) (.mv (.tmp 0)) none [],.mk (some 7) (.len (.tmp 6)) none [1],.mk (some 8) (.bin .lss (.tmp 5) (.tmp 7)) none [0,2]]
def l89r4:List AOper :=
  [.mk (some 11) (.mv (.tmp 3)) none [],.mk (some 12) (.mv (.tmp 0)) none [],.mk (some 13) (.mv (.tmp 4)) none [],.mk (some 14) (.idxA 1 (.tmp 12) (.tmp 13)) none [1,2],.mk (some 15) (.load false 1 (.tmp 14)) none [3],.mk (some 16) (.bin .mul (.tmp 11) (.tmp 15)) none [0,4],.mk (some 3) (.mv (.tmp 16)) none [5,0,1,2,3,4,5]]
def l89r5:List AOper :=
  [.mk (some 9) (.mv (.tmp 4)) none [],.mk (some 10) (.bin .add (.tmp 9) (.const (.int .i64 1))) none [0],.mk (some 4) (.mv (.tmp 10)) none [1,0,1]]
def l89r6:List AOper :=
  [.mk (some 17) (.mv (.tmp 3)) none [],.mk (some 2) (.mv (.tmp 17)) none [0,0]]
def l89:AFn :=
  (AFn.mk 18 1 (.seq (.reg l89r0) (.seq (.reg l89r1) (.seq (.seq (.reg l89r2) (.block 0 (.loop (.seq (.seq (.reg l89r3) (.cond (.tmp 8) .skip (.exit 0))) (.seq (.block 1 (.reg l89r4)) (.reg l89r5)))))) (.seq (.reg l89r6) .ret)))) [.tmp 2])
theorem l89_eq:lowFn Tryd.prog 89=some l89:=by kernel_rfl
def l90r0:List AOper :=
  [.mk (some 1) (.box (.tmp 0)) none [],.mk (some 2) (.mv (.const (.bool false))) none []]
def l90r1:List AOper :=
  [.mk (some 5) (.fld 1 (.tmp 1)) none [],.mk (some 6) (.load false 1 (.tmp 5)) none [0],.mk (some 7) (.call 101 [.tmp 6]) none [1],.mk (some 8) (.un .not (.tmp 7)) none [2],.mk (some 9) (.mv (.tmp 8)) none [3,2],.mk (some 10) (.fld 2 (.tmp 1)) (some (9,false)) [4],.mk (some 11) (.load false 1 (.tmp 10)) (some (9,false)) [5,4],.mk (some 12) (.fld 1 (.tmp 1)) (some (9,false)) [4],.mk (some 13) (.load false 1 (.tmp 12)) (some (9,false)) [7,4],.mk (some 14) (.len (.tmp 13)) (some (9,false)) [8,4],.mk (some 15) (.call 102 [.tmp 11,.tmp 14]) (some (9,false)) [6,9,4,4],.mk (some 16) (.un .not (.tmp 15)) (some (9,false)) [10,4],.mk (some 17) (.pick (.tmp 9) (.const (.bool true)) (.tmp 16)) none [4,11],.mk (some 18) (.mv (.tmp 17)) none [12,10],.mk (some 19) (.fld 0 (.tmp 1)) (some (18,false)) [13],.mk (some 20) (.load false 1 (.tmp 19)) (some (18,false)) [14,13],.mk (some 21) (.call 66 [.tmp 20,.const (.int .i64 60)]) (some (18,false)) [15,13,13],.mk (some 22) (.un .not (.tmp 21)) (some (18,false)) [16,13],.mk (some 23) (.pick (.tmp 18) (.const (.bool true)) (.tmp 22)) none [13,17]]
def l90r2:List AOper :=
  [.mk (some 2) (.mv (.const (.bool false))) none []]
def l90r3:List AOper :=
  [.mk (some 25) (.load true 3 (.tmp 1)) none [],.mk (some 26) (.call 91 [.tmp 25]) none [0],.mk (some 24) (.mv (.tmp 26)) none [1],.mk (some 27) (.extract (.tmp 24) 0) none [2],.mk (some 28) (.extract (.tmp 24) 1) none [2],.mk (some 3) (.mv (.tmp 27)) none [3,1,0,1,2,3],.mk (some 4) (.mv (.tmp 28)) none [4,5,0,1,2,3,4,5]]
def l90r4:List AOper :=
  [.mk (some 29) (.load true 3 (.tmp 1)) none [],.mk (some 30) (.call 79 [.tmp 29]) none [0],.mk (some 31) (.bin .eql (.tmp 30) (.const (.int .i64 0))) none [1],.mk (some 32) (.mv (.tmp 31)) none [2,1],.mk (some 33) (.mv (.tmp 3)) (some (32,false)) [3],.mk (some 34) (.bin .geq (.tmp 33) (.const (.int .i64 0))) (some (32,false)) [4,3],.mk (some 35) (.mv (.tmp 34)) (some (32,false)) [5,3,3],.mk (some 36) (.mv (.tmp 4)) (some (35,true)) [6],.mk (some 37) (.bin .lss (.tmp 36) (.const (.int .i64 60))) (some (35,true)) [7,6],.mk (some 38) (.pick (.tmp 35) (.tmp 37) (.const (.bool false))) (some (32,false)) [6,8,3],.mk (some 39) (.pick (.tmp 32) (.const (.bool true)) (.tmp 38)) none [3,9],.mk (some 2) (.mv (.tmp 39)) none [10,6,0,1,2,3,4,5,6,7,8,9,10]]
def l90:AFn :=
  (AFn.mk 40 1 (.seq (.reg l90r0) (.seq (.seq (.reg l90r1) (.cond (.tmp 23) (.seq (.reg l90r2) .ret) .skip)) (.seq (.reg l90r3) (.seq (.reg l90r4) .ret)))) [.tmp 2])
theorem l90_eq:lowFn Tryd.prog 90=some l90:=by kernel_rfl
def l91r0:List AOper :=
  [.mk (some 1) (.box (.tmp 0)) none [],.mk (some 2) (.mv (.const (.int .i64 0))) none [],.mk (some 3) (.mv (.const (.int .i64 0))) none [1]]
def l91r1:List AOper :=
  [.mk (some 9) (.load true 3 (.tmp 1)) none [],.mk (some 10) (.call 79 [.tmp 9]) none [0],.mk (some 11) (.bin .eql (.tmp 10) (.const (.int .i64 0))) none [1]]
def l91r2:List AOper :=
  [.mk (some 2) (.mv (.const (.int .i64 (-1)))) none [],.mk (some 3) (.mv (.const (.int .i64 (-1)))) none [0,0]]
def l91r3a:List AOper :=
  [.mk (some 12) (.fld 0 (.tmp 1)) none [],.mk (some 13) (.load false 1 (.tmp 12)) none [0],.mk (some 14) (.fld 0 (.tmp 1)) none [],.mk (some 15) (.load false 1 (.tmp 14)) none [2],.mk (some 4) (.mv (.tmp 13)) none [1,0,1]]
def l91r3b:List AOper :=
  [.mk (some 5) (.mv (.tmp 15)) none [3,4,0,1,2,3,4]]
def l91r3:List AOper:=l91r3a ++ l91r3b
def l91r4:List AOper :=
  [.mk (some 16) (.fld 2 (.tmp 1)) none [],.mk (some 17) (.load false 1 (.tmp 16)) none [0],.mk (some 18) (.len (.tmp 17)) none [1],.mk (some 19) (.mv (.const (.int .i64 0))) none []]
def l91r5:List AOper :=
  [.mk (some 20) (.bin .lss (.tmp 19) (.tmp 18)) none []]
def l91r6:List AOper :=
  [.mk (some 21) (.mv (.tmp 19)) none [],.mk (some 22) (.idxA 1 (.tmp 17) (.tmp 19)) none [],.mk (some 23) (.load false 1 (.tmp 22)) none [1],.mk (some 6) (.mv (.tmp 21)) none [0,0,1,2],.mk (some 7) (.mv (.tmp 23)) none [2,3,0,1,2,3]]
def l91r7:List AOper :=
  [.mk (some 24) (.fld 1 (.tmp 1)) none [],.mk (some 25) (.load false 1 (.tmp 24)) none [0],.mk (some 26) (.mv (.tmp 6)) none [],.mk (some 27) (.idxA 1 (.tmp 25) (.tmp 26)) none [1,2],.mk (some 28) (.load false 1 (.tmp 27)) none [3],.mk (some 29) (.bin .sub (.tmp 28) (.const (.int .i64 1))) none [4],.mk (some 30) (.mv (.tmp 7)) none [],.mk (some 31) (.bin .mul (.tmp 29) (.tmp 30)) none [5,6],.mk (some 8) (.mv (.tmp 31)) none [7,0,1,2,3,4,5,6,7]]
def l91r8:List AOper :=
  [.mk (some 32) (.mv (.tmp 4)) none [],.mk (some 33) (.mv (.tmp 8)) none [],.mk (some 34) (.minmax false (.tmp 33) (.const (.int .i64 0))) none [1],.mk (some 35) (.bin .add (.tmp 32) (.tmp 34)) none [0,2],.mk (some 4) (.mv (.tmp 35)) none [3,0,1,2,3]]
def l91r9:List AOper :=
  [.mk (some 36) (.mv (.tmp 5)) none [],.mk (some 37) (.mv (.tmp 8)) none [],.mk (some 38) (.minmax true (.tmp 37) (.const (.int .i64 0))) none [1],.mk (some 39) (.bin .add (.tmp 36) (.tmp 38)) none [0,2],.mk (some 5) (.mv (.tmp 39)) none [3,0,1,2,3]]
def l91r10:List AOper :=
  [.mk (some 40) (.bin .add (.tmp 19) (.const (.int .i64 1))) none [],.mk (some 19) (.mv (.tmp 40)) none [0]]
def l91r11:List AOper :=
  [.mk (some 41) (.mv (.tmp 4)) none [],.mk (some 42) (.mv (.tmp 5)) none [],.mk (some 2) (.mv (.tmp 41)) none [0,0],.mk (some 3) (.mv (.tmp 42)) none [1,2,0,1,2]]
def l91:AFn :=
  (AFn.mk 43 1 (.seq (.reg l91r0) (.seq (.seq (.reg l91r1) (.cond (.tmp 11) (.seq (.reg l91r2) .ret) .skip)) (.seq (.draw l91r3) (.seq (.seq (.reg l91r4) (.block 0 (.loop (.seq (.reg l91r5) (.seq (.cond (.tmp 20) .skip (.exit 0)) (.seq (.block 1 (.seq (.reg l91r6) (.seq (.reg l91r7) (.seq (.reg l91r8) (.reg l91r9))))) (.reg l91r10))))))) (.seq (.reg l91r11) .ret))))) [.tmp 2,.tmp 3])
theorem l91_eq:lowFn Tryd.prog 91=some l91:=by kernel_rfl
def l92r0:List AOper :=
  [.mk (some 2) (.box (.tmp 0)) none [],.mk (some 4) (.mv (.const (.int .i64 0))) none []]
def l92r1:List AOper :=
  [.mk (some 7) (.fld 0 (.tmp 2)) none [],.mk (some 8) (.load false 1 (.tmp 7)) none [0],.mk (some 5) (.mv (.tmp 8)) none [1,0,1]]
def l92r2:List AOper :=
  [.mk (some 6) (.mv (.const (.int .i64 0))) none []]
def l92r3:List AOper :=
  [.mk (some 9) (.mv (.tmp 6)) none [],.mk (some 10) (.mv (.tmp 1)) none [],.mk (some 11) (.len (.tmp 10)) none [1],.mk (some 12) (.bin .lss (.tmp 9) (.tmp 11)) none [0,2]]
def l92r4a:List AOper :=
  [.mk (some 15) (.mv (.tmp 5)) none [],.mk (some 16) (.mv (.tmp 1)) none [],.mk (some 17) (.mv (.tmp 6)) none [],.mk (some 18) (.idxA 1 (.tmp 16) (.tmp 17)) none [1,2],.mk (some 19) (.load false 1 (.tmp 18)) none [3],.mk (some 20) (.fld 2 (.tmp 2)) none [],.mk (some 21) (.load false 1 (.tmp 20)) none [5],.mk (some 22) (.mv (.tmp 6)) none [],.mk (some 23) (.idxA 1 (.tmp 21) (.tmp 22)) none [6,7],.mk (some 24) (.load false 1 (.tmp 23)) none [8],.mk (some 25) (.bin .mul (.tmp 19) (.tmp 24)) none [4,9]]
def l92r4b:List AOper :=
  [.mk (some 26) (.bin .add (.tmp 15) (.tmp 25)) none [0,10],.mk (some 5) (.mv (.tmp 26)) none [11,0,1,2,3,4,5,6,7,8,9,10,11]]
def l92r4:List AOper:=l92r4a ++ l92r4b
def l92r5:List AOper :=
  [.mk (some 13) (.mv (.tmp 6)) none [],.mk (some 14) (.bin .add (.tmp 13) (.const (.int .i64 1))) none [0],.mk (some 6) (.mv (.tmp 14)) none [1,0,1]]
def l92r6:List AOper :=
  [.mk (some 27) (.mv (.tmp 5)) none [],.mk (some 4) (.mv (.tmp 27)) none [0,0]]
def l92:AFn :=
  (AFn.mk 28 2 (.seq (.reg l92r0) (.seq (.reg l92r1) (.seq (.seq (.reg l92r2) (.block 0 (.loop (.seq (.seq (.reg l92r3) (.cond (.tmp 12) .skip (.exit 0))) (.seq (.block 1 (.draw l92r4)) (.reg l92r5)))))) (.seq (.reg l92r6) .ret)))) [.tmp 4])
theorem l92_eq:lowFn Tryd.prog 92=some l92:=by kernel_rfl
def l93r0:List AOper :=
  [.mk (some 4) (.mv (.const (.slice none 0 0))) none []]
def l93r1:List AOper :=
  [.mk (some 7) (.mv (.tmp 0)) none [],.mk (some 8) (.len (.tmp 7)) none [0],.mk (some 9) (.mkslice 1 [.int .i64 0] (.tmp 8) (.tmp 8)) none [1,1],.mk (some 5) (.mv (.tmp 9)) none [2,0,1,2]]
def l93r2:List AOper :=
  [.mk (some 10) (.mv (.tmp 0)) none [],.mk (some 11) (.len (.tmp 10)) none [0],.mk (some 12) (.bin .sub (.tmp 11) (.const (.int .i64 1))) none [1],.mk (some 6) (.mv (.tmp 12)) none [2,0,1,2]]
def l93r3:List AOper :=
  [.mk (some 13) (.mv (.tmp 6)) none [],.mk (some 14) (.bin .geq (.tmp 13) (.const (.int .i64 0))) none [0]]
def l93r4:List AOper :=
  [.mk (some 17) (.mv (.tmp 5)) none [],.mk (some 18) (.mv (.tmp 6)) none [],.mk (some 19) (.mv (.tmp 1)) none [],.mk (some 20) (.mv (.tmp 0)) none [],.mk (some 21) (.mv (.tmp 6)) none [],.mk (some 22) (.idxA 1 (.tmp 20) (.tmp 21)) none [3,4],.mk (some 23) (.load false 1 (.tmp 22)) none [5],.mk (some 24) (.bin .rem (.tmp 19) (.tmp 23)) none [2,6],.mk (some 25) (.idxA 1 (.tmp 17) (.tmp 18)) none [0,1,0,1,2,3,4,5,6,7],.mk none (.store 1 (.tmp 25) (.tmp 24)) none [8,7,0,1,2,3,4,5,6,7]]
def l93r5:List AOper :=
  [.mk (some 26) (.mv (.tmp 1)) none [],.mk (some 27) (.mv (.tmp 0)) none [],.mk (some 28) (.mv (.tmp 6)) none [],.mk (some 29) (.idxA 1 (.tmp 27) (.tmp 28)) none [1,2],.mk (some 30) (.load false 1 (.tmp 29)) none [3],.mk (some 31) (.bin .quo (.tmp 26) (.tmp 30)) none [0,4],.mk (some 1) (.mv (.tmp 31)) none [5,0,1,2,3,4,5]]
def l93r6:List AOper :=
  [.mk (some 15) (.mv (.tmp 6)) none [],.mk (some 16) (.bin .sub (.tmp 15) (.const (.int .i64 1))) none [0],.mk (some 6) (.mv (.tmp 16)) none [1,0,1]]
def l93r7:List AOper :=
  [.mk (some 32) (.mv (.tmp 5)) none [],.mk (some 4) (.mv (.tmp 32)) none [0,0]]
def l93:AFn :=
  (AFn.mk 33 2 (.seq (.reg l93r0) (.seq (.reg l93r1) (.seq (.seq (.reg l93r2) (.block 0 (.loop (.seq (.seq (.reg l93r3) (.cond (.tmp 14) .skip (.exit 0))) (.seq (.block 1 (.seq (.reg l93r4) (.reg l93r5))) (.reg l93r6)))))) (.seq (.reg l93r7) .ret)))) [.tmp 4])
theorem l93_eq:lowFn Tryd.prog 93=some l93:=by kernel_rfl
def l94r0:List AOper :=
  [.mk (some 1) (.box (.tmp 0)) none [],.mk (some 2) (.mv (.const (.slice none 0 0))) none []]
def l94r1:List AOper :=
  [.mk (some 5) (.load true 3 (.tmp 1)) none [],.mk (some 6) (.call 79 [.tmp 5]) none [0],.mk (some 7) (.mkslice 1 [.int .i64 0] (.tmp 6) (.tmp 6)) none [1,1],.mk (some 3) (.mv (.tmp 7)) none [2,1,0,1,2]]
def l94r2:List AOper :=
  [.mk (some 8) (.mv (.tmp 3)) none [],.mk (some 9) (.len (.tmp 8)) none [0],.mk (some 10) (.mv (.const (.int .i64 0))) none []]
def l94r3:List AOper :=
  [.mk (some 11) (.bin .lss (.tmp 10) (.tmp 9)) none []]
def l94r4:List AOper :=
  [.mk (some 12) (.mv (.tmp 10)) none [],.mk (some 4) (.mv (.tmp 12)) none [0,0]]
def l94r5a:List AOper :=
  [.mk (some 13) (.mv (.tmp 3)) none [],.mk (some 14) (.mv (.tmp 4)) none [],.mk (some 15) (.load true 3 (.tmp 1)) none [],.mk (some 16) (.fld 1 (.tmp 1)) none [],.mk (some 17) (.load false 1 (.tmp 16)) none [3],.mk (some 18) (.mv (.tmp 4)) none [],.mk (some 19) (.call 104 [.tmp 17,.tmp 18]) none [4,5],.mk (some 20) (.call 103 [.tmp 15,.tmp 19]) none [2,6,6]]
def l94r5b:List AOper :=
  [.mk (some 21) (.idxA 1 (.tmp 13) (.tmp 14)) none [0,1,0,1,2,3,4,5,6,7],.mk none (.store 1 (.tmp 21) (.tmp 20)) none [8,7,7,0,1,2,3,4,5,6,7]]
def l94r5:List AOper:=l94r5a ++ l94r5b
def l94r6:List AOper :=
  [.mk (some 22) (.bin .add (.tmp 10) (.const (.int .i64 1))) none [],.mk (some 10) (.mv (.tmp 22)) none [0]]
def l94r7:List AOper :=
  [.mk (some 23) (.mv (.tmp 3)) none [],.mk (some 2) (.mv (.tmp 23)) none [0,0]]
def l94:AFn :=
  (AFn.mk 24 1 (.seq (.reg l94r0) (.seq (.reg l94r1) (.seq (.seq (.reg l94r2) (.block 0 (.loop (.seq (.reg l94r3) (.seq (.cond (.tmp 11) .skip (.exit 0)) (.seq (.block 1 (.seq (.reg l94r4) (.draw l94r5))) (.reg l94r6))))))) (.seq (.reg l94r7) .ret)))) [.tmp 2])
theorem l94_eq:lowFn Tryd.prog 94=some l94:=by kernel_rfl
def l95r0:List AOper :=
  [.mk (some 1) (.box (.tmp 0)) none [],.mk (some 2) (.mv (.const (.int .i64 0))) none []]
def l95r1:List AOper :=
  [.mk (some 4) (.fld 1 (.tmp 1)) none [],.mk (some 5) (.load false 1 (.tmp 4)) none [0],.mk (some 6) (.len (.tmp 5)) none [1],.mk (some 7) (.bin .sub (.tmp 6) (.const (.int .i64 1))) none [2],.mk (some 3) (.mv (.tmp 7)) none [3,0,1,2,3]]
def l95r2:List AOper :=
  [.mk (some 8) (.mv (.tmp 3)) none [],.mk (some 9) (.bin .lss (.tmp 8) (.const (.int .i64 0))) none [0],.mk (some 10) (.mv (.tmp 9)) none [1],.mk (some 11) (.fld 2 (.tmp 1)) (some (10,false)) [2],.mk (some 12) (.load false 1 (.tmp 11)) (some (10,false)) [3,2],.mk (some 13) (.mv (.tmp 3)) (some (10,false)) [2],.mk (some 14) (.idxA 1 (.tmp 12) (.tmp 13)) (some (10,false)) [4,5,2],.mk (some 15) (.load false 1 (.tmp 14)) (some (10,false)) [6,2],.mk (some 16) (.bin .neq (.tmp 15) (.const (.int .i64 1))) (some (10,false)) [7,2],.mk (some 17) (.pick (.tmp 10) (.const (.bool true)) (.tmp 16)) none [2,8]]
def l95r3:List AOper :=
  [.mk (some 2) (.mv (.const (.int .i64 1))) none []]
def l95r4:List AOper :=
  [.mk (some 18) (.fld 1 (.tmp 1)) none [],.mk (some 19) (.load false 1 (.tmp 18)) none [0],.mk (some 20) (.mv (.tmp 3)) none [],.mk (some 21) (.idxA 1 (.tmp 19) (.tmp 20)) none [1,2],.mk (some 22) (.load false 1 (.tmp 21)) none [3],.mk (some 2) (.mv (.tmp 22)) none [4,0,1,2,3,4]]
def l95:AFn :=
  (AFn.mk 23 1 (.seq (.reg l95r0) (.seq (.reg l95r1) (.seq (.seq (.reg l95r2) (.cond (.tmp 17) (.seq (.reg l95r3) .ret) .skip)) (.seq (.reg l95r4) .ret)))) [.tmp 2])
theorem l95_eq:lowFn Tryd.prog 95=some l95:=by kernel_rfl
def l96r0:List AOper :=
  [.mk (some 6) (.mv (.const (.slice none 0 0))) none []]
def l96r1:List AOper :=
  [.mk (some 8) (.mv (.tmp 1)) none [],.mk (some 9) (.mv (.tmp 2)) none [],.mk (some 10) (.bin .add (.tmp 8) (.tmp 9)) none [0,1],.mk (some 7) (.mv (.tmp 10)) none [2,0,1,2]]
def l96r2:List AOper :=
  [.mk (some 11) (.mv (.tmp 0)) none [],.mk (some 12) (.mv (.tmp 1)) none [],.mk (some 13) (.mv (.tmp 7)) none [],.mk (some 14) (.mv (.tmp 7)) none [],.mk (some 15) (.slice3 1 (.tmp 11) (some (.tmp 12)) (.tmp 13) (.tmp 14)) none [0,1,2,3],.mk (some 6) (.mv (.tmp 15)) none [4,0,1,2,3,4]]
def l96:AFn :=
  (AFn.mk 16 3 (.seq (.reg l96r0) (.seq (.reg l96r1) (.seq (.reg l96r2) .ret))) [.tmp 6])
theorem l96_eq:lowFn Tryd.prog 96=some l96:=by kernel_rfl
def l98r0:List AOper :=
  [.mk (some 2) (.mv (.const (.int .i64 0))) none []]
def l98r1:List AOper :=
  [.mk (some 3) (.mv (.const (.int .i64 1))) none []]
def l98r2:List AOper :=
  [.mk (some 6) (.mv (.tmp 0)) none [],.mk (some 7) (.len (.tmp 6)) none [0],.mk (some 8) (.mv (.const (.int .i64 0))) none []]
def l98r3:List AOper :=
  [.mk (some 9) (.bin .lss (.tmp 8) (.tmp 7)) none []]
def l98r4:List AOper :=
  [.mk (some 10) (.idxA 1 (.tmp 6) (.tmp 8)) none [],.mk (some 11) (.load false 1 (.tmp 10)) none [0],.mk (some 5) (.mv (.tmp 11)) none [1,0,1]]
def l98r5:List AOper :=
  [.mk (some 12) (.mv (.tmp 3)) none [],.mk (some 13) (.mv (.tmp 5)) none [],.mk (some 14) (.bin .mul (.tmp 12) (.tmp 13)) none [0,1],.mk (some 3) (.mv (.tmp 14)) none [2,0,1,2]]
def l98r6:List AOper :=
  [.mk (some 15) (.bin .add (.tmp 8) (.const (.int .i64 1))) none [],.mk (some 8) (.mv (.tmp 15)) none [0]]
def l98r7:List AOper :=
  [.mk (some 16) (.mv (.tmp 3)) none [],.mk (some 2) (.mv (.tmp 16)) none [0,0]]
def l98:AFn :=
  (AFn.mk 17 1 (.seq (.reg l98r0) (.seq (.reg l98r1) (.seq (.seq (.reg l98r2) (.block 0 (.loop (.seq (.reg l98r3) (.seq (.cond (.tmp 9) .skip (.exit 0)) (.seq (.block 1 (.seq (.reg l98r4) (.reg l98r5))) (.reg l98r6))))))) (.seq (.reg l98r7) .ret)))) [.tmp 2])
theorem l98_eq:lowFn Tryd.prog 98=some l98:=by kernel_rfl
def l99r0:List AOper :=
  [.mk (some 4) (.mv (.const (.bool false))) none []]
def l99r1:List AOper :=
  [.mk (some 6) (.mv (.tmp 0)) none [],.mk (some 7) (.len (.tmp 6)) none [0],.mk (some 8) (.mv (.tmp 1)) none [],.mk (some 9) (.len (.tmp 8)) none [2],.mk (some 10) (.bin .neq (.tmp 7) (.tmp 9)) none [1,3]]
def l99r2:List AOper :=
  [.mk (some 4) (.mv (.const (.bool false))) none []]
def l99r3:List AOper :=
  [.mk (some 5) (.mv (.const (.int .i64 0))) none []]
def l99r4:List AOper :=
  [.mk (some 11) (.mv (.tmp 5)) none [],.mk (some 12) (.mv (.tmp 0)) none [],.mk (some 13) (.len (.tmp 12)) none [1],.mk (some 14) (.bin .lss (.tmp 11) (.tmp 13)) none [0,2]]
def l99r5a:List AOper :=
  [.mk (some 17) (.mv (.tmp 0)) none [],.mk (some 18) (.mv (.tmp 5)) none [],.mk (some 19) (.idxA 1 (.tmp 17) (.tmp 18)) none [0,1],.mk (some 20) (.load false 1 (.tmp 19)) none [2],.mk (some 21) (.mv (.tmp 1)) none [],.mk (some 22) (.mv (.tmp 5)) none [],.mk (some 23) (.idxA 1 (.tmp 21) (.tmp 22)) none [4,5],.mk (some 24) (.load false 1 (.tmp 23)) none [6]]
def l99r5b:List AOper :=
  [.mk (some 25) (.bin .neq (.tmp 20) (.tmp 24)) none [3,7]]
def l99r5:List AOper:=l99r5a ++ l99r5b
def l99r6:List AOper :=
  [.mk (some 4) (.mv (.const (.bool false))) none []]
def l99r7:List AOper :=
  [.mk (some 15) (.mv (.tmp 5)) none [],.mk (some 16) (.bin .add (.tmp 15) (.const (.int .i64 1))) none [0],.mk (some 5) (.mv (.tmp 16)) none [1,0,1]]
def l99r8:List AOper :=
  [.mk (some 4) (.mv (.const (.bool true))) none []]
def l99:AFn :=
  (AFn.mk 26 2 (.seq (.reg l99r0) (.seq (.seq (.reg l99r1) (.cond (.tmp 10) (.seq (.reg l99r2) .ret) .skip)) (.seq (.seq (.reg l99r3) (.block 0 (.loop (.seq (.seq (.reg l99r4) (.cond (.tmp 14) .skip (.exit 0))) (.seq (.block 1 (.seq (.draw l99r5) (.cond (.tmp 25) (.seq (.reg l99r6) .ret) .skip))) (.reg l99r7)))))) (.seq (.reg l99r8) .ret)))) [.tmp 4])
theorem l99_eq:lowFn Tryd.prog 99=some l99:=by kernel_rfl
def l100r0:List AOper :=
  [.mk (some 4) (.mv (.const (.bool false))) none []]
def l100r1:List AOper :=
  [.mk (some 6) (.mv (.tmp 0)) none [],.mk (some 7) (.len (.tmp 6)) none [0],.mk (some 8) (.mv (.tmp 1)) none [],.mk (some 9) (.len (.tmp 8)) none [2],.mk (some 10) (.bin .neq (.tmp 7) (.tmp 9)) none [1,3]]
def l100r2:List AOper :=
  [.mk (some 4) (.mv (.const (.bool false))) none []]
def l100r3:List AOper :=
  [.mk (some 11) (.mv (.tmp 0)) none [],.mk (some 12) (.len (.tmp 11)) none [0],.mk (some 13) (.mv (.const (.int .i64 0))) none []]
def l100r4:List AOper :=
  [.mk (some 14) (.bin .lss (.tmp 13) (.tmp 12)) none []]
def l100r5:List AOper :=
  [.mk (some 15) (.mv (.tmp 13)) none [],.mk (some 5) (.mv (.tmp 15)) none [0,0]]
def l100r6a:List AOper :=
  [.mk (some 16) (.mv (.tmp 0)) none [],.mk (some 17) (.mv (.tmp 5)) none [],.mk (some 18) (.idxA 1 (.tmp 16) (.tmp 17)) none [0,1],.mk (some 19) (.load false 1 (.tmp 18)) none [2],.mk (some 20) (.mv (.tmp 1)) none [],.mk (some 21) (.mv (.tmp 5)) none [],.mk (some 22) (.idxA 1 (.tmp 20) (.tmp 21)) none [4,5],.mk (some 23) (.load false 1 (.tmp 22)) none [6]]
def l100r6b:List AOper :=
  [.mk (some 24) (.bin .neq (.tmp 19) (.tmp 23)) none [3,7]]
def l100r6:List AOper:=l100r6a ++ l100r6b
def l100r7:List AOper :=
  [.mk (some 4) (.mv (.const (.bool false))) none []]
def l100r8:List AOper :=
  [.mk (some 25) (.bin .add (.tmp 13) (.const (.int .i64 1))) none [],.mk (some 13) (.mv (.tmp 25)) none [0]]
def l100r9:List AOper :=
  [.mk (some 4) (.mv (.const (.bool true))) none []]
def l100:AFn :=
  (AFn.mk 26 2 (.seq (.reg l100r0) (.seq (.seq (.reg l100r1) (.cond (.tmp 10) (.seq (.reg l100r2) .ret) .skip)) (.seq (.seq (.reg l100r3) (.block 0 (.loop (.seq (.reg l100r4) (.seq (.cond (.tmp 14) .skip (.exit 0)) (.seq (.block 1 (.seq (.reg l100r5) (.seq (.draw l100r6) (.cond (.tmp 24) (.seq (.reg l100r7) .ret) .skip)))) (.reg l100r8))))))) (.seq (.reg l100r9) .ret)))) [.tmp 4])
theorem l100_eq:lowFn Tryd.prog 100=some l100:=by kernel_rfl
def l101r0:List AOper :=
  [.mk (some 2) (.mv (.const (.bool false))) none []]
def l101r1:List AOper :=
  [.mk (some 5) (.mv (.tmp 0)) none [],.mk (some 6) (.len (.tmp 5)) none [0],.mk (some 7) (.bin .gtr (.tmp 6) (.const (.int .i64 4))) none [1]]
def l101r2:List AOper :=
  [.mk (some 2) (.mv (.const (.bool false))) none []]
def l101r3:List AOper :=
  [.mk (some 8) (.mv (.tmp 0)) none [],.mk (some 9) (.len (.tmp 8)) none [0],.mk (some 10) (.mv (.const (.int .i64 0))) none []]
def l101r4:List AOper :=
  [.mk (some 11) (.bin .lss (.tmp 10) (.tmp 9)) none []]
def l101r5:List AOper :=
  [.mk (some 12) (.idxA 1 (.tmp 8) (.tmp 10)) none [],.mk (some 13) (.load false 1 (.tmp 12)) none [0],.mk (some 4) (.mv (.tmp 13)) none [1,0,1]]
def l101r6:List AOper :=
  [.mk (some 14) (.mv (.tmp 4)) none [],.mk (some 15) (.call 66 [.tmp 14,.const (.int .i64 60)]) none [0],.mk (some 16) (.un .not (.tmp 15)) none [1]]
def l101r7:List AOper :=
  [.mk (some 2) (.mv (.const (.bool false))) none []]
def l101r8:List AOper :=
  [.mk (some 17) (.bin .add (.tmp 10) (.const (.int .i64 1))) none [],.mk (some 10) (.mv (.tmp 17)) none [0]]
def l101r9:List AOper :=
  [.mk (some 18) (.mv (.tmp 0)) none [],.mk (some 19) (.call 98 [.tmp 18]) none [0],.mk (some 20) (.bin .leq (.tmp 19) (.const (.int .i64 60))) none [1],.mk (some 2) (.mv (.tmp 20)) none [2,1,0,1,2]]
def l101:AFn :=
  (AFn.mk 21 1 (.seq (.reg l101r0) (.seq (.seq (.reg l101r1) (.cond (.tmp 7) (.seq (.reg l101r2) .ret) .skip)) (.seq (.seq (.reg l101r3) (.block 0 (.loop (.seq (.reg l101r4) (.seq (.cond (.tmp 11) .skip (.exit 0)) (.seq (.block 1 (.seq (.reg l101r5) (.seq (.reg l101r6) (.cond (.tmp 16) (.seq (.reg l101r7) .ret) .skip)))) (.reg l101r8))))))) (.seq (.reg l101r9) .ret)))) [.tmp 2])
theorem l101_eq:lowFn Tryd.prog 101=some l101:=by kernel_rfl
def l102r0:List AOper :=
  [.mk (some 4) (.mv (.const (.bool false))) none []]
def l102r1:List AOper :=
  [.mk (some 7) (.mv (.tmp 0)) none [],.mk (some 8) (.len (.tmp 7)) none [0],.mk (some 9) (.mv (.tmp 1)) none [],.mk (some 10) (.bin .neq (.tmp 8) (.tmp 9)) none [1,2]]
def l102r2:List AOper :=
  [.mk (some 4) (.mv (.const (.bool false))) none []]
def l102r3:List AOper :=
  [.mk (some 11) (.mv (.tmp 0)) none [],.mk (some 12) (.len (.tmp 11)) none [0],.mk (some 13) (.mv (.const (.int .i64 0))) none []]
def l102r4:List AOper :=
  [.mk (some 14) (.bin .lss (.tmp 13) (.tmp 12)) none []]
def l102r5:List AOper :=
  [.mk (some 15) (.idxA 1 (.tmp 11) (.tmp 13)) none [],.mk (some 16) (.load false 1 (.tmp 15)) none [0],.mk (some 6) (.mv (.tmp 16)) none [1,0,1]]
def l102r6:List AOper :=
  [.mk (some 17) (.mv (.tmp 6)) none [],.mk (some 18) (.call 107 [.tmp 17,.const (.int .i64 60)]) none [0],.mk (some 19) (.un .not (.tmp 18)) none [1]]
def l102r7:List AOper :=
  [.mk (some 4) (.mv (.const (.bool false))) none []]
def l102r8:List AOper :=
  [.mk (some 20) (.bin .add (.tmp 13) (.const (.int .i64 1))) none [],.mk (some 13) (.mv (.tmp 20)) none [0]]
def l102r9:List AOper :=
  [.mk (some 4) (.mv (.const (.bool true))) none []]
def l102:AFn :=
  (AFn.mk 21 2 (.seq (.reg l102r0) (.seq (.seq (.reg l102r1) (.cond (.tmp 10) (.seq (.reg l102r2) .ret) .skip)) (.seq (.seq (.reg l102r3) (.block 0 (.loop (.seq (.reg l102r4) (.seq (.cond (.tmp 14) .skip (.exit 0)) (.seq (.block 1 (.seq (.reg l102r5) (.seq (.reg l102r6) (.cond (.tmp 19) (.seq (.reg l102r7) .ret) .skip)))) (.reg l102r8))))))) (.seq (.reg l102r9) .ret)))) [.tmp 4])
theorem l102_eq:lowFn Tryd.prog 102=some l102:=by kernel_rfl
def l103r0:List AOper :=
  [.mk (some 2) (.box (.tmp 0)) none [],.mk (some 3) (.box (.tmp 1)) none [],.mk (some 4) (.mv (.const (.int .i64 0))) none []]
def l103r1a:List AOper :=
  [.mk (some 5) (.fld 0 (.tmp 2)) none [],.mk (some 6) (.load false 1 (.tmp 5)) none [0],.mk (some 7) (.load true 4 (.tmp 3)) none [],.mk (some 8) (.fld 2 (.tmp 2)) none [],.mk (some 9) (.load false 1 (.tmp 8)) none [3],.mk (some 10) (.call 108 [.tmp 7,.tmp 9]) none [2,4]]
def l103r1b:List AOper :=
  [.mk (some 11) (.bin .add (.tmp 6) (.tmp 10)) none [1,5],.mk (some 4) (.mv (.tmp 11)) none [6,5,0,1,2,3,4,5,6]]
def l103r1:List AOper:=l103r1a ++ l103r1b
def l103:AFn :=
  (AFn.mk 12 2 (.seq (.reg l103r0) (.seq (.draw l103r1) .ret)) [.tmp 4])
theorem l103_eq:lowFn Tryd.prog 103=some l103:=by kernel_rfl
def l104r0:List AOper :=
  [.mk (some 4) (.alloc [.int .i64 0,.int .i64 0,.int .i64 0,.int .i64 0]) none []]
def l104r1:List AOper :=
  [.mk (some 5) (.alloc [.int .i64 0,.int .i64 0,.int .i64 0,.int .i64 0]) none []]
def l104r2:List AOper :=
  [.mk (some 7) (.mv (.tmp 0)) none [],.mk (some 8) (.len (.tmp 7)) none [0],.mk (some 9) (.bin .sub (.tmp 8) (.const (.int .i64 1))) none [1],.mk (some 6) (.mv (.tmp 9)) none [2,0,1,2]]
def l104r3:List AOper :=
  [.mk (some 10) (.mv (.tmp 6)) none [],.mk (some 11) (.bin .geq (.tmp 10) (.const (.int .i64 0))) none [0]]
def l104r4:List AOper :=
  [.mk (some 14) (.mv (.tmp 6)) none [],.mk (some 15) (.mv (.tmp 1)) none [],.mk (some 16) (.mv (.tmp 0)) none [],.mk (some 17) (.mv (.tmp 6)) none [],.mk (some 18) (.idxA 1 (.tmp 16) (.tmp 17)) none [2,3],.mk (some 19) (.load false 1 (.tmp 18)) none [4],.mk (some 20) (.bin .rem (.tmp 15) (.tmp 19)) none [1,5],.mk (some 21) (.idxP 1 4 (.tmp 5) (.tmp 14)) none [0,0,1,2,3,4,5,6],.mk none (.store 1 (.tmp 21) (.tmp 20)) none [7,6,0,1,2,3,4,5,6]]
def l104r5:List AOper :=
  [.mk (some 22) (.mv (.tmp 1)) none [],.mk (some 23) (.mv (.tmp 0)) none [],.mk (some 24) (.mv (.tmp 6)) none [],.mk (some 25) (.idxA 1 (.tmp 23) (.tmp 24)) none [1,2],.mk (some 26) (.load false 1 (.tmp 25)) none [3],.mk (some 27) (.bin .quo (.tmp 22) (.tmp 26)) none [0,4],.mk (some 1) (.mv (.tmp 27)) none [5,0,1,2,3,4,5]]
def l104r6:List AOper :=
  [.mk (some 12) (.mv (.tmp 6)) none [],.mk (some 13) (.bin .sub (.tmp 12) (.const (.int .i64 1))) none [0],.mk (some 6) (.mv (.tmp 13)) none [1,0,1]]
def l104r7:List AOper :=
  [.mk (some 28) (.load true 4 (.tmp 5)) none [],.mk none (.store 4 (.tmp 4) (.tmp 28)) none [0,0]]
def l104:AFn :=
  (AFn.mk 29 2 (.seq (.reg l104r0) (.seq (.reg l104r1) (.seq (.seq (.reg l104r2) (.block 0 (.loop (.seq (.seq (.reg l104r3) (.cond (.tmp 11) .skip (.exit 0))) (.seq (.block 1 (.seq (.reg l104r4) (.reg l104r5))) (.reg l104r6)))))) (.seq (.reg l104r7) .ret)))) [.cell 4 true 4])
theorem l104_eq:lowFn Tryd.prog 104=some l104:=by kernel_rfl
def l107r0:List AOper :=
  [.mk (some 4) (.mv (.const (.bool false))) none []]
def l107r1:List AOper :=
  [.mk (some 5) (.mv (.tmp 1)) none [],.mk (some 6) (.un .neg (.tmp 5)) none [0],.mk (some 7) (.mv (.tmp 0)) none [],.mk (some 8) (.bin .leq (.tmp 6) (.tmp 7)) none [1,2],.mk (some 9) (.mv (.tmp 8)) none [3],.mk (some 10) (.mv (.tmp 0)) (some (9,true)) [4],.mk (some 11) (.mv (.tmp 1)) (some (9,true)) [4],.mk (some 12) (.bin .leq (.tmp 10) (.tmp 11)) (some (9,true)) [5,6,4],.mk (some 13) (.pick (.tmp 9) (.tmp 12) (.const (.bool false))) none [4,7],.mk (some 4) (.mv (.tmp 13)) none [8,4,0,1,2,3,4,5,6,7,8]]
def l107:AFn :=
  (AFn.mk 14 2 (.seq (.reg l107r0) (.seq (.reg l107r1) .ret)) [.tmp 4])
theorem l107_eq:lowFn Tryd.prog 107=some l107:=by kernel_rfl
def l108r0:List AOper :=
  [.mk (some 2) (.box (.tmp 0)) none [],.mk (some 4) (.mv (.const (.int .i64 0))) none []]
def l108r1:List AOper :=
  [.mk (some 5) (.mv (.const (.int .i64 0))) none []]
def l108r2:List AOper :=
  [.mk (some 8) (.mv (.tmp 1)) none [],.mk (some 9) (.len (.tmp 8)) none [0],.mk (some 10) (.mv (.const (.int .i64 0))) none []]
def l108r3:List AOper :=
  [.mk (some 11) (.bin .lss (.tmp 10) (.tmp 9)) none []]
def l108r4:List AOper :=
  [.mk (some 12) (.mv (.tmp 10)) none [],.mk (some 13) (.idxA 1 (.tmp 8) (.tmp 10)) none [],.mk (some 14) (.load false 1 (.tmp 13)) none [1],.mk (some 6) (.mv (.tmp 12)) none [0,0,1,2],.mk (some 7) (.mv (.tmp 14)) none [2,3,0,1,2,3]]
def l108r5:List AOper :=
  [.mk (some 15) (.mv (.tmp 5)) none [],.mk (some 16) (.mv (.tmp 6)) none [],.mk (some 17) (.idxP 1 4 (.tmp 2) (.tmp 16)) none [1],.mk (some 18) (.load false 1 (.tmp 17)) none [2],.mk (some 19) (.mv (.tmp 7)) none [],.mk (some 20) (.bin .mul (.tmp 18) (.tmp 19)) none [3,4],.mk (some 21) (.bin .add (.tmp 15) (.tmp 20)) none [0,5],.mk (some 5) (.mv (.tmp 21)) none [6,0,1,2,3,4,5,6]]
def l108r6:List AOper :=
  [.mk (some 22) (.bin .add (.tmp 10) (.const (.int .i64 1))) none [],.mk (some 10) (.mv (.tmp 22)) none [0]]
def l108r7:List AOper :=
  [.mk (some 23) (.mv (.tmp 5)) none [],.mk (some 4) (.mv (.tmp 23)) none [0,0]]
def l108:AFn :=
  (AFn.mk 24 2 (.seq (.reg l108r0) (.seq (.reg l108r1) (.seq (.seq (.reg l108r2) (.block 0 (.loop (.seq (.reg l108r3) (.seq (.cond (.tmp 11) .skip (.exit 0)) (.seq (.block 1 (.seq (.reg l108r4) (.reg l108r5))) (.reg l108r6))))))) (.seq (.reg l108r7) .ret)))) [.tmp 4])
theorem l108_eq:lowFn Tryd.prog 108=some l108:=by kernel_rfl
end Go.Proofs.YtahdlohpncjdbaaDoor
