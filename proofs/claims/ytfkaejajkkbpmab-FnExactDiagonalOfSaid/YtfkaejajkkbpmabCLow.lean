import Derived.Test.YtfkaejajkkbpmabCW3
import Derived.Test.YtfkaejajkkbpmabProg
import Derived.KernelRfl
set_option maxRecDepth 100000
namespace Go.Proofs.Ytfkaejajkkbpmab
open Vw Go
def l6r0 : List AOper :=
  [AOper.mk (some 3) (.box (.tmp 0)) none [], AOper.mk (some 6) (.mv (.const (.bool false))) none []]
def l6r1 : List AOper :=
  [AOper.mk (some 7) (.mv (.const (.int .i64 1048576))) none []]
def l6r2 : List AOper :=
  [AOper.mk (some 18) (.load true 3 (.tmp 3)) none [], AOper.mk (some 19) (.mv (.tmp 7)) none [], AOper.mk (some 20) (.call 9 [.tmp 18, .tmp 19]) none [0, 1], AOper.mk (some 7) (.mv (.tmp 20)) none [2, 2, 0, 1, 2]]
def l6r3 : List AOper :=
  [AOper.mk (some 21) (.mv (.tmp 7)) none [], AOper.mk (some 22) (.bin .lss (.tmp 21) (.const (.int .i64 0))) none [0]]
def l6r4 : List AOper :=
  [AOper.mk (some 6) (.mv (.const (.bool true))) none []]
def l6r5 : List AOper :=
  [AOper.mk (some 24) (.load true 3 (.tmp 3)) none [], AOper.mk (some 25) (.call 11 [.tmp 24]) none [0], AOper.mk (some 26) (.mv (.tmp 1)) none [], AOper.mk (some 27) (.mv (.tmp 2)) none [], AOper.mk (some 28) (.call 24 [.tmp 25, .tmp 26, .tmp 27]) none [1, 2, 3, 1], AOper.mk (some 23) (.mv (.tmp 28)) none [4], AOper.mk (some 29) (.extract (.tmp 23) 0) none [5], AOper.mk (some 30) (.extract (.tmp 23) 1) none [5], AOper.mk (some 8) (.alloc [.int .i64 0, .slice none 0 0, .slice none 0 0]) none [], AOper.mk none (.store 3 (.tmp 8) (.tmp 29)) none [8, 6, 4, 0, 1, 2, 3, 4, 5, 6, 8], AOper.mk (some 9) (.mv (.tmp 30)) none [7, 9, 0, 1, 2, 3, 4, 5, 6, 7, 8, 9]]
def l6r6 : List AOper :=
  [AOper.mk (some 31) (.load true 3 (.tmp 3)) none [], AOper.mk (some 32) (.call 11 [.tmp 31]) none [0], AOper.mk (some 10) (.alloc [.int .i64 0, .slice none 0 0, .slice none 0 0]) none [], AOper.mk none (.store 3 (.tmp 10) (.tmp 32)) none [2, 1, 1, 0, 1, 2]]
def l6r7 : List AOper :=
  [AOper.mk (some 34) (.load true 3 (.tmp 10)) none [], AOper.mk (some 35) (.mv (.tmp 1)) none [], AOper.mk (some 36) (.mv (.tmp 2)) none [], AOper.mk (some 37) (.call 25 [.tmp 34, .tmp 35, .tmp 36]) none [0, 1, 2], AOper.mk (some 33) (.mv (.tmp 37)) none [3], AOper.mk (some 38) (.extract (.tmp 33) 0) none [4], AOper.mk (some 39) (.extract (.tmp 33) 1) none [4], AOper.mk (some 11) (.alloc [.int .i64 0, .slice none 0 0, .slice none 0 0]) none [], AOper.mk none (.store 3 (.tmp 11) (.tmp 38)) none [7, 5, 3, 0, 1, 2, 3, 4, 5, 7], AOper.mk (some 12) (.mv (.tmp 39)) none [6, 8, 0, 1, 2, 3, 4, 5, 6, 7, 8]]
def l6r8 : List AOper :=
  [AOper.mk (some 40) (.load true 3 (.tmp 11)) none [], AOper.mk (some 41) (.load true 3 (.tmp 8)) none [], AOper.mk (some 42) (.call 13 [.tmp 40, .tmp 41]) none [0, 1], AOper.mk (some 43) (.un .not (.tmp 42)) none [2], AOper.mk (some 44) (.mv (.tmp 43)) none [3, 2], AOper.mk (some 45) (.mv (.tmp 12)) (some (44, false)) [4], AOper.mk (some 46) (.mv (.tmp 9)) (some (44, false)) [4], AOper.mk (some 47) (.binB .neq (.tmp 45) (.tmp 46)) (some (44, false)) [5, 6, 4], AOper.mk (some 48) (.pick (.tmp 44) (.const (.bool true)) (.tmp 47)) none [4, 7]]
def l6r9 : List AOper :=
  [AOper.mk (some 6) (.mv (.const (.bool false))) none []]
def l6r10a : List AOper :=
  [AOper.mk (some 49) (.load true 3 (.tmp 10)) none [], AOper.mk (some 50) (.load true 3 (.tmp 3)) none [], AOper.mk (some 51) (.call 11 [.tmp 50]) none [1]]
def l6r10b : List AOper :=
  [AOper.mk (some 52) (.call 13 [.tmp 49, .tmp 51]) none [0, 2, 2], AOper.mk (some 53) (.un .not (.tmp 52)) none [3]]
def l6r10 : List AOper := l6r10a ++ l6r10b
def l6r11 : List AOper :=
  [AOper.mk (some 6) (.mv (.const (.bool false))) none []]
def l6r12 : List AOper :=
  [AOper.mk (some 13) (.mv (.const (.int .i64 1))) none []]
def l6r13 : List AOper :=
  [AOper.mk (some 54) (.load true 3 (.tmp 10)) none [], AOper.mk (some 55) (.mv (.tmp 13)) none [], AOper.mk (some 56) (.call 14 [.tmp 54, .tmp 55]) none [0, 1], AOper.mk (some 13) (.mv (.tmp 56)) none [2, 2, 0, 1, 2]]
def l6r14 : List AOper :=
  [AOper.mk (some 57) (.mv (.tmp 13)) none [], AOper.mk (some 58) (.bin .lss (.tmp 57) (.const (.int .i64 0))) none [0], AOper.mk (some 59) (.mv (.tmp 58)) none [1], AOper.mk (some 60) (.load true 3 (.tmp 11)) (some (59, false)) [2], AOper.mk (some 61) (.load true 3 (.tmp 8)) (some (59, false)) [2], AOper.mk (some 62) (.call 13 [.tmp 60, .tmp 61]) (some (59, false)) [3, 4, 2, 2], AOper.mk (some 63) (.un .not (.tmp 62)) (some (59, false)) [5, 2], AOper.mk (some 64) (.pick (.tmp 59) (.const (.bool true)) (.tmp 63)) none [2, 6], AOper.mk (some 65) (.mv (.tmp 64)) none [7, 5], AOper.mk (some 66) (.mv (.tmp 12)) (some (65, false)) [8], AOper.mk (some 67) (.mv (.tmp 9)) (some (65, false)) [8], AOper.mk (some 68) (.binB .neq (.tmp 66) (.tmp 67)) (some (65, false)) [9, 10, 8], AOper.mk (some 69) (.pick (.tmp 65) (.const (.bool true)) (.tmp 68)) none [8, 11]]
def l6r15 : List AOper :=
  [AOper.mk (some 6) (.mv (.const (.bool false))) none []]
def l6r16 : List AOper :=
  [AOper.mk (some 14) (.mv (.const (.int .i64 1))) none []]
def l6r17 : List AOper :=
  [AOper.mk (some 70) (.load true 3 (.tmp 11)) none [], AOper.mk (some 71) (.mv (.tmp 14)) none [], AOper.mk (some 72) (.call 14 [.tmp 70, .tmp 71]) none [0, 1], AOper.mk (some 14) (.mv (.tmp 72)) none [2, 2, 0, 1, 2]]
def l6r18 : List AOper :=
  [AOper.mk (some 15) (.mv (.const (.int .i64 1))) none []]
def l6r19 : List AOper :=
  [AOper.mk (some 73) (.load true 3 (.tmp 11)) none [], AOper.mk (some 74) (.mv (.tmp 15)) none [], AOper.mk (some 75) (.call 15 [.tmp 73, .tmp 74]) none [0, 1], AOper.mk (some 15) (.mv (.tmp 75)) none [2, 2, 0, 1, 2]]
def l6r20 : List AOper :=
  [AOper.mk (some 76) (.mv (.tmp 15)) none [], AOper.mk (some 77) (.bin .lss (.tmp 76) (.const (.int .i64 0))) none [0]]
def l6r21 : List AOper :=
  [AOper.mk (some 6) (.mv (.const (.bool false))) none []]
def l6r22 : List AOper :=
  [AOper.mk (some 78) (.mv (.tmp 15)) none [], AOper.mk (some 79) (.mv (.tmp 14)) none [], AOper.mk (some 80) (.bin .neq (.tmp 78) (.tmp 79)) none [0, 1]]
def l6r23 : List AOper :=
  [AOper.mk (some 6) (.mv (.const (.bool false))) none []]
def l6r24 : List AOper :=
  [AOper.mk (some 82) (.load true 3 (.tmp 3)) none [], AOper.mk (some 83) (.call 11 [.tmp 82]) none [0], AOper.mk (some 84) (.mv (.tmp 1)) none [], AOper.mk (some 85) (.mv (.tmp 2)) none [], AOper.mk (some 86) (.call 25 [.tmp 83, .tmp 84, .tmp 85]) none [1, 2, 3, 1], AOper.mk (some 81) (.mv (.tmp 86)) none [4], AOper.mk (some 87) (.extract (.tmp 81) 0) none [5], AOper.mk (some 88) (.extract (.tmp 81) 1) none [5], AOper.mk (some 16) (.alloc [.int .i64 0, .slice none 0 0, .slice none 0 0]) none [], AOper.mk none (.store 3 (.tmp 16) (.tmp 87)) none [8, 6, 4, 0, 1, 2, 3, 4, 5, 6, 8], AOper.mk (some 17) (.mv (.tmp 88)) none [7, 9, 0, 1, 2, 3, 4, 5, 6, 7, 8, 9]]
def l6r25 : List AOper :=
  [AOper.mk (some 89) (.load true 3 (.tmp 16)) none [], AOper.mk (some 90) (.load true 3 (.tmp 8)) none [], AOper.mk (some 91) (.call 13 [.tmp 89, .tmp 90]) none [0, 1], AOper.mk (some 92) (.un .not (.tmp 91)) none [2], AOper.mk (some 93) (.mv (.tmp 92)) none [3, 2], AOper.mk (some 94) (.mv (.tmp 17)) (some (93, false)) [4], AOper.mk (some 95) (.mv (.tmp 9)) (some (93, false)) [4], AOper.mk (some 96) (.binB .neq (.tmp 94) (.tmp 95)) (some (93, false)) [5, 6, 4], AOper.mk (some 97) (.pick (.tmp 93) (.const (.bool true)) (.tmp 96)) none [4, 7]]
def l6r26 : List AOper :=
  [AOper.mk (some 6) (.mv (.const (.bool false))) none []]
def l6r27 : List AOper :=
  [AOper.mk (some 15) (.mv (.const (.int .i64 1))) none []]
def l6r28 : List AOper :=
  [AOper.mk (some 98) (.load true 3 (.tmp 11)) none [], AOper.mk (some 99) (.mv (.tmp 15)) none [], AOper.mk (some 100) (.call 15 [.tmp 98, .tmp 99]) none [0, 1], AOper.mk (some 15) (.mv (.tmp 100)) none [2, 2, 0, 1, 2]]
def l6r29 : List AOper :=
  [AOper.mk (some 101) (.mv (.tmp 15)) none [], AOper.mk (some 102) (.bin .lss (.tmp 101) (.const (.int .i64 0))) none [0]]
def l6r30 : List AOper :=
  [AOper.mk (some 6) (.mv (.const (.bool false))) none []]
def l6r31 : List AOper :=
  [AOper.mk (some 103) (.mv (.tmp 15)) none [], AOper.mk (some 104) (.mv (.tmp 14)) none [], AOper.mk (some 105) (.bin .neq (.tmp 103) (.tmp 104)) none [0, 1]]
def l6r32 : List AOper :=
  [AOper.mk (some 6) (.mv (.const (.bool false))) none []]
def l6r33 : List AOper :=
  [AOper.mk (some 6) (.mv (.const (.bool true))) none []]
def l6 : AFn :=
  (AFn.mk 106 3 (ACode.seq (ACode.reg l6r0) (ACode.seq (ACode.reg l6r1) (ACode.seq (ACode.reg l6r2) (ACode.seq (ACode.seq (ACode.reg l6r3) (ACode.cond (.tmp 22) (ACode.seq (ACode.reg l6r4) ACode.ret) ACode.skip)) (ACode.seq (ACode.reg l6r5) (ACode.seq (ACode.reg l6r6) (ACode.seq (ACode.reg l6r7) (ACode.seq (ACode.seq (ACode.reg l6r8) (ACode.cond (.tmp 48) (ACode.seq (ACode.reg l6r9) ACode.ret) ACode.skip)) (ACode.seq (ACode.seq (ACode.draw l6r10) (ACode.cond (.tmp 53) (ACode.seq (ACode.reg l6r11) ACode.ret) ACode.skip)) (ACode.seq (ACode.reg l6r12) (ACode.seq (ACode.reg l6r13) (ACode.seq (ACode.seq (ACode.reg l6r14) (ACode.cond (.tmp 69) (ACode.seq (ACode.reg l6r15) ACode.ret) ACode.skip)) (ACode.seq (ACode.reg l6r16) (ACode.seq (ACode.reg l6r17) (ACode.seq (ACode.reg l6r18) (ACode.seq (ACode.reg l6r19) (ACode.seq (ACode.seq (ACode.reg l6r20) (ACode.cond (.tmp 77) (ACode.seq (ACode.reg l6r21) ACode.ret) ACode.skip)) (ACode.seq (ACode.seq (ACode.reg l6r22) (ACode.cond (.tmp 80) (ACode.seq (ACode.reg l6r23) ACode.ret) ACode.skip)) (ACode.seq (ACode.reg l6r24) (ACode.seq (ACode.seq (ACode.reg l6r25) (ACode.cond (.tmp 97) (ACode.seq (ACode.reg l6r26) ACode.ret) ACode.skip)) (ACode.seq (ACode.reg l6r27) (ACode.seq (ACode.reg l6r28) (ACode.seq (ACode.seq (ACode.reg l6r29) (ACode.cond (.tmp 102) (ACode.seq (ACode.reg l6r30) ACode.ret) ACode.skip)) (ACode.seq (ACode.seq (ACode.reg l6r31) (ACode.cond (.tmp 105) (ACode.seq (ACode.reg l6r32) ACode.ret) ACode.skip)) (ACode.seq (ACode.reg l6r33) ACode.ret))))))))))))))))))))))))) [ARes.tmp 6])
theorem l6_eq : lowFn Try.prog 6 = some l6 := by kernel_rfl
def l9r0 : List AOper :=
  [AOper.mk (some 2) (.box (.tmp 0)) none [], AOper.mk (some 4) (.mv (.const (.int .i64 0))) none []]
def l9r1 : List AOper :=
  [AOper.mk (some 5) (.fld 1 (.tmp 2)) none [], AOper.mk (some 6) (.load false 1 (.tmp 5)) none [0], AOper.mk (some 7) (.mv (.tmp 1)) none [], AOper.mk (some 8) (.call 30 [.tmp 6, .tmp 7]) none [1, 2], AOper.mk (some 1) (.mv (.tmp 8)) none [3, 3, 0, 1, 2, 3]]
def l9r2 : List AOper :=
  [AOper.mk (some 9) (.mv (.tmp 1)) none [], AOper.mk (some 10) (.bin .lss (.tmp 9) (.const (.int .i64 0))) none [0]]
def l9r3 : List AOper :=
  [AOper.mk (some 4) (.mv (.const (.int .i64 (-1)))) none []]
def l9r4 : List AOper :=
  [AOper.mk (some 11) (.fld 2 (.tmp 2)) none [], AOper.mk (some 12) (.load false 1 (.tmp 11)) none [0], AOper.mk (some 13) (.mv (.tmp 1)) none [], AOper.mk (some 14) (.call 30 [.tmp 12, .tmp 13]) none [1, 2], AOper.mk (some 1) (.mv (.tmp 14)) none [3, 3, 0, 1, 2, 3]]
def l9r5 : List AOper :=
  [AOper.mk (some 15) (.mv (.tmp 1)) none [], AOper.mk (some 16) (.bin .lss (.tmp 15) (.const (.int .i64 0))) none [0]]
def l9r6 : List AOper :=
  [AOper.mk (some 4) (.mv (.const (.int .i64 (-1)))) none []]
def l9r7 : List AOper :=
  [AOper.mk (some 17) (.mv (.tmp 1)) none [], AOper.mk (some 4) (.mv (.tmp 17)) none [0, 0]]
def l9 : AFn :=
  (AFn.mk 18 2 (ACode.seq (ACode.reg l9r0) (ACode.seq (ACode.reg l9r1) (ACode.seq (ACode.seq (ACode.reg l9r2) (ACode.cond (.tmp 10) (ACode.seq (ACode.reg l9r3) ACode.ret) ACode.skip)) (ACode.seq (ACode.reg l9r4) (ACode.seq (ACode.seq (ACode.reg l9r5) (ACode.cond (.tmp 16) (ACode.seq (ACode.reg l9r6) ACode.ret) ACode.skip)) (ACode.seq (ACode.reg l9r7) ACode.ret)))))) [ARes.tmp 4])
theorem l9_eq : lowFn Try.prog 9 = some l9 := by kernel_rfl
def l11r0 : List AOper :=
  [AOper.mk (some 1) (.box (.tmp 0)) none [], AOper.mk (some 2) (.alloc [.int .i64 0, .slice none 0 0, .slice none 0 0]) none []]
def l11r1 : List AOper :=
  [AOper.mk (some 3) (.alloc [.int .i64 0, .slice none 0 0, .slice none 0 0]) none []]
def l11r2 : List AOper :=
  [AOper.mk (some 4) (.fld 0 (.tmp 1)) none [], AOper.mk (some 5) (.load false 1 (.tmp 4)) none [0], AOper.mk (some 6) (.fld 0 (.tmp 3)) none [0, 1], AOper.mk none (.store 1 (.tmp 6) (.tmp 5)) none [2, 1, 0, 1]]
def l11r3 : List AOper :=
  [AOper.mk (some 7) (.fld 1 (.tmp 1)) none [], AOper.mk (some 8) (.load false 1 (.tmp 7)) none [0], AOper.mk (some 9) (.call 17 [.tmp 8]) none [1], AOper.mk (some 10) (.fld 1 (.tmp 3)) none [0, 1, 2], AOper.mk none (.store 1 (.tmp 10) (.tmp 9)) none [3, 2, 2, 0, 1, 2]]
def l11r4 : List AOper :=
  [AOper.mk (some 11) (.fld 2 (.tmp 1)) none [], AOper.mk (some 12) (.load false 1 (.tmp 11)) none [0], AOper.mk (some 13) (.call 17 [.tmp 12]) none [1], AOper.mk (some 14) (.fld 2 (.tmp 3)) none [0, 1, 2], AOper.mk none (.store 1 (.tmp 14) (.tmp 13)) none [3, 2, 2, 0, 1, 2]]
def l11r5 : List AOper :=
  [AOper.mk (some 15) (.load true 3 (.tmp 3)) none [], AOper.mk none (.store 3 (.tmp 2) (.tmp 15)) none [0, 0]]
def l11 : AFn :=
  (AFn.mk 16 1 (ACode.seq (ACode.reg l11r0) (ACode.seq (ACode.reg l11r1) (ACode.seq (ACode.reg l11r2) (ACode.seq (ACode.reg l11r3) (ACode.seq (ACode.reg l11r4) (ACode.seq (ACode.reg l11r5) ACode.ret)))))) [ARes.cell 2 true 3])
theorem l11_eq : lowFn Try.prog 11 = some l11 := by kernel_rfl
def l13r0 : List AOper :=
  [AOper.mk (some 2) (.box (.tmp 0)) none [], AOper.mk (some 3) (.box (.tmp 1)) none [], AOper.mk (some 4) (.mv (.const (.bool false))) none []]
def l13r1 : List AOper :=
  [AOper.mk (some 5) (.fld 0 (.tmp 2)) none [], AOper.mk (some 6) (.load false 1 (.tmp 5)) none [0], AOper.mk (some 7) (.fld 0 (.tmp 3)) none [], AOper.mk (some 8) (.load false 1 (.tmp 7)) none [2], AOper.mk (some 9) (.bin .neq (.tmp 6) (.tmp 8)) none [1, 3]]
def l13r2 : List AOper :=
  [AOper.mk (some 4) (.mv (.const (.bool false))) none []]
def l13r3 : List AOper :=
  [AOper.mk (some 10) (.fld 1 (.tmp 2)) none [], AOper.mk (some 11) (.load false 1 (.tmp 10)) none [0], AOper.mk (some 12) (.fld 1 (.tmp 3)) none [], AOper.mk (some 13) (.load false 1 (.tmp 12)) none [2], AOper.mk (some 14) (.call 19 [.tmp 11, .tmp 13]) none [1, 3], AOper.mk (some 15) (.un .not (.tmp 14)) none [4]]
def l13r4 : List AOper :=
  [AOper.mk (some 4) (.mv (.const (.bool false))) none []]
def l13r5 : List AOper :=
  [AOper.mk (some 16) (.fld 2 (.tmp 2)) none [], AOper.mk (some 17) (.load false 1 (.tmp 16)) none [0], AOper.mk (some 18) (.fld 2 (.tmp 3)) none [], AOper.mk (some 19) (.load false 1 (.tmp 18)) none [2], AOper.mk (some 20) (.call 19 [.tmp 17, .tmp 19]) none [1, 3], AOper.mk (some 21) (.un .not (.tmp 20)) none [4]]
def l13r6 : List AOper :=
  [AOper.mk (some 4) (.mv (.const (.bool false))) none []]
def l13r7 : List AOper :=
  [AOper.mk (some 4) (.mv (.const (.bool true))) none []]
def l13 : AFn :=
  (AFn.mk 22 2 (ACode.seq (ACode.reg l13r0) (ACode.seq (ACode.seq (ACode.reg l13r1) (ACode.cond (.tmp 9) (ACode.seq (ACode.reg l13r2) ACode.ret) ACode.skip)) (ACode.seq (ACode.seq (ACode.reg l13r3) (ACode.cond (.tmp 15) (ACode.seq (ACode.reg l13r4) ACode.ret) ACode.skip)) (ACode.seq (ACode.seq (ACode.reg l13r5) (ACode.cond (.tmp 21) (ACode.seq (ACode.reg l13r6) ACode.ret) ACode.skip)) (ACode.seq (ACode.reg l13r7) ACode.ret))))) [ARes.tmp 4])
theorem l13_eq : lowFn Try.prog 13 = some l13 := by kernel_rfl
def l14r0 : List AOper :=
  [AOper.mk (some 2) (.box (.tmp 0)) none [], AOper.mk (some 4) (.mv (.const (.int .i64 0))) none []]
def l14r1 : List AOper :=
  [AOper.mk (some 5) (.fld 1 (.tmp 2)) none [], AOper.mk (some 6) (.load false 1 (.tmp 5)) none [0], AOper.mk (some 7) (.mv (.tmp 1)) none [], AOper.mk (some 8) (.call 20 [.tmp 6, .tmp 7]) none [1, 2], AOper.mk (some 1) (.mv (.tmp 8)) none [3, 3, 0, 1, 2, 3]]
def l14r2 : List AOper :=
  [AOper.mk (some 9) (.fld 2 (.tmp 2)) none [], AOper.mk (some 10) (.load false 1 (.tmp 9)) none [0], AOper.mk (some 11) (.mv (.tmp 1)) none [], AOper.mk (some 12) (.call 20 [.tmp 10, .tmp 11]) none [1, 2], AOper.mk (some 1) (.mv (.tmp 12)) none [3, 3, 0, 1, 2, 3]]
def l14r3 : List AOper :=
  [AOper.mk (some 13) (.mv (.tmp 1)) none [], AOper.mk (some 4) (.mv (.tmp 13)) none [0, 0]]
def l14 : AFn :=
  (AFn.mk 14 2 (ACode.seq (ACode.reg l14r0) (ACode.seq (ACode.reg l14r1) (ACode.seq (ACode.reg l14r2) (ACode.seq (ACode.reg l14r3) ACode.ret)))) [ARes.tmp 4])
theorem l14_eq : lowFn Try.prog 14 = some l14 := by kernel_rfl
def l15r0 : List AOper :=
  [AOper.mk (some 2) (.box (.tmp 0)) none [], AOper.mk (some 4) (.mv (.const (.int .i64 0))) none []]
def l15r1 : List AOper :=
  [AOper.mk (some 5) (.fld 1 (.tmp 2)) none [], AOper.mk (some 6) (.load false 1 (.tmp 5)) none [0], AOper.mk (some 7) (.mv (.tmp 1)) none [], AOper.mk (some 8) (.call 23 [.tmp 6, .tmp 7]) none [1, 2], AOper.mk (some 1) (.mv (.tmp 8)) none [3, 3, 0, 1, 2, 3]]
def l15r2 : List AOper :=
  [AOper.mk (some 9) (.mv (.tmp 1)) none [], AOper.mk (some 10) (.bin .lss (.tmp 9) (.const (.int .i64 0))) none [0]]
def l15r3 : List AOper :=
  [AOper.mk (some 4) (.mv (.const (.int .i64 (-1)))) none []]
def l15r4 : List AOper :=
  [AOper.mk (some 11) (.fld 2 (.tmp 2)) none [], AOper.mk (some 12) (.load false 1 (.tmp 11)) none [0], AOper.mk (some 13) (.mv (.tmp 1)) none [], AOper.mk (some 14) (.call 23 [.tmp 12, .tmp 13]) none [1, 2], AOper.mk (some 1) (.mv (.tmp 14)) none [3, 3, 0, 1, 2, 3]]
def l15r5 : List AOper :=
  [AOper.mk (some 15) (.mv (.tmp 1)) none [], AOper.mk (some 16) (.bin .lss (.tmp 15) (.const (.int .i64 0))) none [0]]
def l15r6 : List AOper :=
  [AOper.mk (some 4) (.mv (.const (.int .i64 (-1)))) none []]
def l15r7 : List AOper :=
  [AOper.mk (some 17) (.mv (.tmp 1)) none [], AOper.mk (some 4) (.mv (.tmp 17)) none [0, 0]]
def l15 : AFn :=
  (AFn.mk 18 2 (ACode.seq (ACode.reg l15r0) (ACode.seq (ACode.reg l15r1) (ACode.seq (ACode.seq (ACode.reg l15r2) (ACode.cond (.tmp 10) (ACode.seq (ACode.reg l15r3) ACode.ret) ACode.skip)) (ACode.seq (ACode.reg l15r4) (ACode.seq (ACode.seq (ACode.reg l15r5) (ACode.cond (.tmp 16) (ACode.seq (ACode.reg l15r6) ACode.ret) ACode.skip)) (ACode.seq (ACode.reg l15r7) ACode.ret)))))) [ARes.tmp 4])
theorem l15_eq : lowFn Try.prog 15 = some l15 := by kernel_rfl
def l17r0 : List AOper :=
  [AOper.mk (some 2) (.mv (.const (.slice none 0 0))) none []]
def l17r1 : List AOper :=
  [AOper.mk (some 5) (.mv (.tmp 0)) none [], AOper.mk (some 6) (.len (.tmp 5)) none [0], AOper.mk (some 7) (.mkslice 1 [.int .i64 0] (.tmp 6) (.tmp 6)) none [1, 1], AOper.mk (some 3) (.mv (.tmp 7)) none [2, 0, 1, 2]]
def l17r2 : List AOper :=
  [AOper.mk (some 4) (.mv (.const (.int .i64 0))) none []]
def l17r3 : List AOper :=
  [AOper.mk (some 8) (.mv (.tmp 4)) none [], AOper.mk (some 9) (.mv (.tmp 0)) none [], AOper.mk (some 10) (.len (.tmp 9)) none [1], AOper.mk (some 11) (.bin .lss (.tmp 8) (.tmp 10)) none [0, 2]]
def l17r4 : List AOper :=
  [AOper.mk (some 14) (.mv (.tmp 3)) none [], AOper.mk (some 15) (.mv (.tmp 4)) none [], AOper.mk (some 16) (.mv (.tmp 0)) none [], AOper.mk (some 17) (.mv (.tmp 4)) none [], AOper.mk (some 18) (.idxA 1 (.tmp 16) (.tmp 17)) none [2, 3], AOper.mk (some 19) (.load false 1 (.tmp 18)) none [4], AOper.mk (some 20) (.idxA 1 (.tmp 14) (.tmp 15)) none [0, 1, 0, 1, 2, 3, 4, 5], AOper.mk none (.store 1 (.tmp 20) (.tmp 19)) none [6, 5, 0, 1, 2, 3, 4, 5]]
def l17r5 : List AOper :=
  [AOper.mk (some 12) (.mv (.tmp 4)) none [], AOper.mk (some 13) (.bin .add (.tmp 12) (.const (.int .i64 1))) none [0], AOper.mk (some 4) (.mv (.tmp 13)) none [1, 0, 1]]
def l17r6 : List AOper :=
  [AOper.mk (some 21) (.mv (.tmp 3)) none [], AOper.mk (some 2) (.mv (.tmp 21)) none [0, 0]]
def l17 : AFn :=
  (AFn.mk 22 1 (ACode.seq (ACode.reg l17r0) (ACode.seq (ACode.reg l17r1) (ACode.seq (ACode.seq (ACode.reg l17r2) (ACode.block 0 (ACode.loop (ACode.seq (ACode.seq (ACode.reg l17r3) (ACode.cond (.tmp 11) ACode.skip (ACode.exit 0))) (ACode.seq (ACode.block 1 (ACode.reg l17r4)) (ACode.reg l17r5)))))) (ACode.seq (ACode.reg l17r6) ACode.ret)))) [ARes.tmp 2])
theorem l17_eq : lowFn Try.prog 17 = some l17 := by kernel_rfl
def l19r0 : List AOper :=
  [AOper.mk (some 4) (.mv (.const (.bool false))) none []]
def l19r1 : List AOper :=
  [AOper.mk (some 6) (.mv (.tmp 0)) none [], AOper.mk (some 7) (.len (.tmp 6)) none [0], AOper.mk (some 8) (.mv (.tmp 1)) none [], AOper.mk (some 9) (.len (.tmp 8)) none [2], AOper.mk (some 10) (.bin .neq (.tmp 7) (.tmp 9)) none [1, 3]]
def l19r2 : List AOper :=
  [AOper.mk (some 4) (.mv (.const (.bool false))) none []]
def l19r3 : List AOper :=
  [AOper.mk (some 5) (.mv (.const (.int .i64 0))) none []]
def l19r4 : List AOper :=
  [AOper.mk (some 11) (.mv (.tmp 5)) none [], AOper.mk (some 12) (.mv (.tmp 0)) none [], AOper.mk (some 13) (.len (.tmp 12)) none [1], AOper.mk (some 14) (.bin .lss (.tmp 11) (.tmp 13)) none [0, 2]]
def l19r5a : List AOper :=
  [AOper.mk (some 17) (.mv (.tmp 0)) none [], AOper.mk (some 18) (.mv (.tmp 5)) none [], AOper.mk (some 19) (.idxA 1 (.tmp 17) (.tmp 18)) none [0, 1], AOper.mk (some 20) (.load false 1 (.tmp 19)) none [2], AOper.mk (some 21) (.mv (.tmp 1)) none [], AOper.mk (some 22) (.mv (.tmp 5)) none [], AOper.mk (some 23) (.idxA 1 (.tmp 21) (.tmp 22)) none [4, 5], AOper.mk (some 24) (.load false 1 (.tmp 23)) none [6]]
def l19r5b : List AOper :=
  [AOper.mk (some 25) (.bin .neq (.tmp 20) (.tmp 24)) none [3, 7]]
def l19r5 : List AOper := l19r5a ++ l19r5b
def l19r6 : List AOper :=
  [AOper.mk (some 4) (.mv (.const (.bool false))) none []]
def l19r7 : List AOper :=
  [AOper.mk (some 15) (.mv (.tmp 5)) none [], AOper.mk (some 16) (.bin .add (.tmp 15) (.const (.int .i64 1))) none [0], AOper.mk (some 5) (.mv (.tmp 16)) none [1, 0, 1]]
def l19r8 : List AOper :=
  [AOper.mk (some 4) (.mv (.const (.bool true))) none []]
def l19 : AFn :=
  (AFn.mk 26 2 (ACode.seq (ACode.reg l19r0) (ACode.seq (ACode.seq (ACode.reg l19r1) (ACode.cond (.tmp 10) (ACode.seq (ACode.reg l19r2) ACode.ret) ACode.skip)) (ACode.seq (ACode.seq (ACode.reg l19r3) (ACode.block 0 (ACode.loop (ACode.seq (ACode.seq (ACode.reg l19r4) (ACode.cond (.tmp 14) ACode.skip (ACode.exit 0))) (ACode.seq (ACode.block 1 (ACode.seq (ACode.draw l19r5) (ACode.cond (.tmp 25) (ACode.seq (ACode.reg l19r6) ACode.ret) ACode.skip))) (ACode.reg l19r7)))))) (ACode.seq (ACode.reg l19r8) ACode.ret)))) [ARes.tmp 4])
theorem l19_eq : lowFn Try.prog 19 = some l19 := by kernel_rfl
def l20r0 : List AOper :=
  [AOper.mk (some 4) (.mv (.const (.int .i64 0))) none []]
def l20r1 : List AOper :=
  [AOper.mk (some 5) (.mv (.const (.int .i64 0))) none []]
def l20r2 : List AOper :=
  [AOper.mk (some 6) (.mv (.tmp 5)) none [], AOper.mk (some 7) (.mv (.tmp 0)) none [], AOper.mk (some 8) (.len (.tmp 7)) none [1], AOper.mk (some 9) (.bin .lss (.tmp 6) (.tmp 8)) none [0, 2]]
def l20r3 : List AOper :=
  [AOper.mk (some 12) (.mv (.tmp 0)) none [], AOper.mk (some 13) (.mv (.tmp 5)) none [], AOper.mk (some 14) (.mv (.tmp 1)) none [], AOper.mk (some 15) (.idxA 1 (.tmp 12) (.tmp 13)) none [0, 1, 0, 1, 2], AOper.mk none (.store 1 (.tmp 15) (.tmp 14)) none [3, 2, 0, 1, 2]]
def l20r4 : List AOper :=
  [AOper.mk (some 16) (.mv (.tmp 1)) none [], AOper.mk (some 17) (.bin .add (.tmp 16) (.const (.int .i64 1))) none [0], AOper.mk (some 1) (.mv (.tmp 17)) none [1, 0, 1]]
def l20r5 : List AOper :=
  [AOper.mk (some 10) (.mv (.tmp 5)) none [], AOper.mk (some 11) (.bin .add (.tmp 10) (.const (.int .i64 1))) none [0], AOper.mk (some 5) (.mv (.tmp 11)) none [1, 0, 1]]
def l20r6 : List AOper :=
  [AOper.mk (some 18) (.mv (.tmp 1)) none [], AOper.mk (some 4) (.mv (.tmp 18)) none [0, 0]]
def l20 : AFn :=
  (AFn.mk 19 2 (ACode.seq (ACode.reg l20r0) (ACode.seq (ACode.seq (ACode.reg l20r1) (ACode.block 0 (ACode.loop (ACode.seq (ACode.seq (ACode.reg l20r2) (ACode.cond (.tmp 9) ACode.skip (ACode.exit 0))) (ACode.seq (ACode.block 1 (ACode.seq (ACode.reg l20r3) (ACode.reg l20r4))) (ACode.reg l20r5)))))) (ACode.seq (ACode.reg l20r6) ACode.ret))) [ARes.tmp 4])
theorem l20_eq : lowFn Try.prog 20 = some l20 := by kernel_rfl
def l23r0 : List AOper :=
  [AOper.mk (some 4) (.mv (.const (.int .i64 0))) none []]
def l23r1 : List AOper :=
  [AOper.mk (some 5) (.mv (.const (.int .i64 0))) none []]
def l23r2 : List AOper :=
  [AOper.mk (some 6) (.mv (.tmp 5)) none [], AOper.mk (some 7) (.mv (.tmp 0)) none [], AOper.mk (some 8) (.len (.tmp 7)) none [1], AOper.mk (some 9) (.bin .lss (.tmp 6) (.tmp 8)) none [0, 2]]
def l23r3 : List AOper :=
  [AOper.mk (some 12) (.mv (.tmp 0)) none [], AOper.mk (some 13) (.mv (.tmp 5)) none [], AOper.mk (some 14) (.idxA 1 (.tmp 12) (.tmp 13)) none [0, 1], AOper.mk (some 15) (.load false 1 (.tmp 14)) none [2], AOper.mk (some 16) (.mv (.tmp 1)) none [], AOper.mk (some 17) (.bin .neq (.tmp 15) (.tmp 16)) none [3, 4]]
def l23r4 : List AOper :=
  [AOper.mk (some 4) (.mv (.const (.int .i64 (-1)))) none []]
def l23r5 : List AOper :=
  [AOper.mk (some 18) (.mv (.tmp 1)) none [], AOper.mk (some 19) (.bin .add (.tmp 18) (.const (.int .i64 1))) none [0], AOper.mk (some 1) (.mv (.tmp 19)) none [1, 0, 1]]
def l23r6 : List AOper :=
  [AOper.mk (some 10) (.mv (.tmp 5)) none [], AOper.mk (some 11) (.bin .add (.tmp 10) (.const (.int .i64 1))) none [0], AOper.mk (some 5) (.mv (.tmp 11)) none [1, 0, 1]]
def l23r7 : List AOper :=
  [AOper.mk (some 20) (.mv (.tmp 1)) none [], AOper.mk (some 4) (.mv (.tmp 20)) none [0, 0]]
def l23 : AFn :=
  (AFn.mk 21 2 (ACode.seq (ACode.reg l23r0) (ACode.seq (ACode.seq (ACode.reg l23r1) (ACode.block 0 (ACode.loop (ACode.seq (ACode.seq (ACode.reg l23r2) (ACode.cond (.tmp 9) ACode.skip (ACode.exit 0))) (ACode.seq (ACode.block 1 (ACode.seq (ACode.seq (ACode.reg l23r3) (ACode.cond (.tmp 17) (ACode.seq (ACode.reg l23r4) ACode.ret) ACode.skip)) (ACode.reg l23r5))) (ACode.reg l23r6)))))) (ACode.seq (ACode.reg l23r7) ACode.ret))) [ARes.tmp 4])
theorem l23_eq : lowFn Try.prog 23 = some l23 := by kernel_rfl
def l24r0 : List AOper :=
  [AOper.mk (some 3) (.box (.tmp 0)) none [], AOper.mk (some 6) (.alloc [.int .i64 0, .slice none 0 0, .slice none 0 0]) none [], AOper.mk (some 7) (.mv (.const (.bool false))) none []]
def l24r1a : List AOper :=
  [AOper.mk (some 9) (.load true 3 (.tmp 3)) none [], AOper.mk (some 10) (.call 31 [.tmp 9]) none [0], AOper.mk (some 11) (.un .not (.tmp 10)) none [1], AOper.mk (some 12) (.mv (.tmp 11)) none [2, 1], AOper.mk (some 13) (.load true 3 (.tmp 3)) (some (12, false)) [3], AOper.mk (some 14) (.mv (.tmp 1)) (some (12, false)) [3], AOper.mk (some 15) (.call 48 [.tmp 13, .tmp 14]) (some (12, false)) [4, 5, 3, 3], AOper.mk (some 16) (.un .not (.tmp 15)) (some (12, false)) [6, 3], AOper.mk (some 17) (.pick (.tmp 12) (.const (.bool true)) (.tmp 16)) none [3, 7], AOper.mk (some 18) (.mv (.tmp 17)) none [8, 6], AOper.mk (some 19) (.load true 3 (.tmp 3)) (some (18, false)) [9], AOper.mk (some 20) (.mv (.tmp 2)) (some (18, false)) [9], AOper.mk (some 21) (.call 48 [.tmp 19, .tmp 20]) (some (18, false)) [10, 11, 9, 9], AOper.mk (some 22) (.un .not (.tmp 21)) (some (18, false)) [12, 9], AOper.mk (some 23) (.pick (.tmp 18) (.const (.bool true)) (.tmp 22)) none [9, 13], AOper.mk (some 24) (.mv (.tmp 23)) none [14, 12], AOper.mk (some 25) (.mv (.tmp 1)) (some (24, false)) [15], AOper.mk (some 26) (.mv (.tmp 2)) (some (24, false)) [15], AOper.mk (some 27) (.bin .eql (.tmp 25) (.tmp 26)) (some (24, false)) [16, 17, 15], AOper.mk (some 28) (.pick (.tmp 24) (.const (.bool true)) (.tmp 27)) none [15, 18], AOper.mk (some 29) (.mv (.tmp 28)) none [19, 15], AOper.mk (some 30) (.fld 1 (.tmp 3)) (some (29, false)) [20], AOper.mk (some 31) (.load false 1 (.tmp 30)) (some (29, false)) [21, 20], AOper.mk (some 32) (.mv (.tmp 1)) (some (29, false)) [20], AOper.mk (some 33) (.idxA 1 (.tmp 31) (.tmp 32)) (some (29, false)) [22, 23, 20], AOper.mk (some 34) (.load false 1 (.tmp 33)) (some (29, false)) [24, 20], AOper.mk (some 35) (.fld 1 (.tmp 3)) (some (29, false)) [20], AOper.mk (some 36) (.load false 1 (.tmp 35)) (some (29, false)) [26, 20], AOper.mk (some 37) (.mv (.tmp 2)) (some (29, false)) [20], AOper.mk (some 38) (.idxA 1 (.tmp 36) (.tmp 37)) (some (29, false)) [27, 28, 20], AOper.mk (some 39) (.load false 1 (.tmp 38)) (some (29, false)) [29, 20]]
def l24r1b : List AOper :=
  [AOper.mk (some 40) (.bin .neq (.tmp 34) (.tmp 39)) (some (29, false)) [25, 30, 20], AOper.mk (some 41) (.pick (.tmp 29) (.const (.bool true)) (.tmp 40)) none [20, 31]]
def l24r1 : List AOper := l24r1a ++ l24r1b
def l24r2 : List AOper :=
  [AOper.mk (some 42) (.build [.int .i64 0, .slice none 0 0, .slice none 0 0] []) none [], AOper.mk none (.store 3 (.tmp 6) (.tmp 42)) none [0, 0], AOper.mk (some 7) (.mv (.const (.bool false))) none [1, 0, 1]]
def l24r3 : List AOper :=
  [AOper.mk (some 43) (.load true 3 (.tmp 3)) none [], AOper.mk (some 44) (.call 49 [.tmp 43]) none [0], AOper.mk (some 8) (.alloc [.int .i64 0, .slice none 0 0, .slice none 0 0]) none [], AOper.mk none (.store 3 (.tmp 8) (.tmp 44)) none [2, 1, 1, 0, 1, 2]]
def l24r4a : List AOper :=
  [AOper.mk (some 45) (.fld 2 (.tmp 8)) none [], AOper.mk (some 46) (.load false 1 (.tmp 45)) none [0], AOper.mk (some 47) (.mv (.tmp 1)) none [], AOper.mk (some 48) (.fld 2 (.tmp 3)) none [], AOper.mk (some 49) (.load false 1 (.tmp 48)) none [3], AOper.mk (some 50) (.mv (.tmp 1)) none [], AOper.mk (some 51) (.idxA 1 (.tmp 49) (.tmp 50)) none [4, 5], AOper.mk (some 52) (.load false 1 (.tmp 51)) none [6], AOper.mk (some 53) (.fld 2 (.tmp 3)) none [], AOper.mk (some 54) (.load false 1 (.tmp 53)) none [8], AOper.mk (some 55) (.mv (.tmp 2)) none [], AOper.mk (some 56) (.idxA 1 (.tmp 54) (.tmp 55)) none [9, 10], AOper.mk (some 57) (.load false 1 (.tmp 56)) none [11], AOper.mk (some 58) (.bin .add (.tmp 52) (.tmp 57)) none [7, 12]]
def l24r4b : List AOper :=
  [AOper.mk (some 59) (.idxA 1 (.tmp 46) (.tmp 47)) none [1, 2, 0, 1, 2, 3, 4, 5, 6, 7, 8, 9, 10, 11, 12, 13], AOper.mk none (.store 1 (.tmp 59) (.tmp 58)) none [14, 13, 0, 1, 2, 3, 4, 5, 6, 7, 8, 9, 10, 11, 12, 13]]
def l24r4 : List AOper := l24r4a ++ l24r4b
def l24r5 : List AOper :=
  [AOper.mk (some 60) (.fld 1 (.tmp 3)) none [], AOper.mk (some 61) (.load false 1 (.tmp 60)) none [0], AOper.mk (some 62) (.mv (.tmp 1)) none [], AOper.mk (some 63) (.idxA 1 (.tmp 61) (.tmp 62)) none [1, 2], AOper.mk (some 64) (.load false 1 (.tmp 63)) none [3], AOper.mk (some 65) (.bin .leq (.tmp 64) (.const (.int .i64 1))) none [4]]
def l24r6 : List AOper :=
  [AOper.mk (some 66) (.fld 2 (.tmp 8)) none [], AOper.mk (some 67) (.load false 1 (.tmp 66)) none [0], AOper.mk (some 68) (.mv (.tmp 1)) none [], AOper.mk (some 69) (.idxA 1 (.tmp 67) (.tmp 68)) none [1, 2, 0, 1, 2], AOper.mk none (.store 1 (.tmp 69) (.const (.int .i64 0))) none [3, 0, 1, 2]]
def l24r7 : List AOper :=
  [AOper.mk (some 70) (.fld 1 (.tmp 8)) none [], AOper.mk (some 71) (.load false 1 (.tmp 70)) none [0], AOper.mk (some 72) (.mv (.tmp 2)) none [], AOper.mk (some 73) (.call 50 [.tmp 71, .tmp 72]) none [1, 2], AOper.mk (some 74) (.fld 1 (.tmp 8)) none [0, 1, 2, 3], AOper.mk none (.store 1 (.tmp 74) (.tmp 73)) none [4, 3, 3, 0, 1, 2, 3]]
def l24r8 : List AOper :=
  [AOper.mk (some 75) (.fld 2 (.tmp 8)) none [], AOper.mk (some 76) (.load false 1 (.tmp 75)) none [0], AOper.mk (some 77) (.mv (.tmp 2)) none [], AOper.mk (some 78) (.call 50 [.tmp 76, .tmp 77]) none [1, 2], AOper.mk (some 79) (.fld 2 (.tmp 8)) none [0, 1, 2, 3], AOper.mk none (.store 1 (.tmp 79) (.tmp 78)) none [4, 3, 3, 0, 1, 2, 3]]
def l24r9 : List AOper :=
  [AOper.mk (some 80) (.load true 3 (.tmp 8)) none [], AOper.mk (some 81) (.call 51 [.tmp 80]) none [0], AOper.mk (some 82) (.call 39 [.tmp 81]) none [1, 1], AOper.mk (some 83) (.extract (.tmp 82) 0) none [2], AOper.mk (some 84) (.extract (.tmp 82) 1) none [2], AOper.mk none (.store 3 (.tmp 6) (.tmp 83)) none [3, 2, 0, 1, 2, 3, 4], AOper.mk (some 7) (.mv (.tmp 84)) none [4, 5, 0, 1, 2, 3, 4, 5]]
def l24 : AFn :=
  (AFn.mk 85 3 (ACode.seq (ACode.reg l24r0) (ACode.seq (ACode.seq (ACode.draw l24r1) (ACode.cond (.tmp 41) (ACode.seq (ACode.reg l24r2) ACode.ret) ACode.skip)) (ACode.seq (ACode.reg l24r3) (ACode.seq (ACode.draw l24r4) (ACode.seq (ACode.seq (ACode.reg l24r5) (ACode.cond (.tmp 65) (ACode.reg l24r6) ACode.skip)) (ACode.seq (ACode.reg l24r7) (ACode.seq (ACode.reg l24r8) (ACode.seq (ACode.reg l24r9) ACode.ret)))))))) [ARes.cell 6 true 3, ARes.tmp 7])
theorem l24_eq : lowFn Try.prog 24 = some l24 := by kernel_rfl
def l25r0 : List AOper :=
  [AOper.mk (some 3) (.box (.tmp 0)) none [], AOper.mk (some 6) (.alloc [.int .i64 0, .slice none 0 0, .slice none 0 0]) none [], AOper.mk (some 7) (.mv (.const (.bool false))) none []]
def l25r1a : List AOper :=
  [AOper.mk (some 9) (.load true 3 (.tmp 3)) none [], AOper.mk (some 10) (.mv (.tmp 1)) none [], AOper.mk (some 11) (.call 52 [.tmp 9, .tmp 10]) none [0, 1], AOper.mk (some 12) (.un .not (.tmp 11)) none [2], AOper.mk (some 13) (.mv (.tmp 12)) none [3, 2], AOper.mk (some 14) (.load true 3 (.tmp 3)) (some (13, false)) [4], AOper.mk (some 15) (.mv (.tmp 2)) (some (13, false)) [4], AOper.mk (some 16) (.call 52 [.tmp 14, .tmp 15]) (some (13, false)) [5, 6, 4, 4], AOper.mk (some 17) (.un .not (.tmp 16)) (some (13, false)) [7, 4], AOper.mk (some 18) (.pick (.tmp 13) (.const (.bool true)) (.tmp 17)) none [4, 8], AOper.mk (some 19) (.mv (.tmp 18)) none [9, 7], AOper.mk (some 20) (.mv (.tmp 1)) (some (19, false)) [10], AOper.mk (some 21) (.mv (.tmp 2)) (some (19, false)) [10], AOper.mk (some 22) (.bin .eql (.tmp 20) (.tmp 21)) (some (19, false)) [11, 12, 10], AOper.mk (some 23) (.pick (.tmp 19) (.const (.bool true)) (.tmp 22)) none [10, 13], AOper.mk (some 24) (.mv (.tmp 23)) none [14, 10], AOper.mk (some 25) (.fld 1 (.tmp 3)) (some (24, false)) [15], AOper.mk (some 26) (.load false 1 (.tmp 25)) (some (24, false)) [16, 15], AOper.mk (some 27) (.mv (.tmp 1)) (some (24, false)) [15], AOper.mk (some 28) (.idxA 1 (.tmp 26) (.tmp 27)) (some (24, false)) [17, 18, 15], AOper.mk (some 29) (.load false 1 (.tmp 28)) (some (24, false)) [19, 15], AOper.mk (some 30) (.fld 1 (.tmp 3)) (some (24, false)) [15], AOper.mk (some 31) (.load false 1 (.tmp 30)) (some (24, false)) [21, 15], AOper.mk (some 32) (.mv (.tmp 2)) (some (24, false)) [15], AOper.mk (some 33) (.idxA 1 (.tmp 31) (.tmp 32)) (some (24, false)) [22, 23, 15], AOper.mk (some 34) (.load false 1 (.tmp 33)) (some (24, false)) [24, 15]]
def l25r1b : List AOper :=
  [AOper.mk (some 35) (.bin .neq (.tmp 29) (.tmp 34)) (some (24, false)) [20, 25, 15], AOper.mk (some 36) (.pick (.tmp 24) (.const (.bool true)) (.tmp 35)) none [15, 26]]
def l25r1 : List AOper := l25r1a ++ l25r1b
def l25r2 : List AOper :=
  [AOper.mk (some 37) (.build [.int .i64 0, .slice none 0 0, .slice none 0 0] []) none [], AOper.mk none (.store 3 (.tmp 6) (.tmp 37)) none [0, 0], AOper.mk (some 7) (.mv (.const (.bool false))) none [1, 0, 1]]
def l25r3 : List AOper :=
  [AOper.mk (some 38) (.load true 3 (.tmp 3)) none [], AOper.mk (some 39) (.call 33 [.tmp 38]) none [0], AOper.mk (some 8) (.alloc [.int .i64 0, .slice none 0 0, .slice none 0 0, .int .i64 0, .int .i64 0, .int .i64 0, .int .i64 0, .slice none 0 0]) none [], AOper.mk none (.store 8 (.tmp 8) (.tmp 39)) none [2, 1, 1, 0, 1, 2]]
def l25r4a : List AOper :=
  [AOper.mk (some 40) (.fld 7 (.tmp 8)) none [], AOper.mk (some 41) (.load false 1 (.tmp 40)) none [0], AOper.mk (some 42) (.mv (.tmp 1)) none [], AOper.mk (some 43) (.fld 1 (.tmp 3)) none [], AOper.mk (some 44) (.load false 1 (.tmp 43)) none [3], AOper.mk (some 45) (.mv (.tmp 1)) none [], AOper.mk (some 46) (.idxA 1 (.tmp 44) (.tmp 45)) none [4, 5], AOper.mk (some 47) (.load false 1 (.tmp 46)) none [6], AOper.mk (some 48) (.fld 2 (.tmp 3)) none [], AOper.mk (some 49) (.load false 1 (.tmp 48)) none [8], AOper.mk (some 50) (.mv (.tmp 1)) none [], AOper.mk (some 51) (.idxA 1 (.tmp 49) (.tmp 50)) none [9, 10], AOper.mk (some 52) (.load false 1 (.tmp 51)) none [11], AOper.mk (some 53) (.fld 2 (.tmp 3)) none [], AOper.mk (some 54) (.load false 1 (.tmp 53)) none [13], AOper.mk (some 55) (.mv (.tmp 2)) none [], AOper.mk (some 56) (.idxA 1 (.tmp 54) (.tmp 55)) none [14, 15], AOper.mk (some 57) (.load false 1 (.tmp 56)) none [16], AOper.mk (some 58) (.bin .add (.tmp 52) (.tmp 57)) none [12, 17], AOper.mk (some 59) (.call 53 [.tmp 47, .tmp 58]) none [7, 18]]
def l25r4b : List AOper :=
  [AOper.mk (some 60) (.idxA 2 (.tmp 41) (.tmp 42)) none [1, 2, 0, 1, 2, 3, 4, 5, 6, 7, 8, 9, 10, 11, 12, 13, 14, 15, 16, 17, 18, 19], AOper.mk none (.store 2 (.tmp 60) (.tmp 59)) none [20, 19, 19, 0, 1, 2, 3, 4, 5, 6, 7, 8, 9, 10, 11, 12, 13, 14, 15, 16, 17, 18, 19]]
def l25r4 : List AOper := l25r4a ++ l25r4b
def l25r5 : List AOper :=
  [AOper.mk (some 61) (.fld 7 (.tmp 8)) none [], AOper.mk (some 62) (.load false 1 (.tmp 61)) none [0], AOper.mk (some 63) (.mv (.tmp 2)) none [], AOper.mk (some 64) (.mv (.tmp 2)) none [], AOper.mk (some 65) (.bin .add (.tmp 64) (.const (.int .i64 1))) none [3], AOper.mk (some 66) (.call 54 [.tmp 62, .tmp 63, .tmp 65]) none [1, 2, 4], AOper.mk (some 67) (.fld 7 (.tmp 8)) none [0, 1, 2, 3, 4, 5], AOper.mk none (.store 1 (.tmp 67) (.tmp 66)) none [6, 5, 5, 0, 1, 2, 3, 4, 5]]
def l25r6 : List AOper :=
  [AOper.mk (some 68) (.load true 8 (.tmp 8)) none [], AOper.mk (some 69) (.call 44 [.tmp 68]) none [0], AOper.mk none (.store 3 (.tmp 6) (.tmp 69)) none [1, 1, 0, 1], AOper.mk (some 7) (.mv (.const (.bool true))) none [2, 0, 1, 2]]
def l25 : AFn :=
  (AFn.mk 70 3 (ACode.seq (ACode.reg l25r0) (ACode.seq (ACode.seq (ACode.draw l25r1) (ACode.cond (.tmp 36) (ACode.seq (ACode.reg l25r2) ACode.ret) ACode.skip)) (ACode.seq (ACode.reg l25r3) (ACode.seq (ACode.draw l25r4) (ACode.seq (ACode.reg l25r5) (ACode.seq (ACode.reg l25r6) ACode.ret)))))) [ARes.cell 6 true 3, ARes.tmp 7])
theorem l25_eq : lowFn Try.prog 25 = some l25 := by kernel_rfl
def l30r0 : List AOper :=
  [AOper.mk (some 4) (.mv (.const (.int .i64 0))) none []]
def l30r1 : List AOper :=
  [AOper.mk (some 5) (.mv (.tmp 1)) none [], AOper.mk (some 6) (.mv (.tmp 0)) none [], AOper.mk (some 7) (.len (.tmp 6)) none [1], AOper.mk (some 8) (.bin .sub (.tmp 5) (.tmp 7)) none [0, 2], AOper.mk (some 1) (.mv (.tmp 8)) none [3, 0, 1, 2, 3]]
def l30r2 : List AOper :=
  [AOper.mk (some 9) (.mv (.tmp 1)) none [], AOper.mk (some 10) (.bin .lss (.tmp 9) (.const (.int .i64 0))) none [0]]
def l30r3 : List AOper :=
  [AOper.mk (some 4) (.mv (.const (.int .i64 (-1)))) none []]
def l30r4 : List AOper :=
  [AOper.mk (some 11) (.mv (.tmp 1)) none [], AOper.mk (some 4) (.mv (.tmp 11)) none [0, 0]]
def l30 : AFn :=
  (AFn.mk 12 2 (ACode.seq (ACode.reg l30r0) (ACode.seq (ACode.reg l30r1) (ACode.seq (ACode.seq (ACode.reg l30r2) (ACode.cond (.tmp 10) (ACode.seq (ACode.reg l30r3) ACode.ret) ACode.skip)) (ACode.seq (ACode.reg l30r4) ACode.ret)))) [ARes.tmp 4])
theorem l30_eq : lowFn Try.prog 30 = some l30 := by kernel_rfl
def l31r0 : List AOper :=
  [AOper.mk (some 1) (.box (.tmp 0)) none [], AOper.mk (some 2) (.mv (.const (.bool false))) none []]
def l31r1 : List AOper :=
  [AOper.mk (some 3) (.fld 1 (.tmp 1)) none [], AOper.mk (some 4) (.load false 1 (.tmp 3)) none [0], AOper.mk (some 5) (.call 37 [.tmp 4]) none [1], AOper.mk (some 6) (.mv (.tmp 5)) none [2, 2], AOper.mk (some 7) (.fld 2 (.tmp 1)) (some (6, true)) [3], AOper.mk (some 8) (.load false 1 (.tmp 7)) (some (6, true)) [4, 3], AOper.mk (some 9) (.len (.tmp 8)) (some (6, true)) [5, 3], AOper.mk (some 10) (.fld 1 (.tmp 1)) (some (6, true)) [3], AOper.mk (some 11) (.load false 1 (.tmp 10)) (some (6, true)) [7, 3], AOper.mk (some 12) (.len (.tmp 11)) (some (6, true)) [8, 3], AOper.mk (some 13) (.bin .eql (.tmp 9) (.tmp 12)) (some (6, true)) [6, 9, 3], AOper.mk (some 14) (.pick (.tmp 6) (.tmp 13) (.const (.bool false))) none [3, 10], AOper.mk (some 15) (.mv (.tmp 14)) none [11, 3], AOper.mk (some 16) (.fld 2 (.tmp 1)) (some (15, true)) [12], AOper.mk (some 17) (.load false 1 (.tmp 16)) (some (15, true)) [13, 12], AOper.mk (some 18) (.call 60 [.tmp 17, .const (.int .i64 (-60)), .const (.int .i64 60)]) (some (15, true)) [14, 12, 12], AOper.mk (some 19) (.pick (.tmp 15) (.tmp 18) (.const (.bool false))) none [12, 15], AOper.mk (some 20) (.mv (.tmp 19)) none [16, 15], AOper.mk (some 21) (.fld 0 (.tmp 1)) (some (20, true)) [17], AOper.mk (some 22) (.load false 1 (.tmp 21)) (some (20, true)) [18, 17], AOper.mk (some 23) (.call 61 [.tmp 22, .const (.int .i64 0), .const (.int .i64 60)]) (some (20, true)) [19, 17, 17], AOper.mk (some 24) (.pick (.tmp 20) (.tmp 23) (.const (.bool false))) none [17, 20], AOper.mk (some 25) (.mv (.tmp 24)) none [21, 20], AOper.mk (some 26) (.fld 1 (.tmp 1)) (some (25, true)) [22], AOper.mk (some 27) (.load false 1 (.tmp 26)) (some (25, true)) [23, 22], AOper.mk (some 28) (.call 62 [.tmp 27]) (some (25, true)) [24, 22, 22], AOper.mk (some 29) (.bin .eql (.tmp 28) (.const (.int .i64 0))) (some (25, true)) [25, 22], AOper.mk (some 30) (.mv (.tmp 29)) (some (25, true)) [26, 25, 22], AOper.mk (some 31) (.load true 3 (.tmp 1)) (some (30, false)) [27], AOper.mk (some 32) (.call 63 [.tmp 31]) (some (30, false)) [28, 27, 27], AOper.mk (some 33) (.call 60 [.tmp 32, .const (.int .i64 0), .const (.int .i64 59)]) (some (30, false)) [29, 29, 27], AOper.mk (some 34) (.pick (.tmp 30) (.const (.bool true)) (.tmp 33)) (some (25, true)) [27, 30, 22], AOper.mk (some 35) (.pick (.tmp 25) (.tmp 34) (.const (.bool false))) none [22, 31], AOper.mk (some 2) (.mv (.tmp 35)) none [32, 30, 0, 1, 2, 3, 4, 5, 6, 7, 8, 9, 10, 11, 12, 13, 14, 15, 16, 17, 18, 19, 20, 21, 22, 23, 24, 25, 26, 27, 28, 29, 30, 31, 32]]
def l31 : AFn :=
  (AFn.mk 36 1 (ACode.seq (ACode.reg l31r0) (ACode.seq (ACode.reg l31r1) ACode.ret)) [ARes.tmp 2])
theorem l31_eq : lowFn Try.prog 31 = some l31 := by kernel_rfl
def l32r0 : List AOper :=
  [AOper.mk (some 1) (.box (.tmp 0)) none [], AOper.mk (some 2) (.mv (.const (.bool false))) none []]
def l32r1 : List AOper :=
  [AOper.mk (some 5) (.fld 1 (.tmp 1)) none [], AOper.mk (some 6) (.load false 1 (.tmp 5)) none [0], AOper.mk (some 7) (.call 40 [.tmp 6]) none [1], AOper.mk (some 8) (.un .not (.tmp 7)) none [2], AOper.mk (some 9) (.mv (.tmp 8)) none [3, 2], AOper.mk (some 10) (.fld 2 (.tmp 1)) (some (9, false)) [4], AOper.mk (some 11) (.load false 1 (.tmp 10)) (some (9, false)) [5, 4], AOper.mk (some 12) (.fld 1 (.tmp 1)) (some (9, false)) [4], AOper.mk (some 13) (.load false 1 (.tmp 12)) (some (9, false)) [7, 4], AOper.mk (some 14) (.len (.tmp 13)) (some (9, false)) [8, 4], AOper.mk (some 15) (.call 64 [.tmp 11, .tmp 14]) (some (9, false)) [6, 9, 4, 4], AOper.mk (some 16) (.un .not (.tmp 15)) (some (9, false)) [10, 4], AOper.mk (some 17) (.pick (.tmp 9) (.const (.bool true)) (.tmp 16)) none [4, 11], AOper.mk (some 18) (.mv (.tmp 17)) none [12, 10], AOper.mk (some 19) (.fld 0 (.tmp 1)) (some (18, false)) [13], AOper.mk (some 20) (.load false 1 (.tmp 19)) (some (18, false)) [14, 13], AOper.mk (some 21) (.call 65 [.tmp 20, .const (.int .i64 60)]) (some (18, false)) [15, 13, 13], AOper.mk (some 22) (.un .not (.tmp 21)) (some (18, false)) [16, 13], AOper.mk (some 23) (.pick (.tmp 18) (.const (.bool true)) (.tmp 22)) none [13, 17]]
def l32r2 : List AOper :=
  [AOper.mk (some 2) (.mv (.const (.bool false))) none []]
def l32r3 : List AOper :=
  [AOper.mk (some 25) (.load true 3 (.tmp 1)) none [], AOper.mk (some 26) (.call 66 [.tmp 25]) none [0], AOper.mk (some 24) (.mv (.tmp 26)) none [1], AOper.mk (some 27) (.extract (.tmp 24) 0) none [2], AOper.mk (some 28) (.extract (.tmp 24) 1) none [2], AOper.mk (some 3) (.mv (.tmp 27)) none [3, 1, 0, 1, 2, 3], AOper.mk (some 4) (.mv (.tmp 28)) none [4, 5, 0, 1, 2, 3, 4, 5]]
def l32r4 : List AOper :=
  [AOper.mk (some 29) (.load true 3 (.tmp 1)) none [], AOper.mk (some 30) (.call 67 [.tmp 29]) none [0], AOper.mk (some 31) (.bin .eql (.tmp 30) (.const (.int .i64 0))) none [1], AOper.mk (some 32) (.mv (.tmp 31)) none [2, 1], AOper.mk (some 33) (.mv (.tmp 3)) (some (32, false)) [3], AOper.mk (some 34) (.bin .geq (.tmp 33) (.const (.int .i64 0))) (some (32, false)) [4, 3], AOper.mk (some 35) (.mv (.tmp 34)) (some (32, false)) [5, 3, 3], AOper.mk (some 36) (.mv (.tmp 4)) (some (35, true)) [6], AOper.mk (some 37) (.bin .lss (.tmp 36) (.const (.int .i64 60))) (some (35, true)) [7, 6], AOper.mk (some 38) (.pick (.tmp 35) (.tmp 37) (.const (.bool false))) (some (32, false)) [6, 8, 3], AOper.mk (some 39) (.pick (.tmp 32) (.const (.bool true)) (.tmp 38)) none [3, 9], AOper.mk (some 2) (.mv (.tmp 39)) none [10, 6, 0, 1, 2, 3, 4, 5, 6, 7, 8, 9, 10]]
def l32 : AFn :=
  (AFn.mk 40 1 (ACode.seq (ACode.reg l32r0) (ACode.seq (ACode.seq (ACode.reg l32r1) (ACode.cond (.tmp 23) (ACode.seq (ACode.reg l32r2) ACode.ret) ACode.skip)) (ACode.seq (ACode.reg l32r3) (ACode.seq (ACode.reg l32r4) ACode.ret)))) [ARes.tmp 2])
theorem l32_eq : lowFn Try.prog 32 = some l32 := by kernel_rfl
def l33r0 : List AOper :=
  [AOper.mk (some 1) (.box (.tmp 0)) none [], AOper.mk (some 2) (.alloc [.int .i64 0, .slice none 0 0, .slice none 0 0, .int .i64 0, .int .i64 0, .int .i64 0, .int .i64 0, .slice none 0 0]) none []]
def l33r1 : List AOper :=
  [AOper.mk (some 6) (.load true 3 (.tmp 1)) none [], AOper.mk (some 7) (.build [.int .i64 0, .slice none 0 0, .slice none 0 0, .int .i64 0, .int .i64 0, .int .i64 0, .int .i64 0, .slice none 0 0] [(0, 3, .tmp 6)]) none [0], AOper.mk (some 3) (.alloc [.int .i64 0, .slice none 0 0, .slice none 0 0, .int .i64 0, .int .i64 0, .int .i64 0, .int .i64 0, .slice none 0 0]) none [], AOper.mk none (.store 8 (.tmp 3) (.tmp 7)) none [2, 1, 0, 1, 2]]
def l33r2 : List AOper :=
  [AOper.mk (some 8) (.fld 1 (.tmp 1)) none [], AOper.mk (some 9) (.load false 1 (.tmp 8)) none [0], AOper.mk (some 10) (.len (.tmp 9)) none [1], AOper.mk (some 11) (.mv (.const (.int .i64 0))) none []]
def l33r3 : List AOper :=
  [AOper.mk (some 12) (.bin .lss (.tmp 11) (.tmp 10)) none []]
def l33r4 : List AOper :=
  [AOper.mk (some 13) (.mv (.tmp 11)) none [], AOper.mk (some 14) (.idxA 1 (.tmp 9) (.tmp 11)) none [], AOper.mk (some 15) (.load false 1 (.tmp 14)) none [1], AOper.mk (some 4) (.mv (.tmp 13)) none [0, 0, 1, 2], AOper.mk (some 5) (.mv (.tmp 15)) none [2, 3, 0, 1, 2, 3]]
def l33r5a : List AOper :=
  [AOper.mk (some 16) (.fld 7 (.tmp 3)) none [], AOper.mk (some 17) (.load false 1 (.tmp 16)) none [0], AOper.mk (some 18) (.mv (.tmp 5)) none [], AOper.mk (some 19) (.fld 2 (.tmp 1)) none [], AOper.mk (some 20) (.load false 1 (.tmp 19)) none [3], AOper.mk (some 21) (.mv (.tmp 4)) none [], AOper.mk (some 22) (.idxA 1 (.tmp 20) (.tmp 21)) none [4, 5], AOper.mk (some 23) (.load false 1 (.tmp 22)) none [6], AOper.mk (some 24) (.build [.int .i64 0, .int .i64 0] [(0, 1, .tmp 18), (1, 1, .tmp 23)]) none [2, 7], AOper.mk (some 25) (.bslice 2 [.int .i64 0, .int .i64 0] [(0, .tmp 24)] 1) none [8]]
def l33r5b : List AOper :=
  [AOper.mk (some 26) (.append 2 (.tmp 17) (.tmp 25)) none [1, 9], AOper.mk (some 27) (.fld 7 (.tmp 3)) none [0, 1, 2, 3, 4, 5, 6, 7, 8, 9, 10], AOper.mk none (.store 1 (.tmp 27) (.tmp 26)) none [11, 10, 10, 0, 1, 2, 3, 4, 5, 6, 7, 8, 9, 10]]
def l33r5 : List AOper := l33r5a ++ l33r5b
def l33r6 : List AOper :=
  [AOper.mk (some 28) (.bin .add (.tmp 11) (.const (.int .i64 1))) none [], AOper.mk (some 11) (.mv (.tmp 28)) none [0]]
def l33r7 : List AOper :=
  [AOper.mk (some 29) (.load true 8 (.tmp 3)) none [], AOper.mk none (.store 8 (.tmp 2) (.tmp 29)) none [0, 0]]
def l33 : AFn :=
  (AFn.mk 30 1 (ACode.seq (ACode.reg l33r0) (ACode.seq (ACode.reg l33r1) (ACode.seq (ACode.seq (ACode.reg l33r2) (ACode.block 0 (ACode.loop (ACode.seq (ACode.reg l33r3) (ACode.seq (ACode.cond (.tmp 12) ACode.skip (ACode.exit 0)) (ACode.seq (ACode.block 1 (ACode.seq (ACode.reg l33r4) (ACode.draw l33r5))) (ACode.reg l33r6))))))) (ACode.seq (ACode.reg l33r7) ACode.ret)))) [ARes.cell 2 true 8])
theorem l33_eq : lowFn Try.prog 33 = some l33 := by kernel_rfl
def l36r0 : List AOper :=
  [AOper.mk (some 1) (.box (.tmp 0)) none [], AOper.mk (some 2) (.alloc [.int .i64 0, .slice none 0 0, .slice none 0 0]) none []]
def l36r1 : List AOper :=
  [AOper.mk (some 6) (.fld 0 (.tmp 1)) none [], AOper.mk (some 7) (.load true 3 (.tmp 6)) none [0], AOper.mk (some 8) (.fld 3 (.tmp 1)) none [], AOper.mk (some 9) (.load true 4 (.tmp 8)) none [2], AOper.mk (some 10) (.call 69 [.tmp 7, .tmp 9]) none [1, 3], AOper.mk (some 11) (.build [.int .i64 0, .slice none 0 0, .slice none 0 0] [(0, 1, .tmp 10)]) none [4], AOper.mk (some 3) (.alloc [.int .i64 0, .slice none 0 0, .slice none 0 0]) none [], AOper.mk none (.store 3 (.tmp 3) (.tmp 11)) none [6, 5, 4, 0, 1, 2, 3, 4, 5, 6]]
def l36r2 : List AOper :=
  [AOper.mk (some 12) (.fld 7 (.tmp 1)) none [], AOper.mk (some 13) (.load false 1 (.tmp 12)) none [0], AOper.mk (some 14) (.len (.tmp 13)) none [1], AOper.mk (some 15) (.mv (.const (.int .i64 0))) none []]
def l36r3 : List AOper :=
  [AOper.mk (some 16) (.bin .lss (.tmp 15) (.tmp 14)) none []]
def l36r4 : List AOper :=
  [AOper.mk (some 17) (.idxA 2 (.tmp 13) (.tmp 15)) none [], AOper.mk (some 18) (.load true 2 (.tmp 17)) none [0], AOper.mk (some 5) (.alloc [.int .i64 0, .int .i64 0]) none [], AOper.mk none (.store 2 (.tmp 5) (.tmp 18)) none [2, 1, 0, 1, 2]]
def l36r5 : List AOper :=
  [AOper.mk (some 19) (.fld 1 (.tmp 3)) none [], AOper.mk (some 20) (.load false 1 (.tmp 19)) none [0], AOper.mk (some 21) (.fld 0 (.tmp 5)) none [], AOper.mk (some 22) (.load false 1 (.tmp 21)) none [2], AOper.mk (some 23) (.bslice 1 [.int .i64 0] [(0, .tmp 22)] 1) none [3], AOper.mk (some 24) (.append 1 (.tmp 20) (.tmp 23)) none [1, 4], AOper.mk (some 25) (.fld 1 (.tmp 3)) none [0, 1, 2, 3, 4, 5], AOper.mk none (.store 1 (.tmp 25) (.tmp 24)) none [6, 5, 5, 0, 1, 2, 3, 4, 5]]
def l36r6 : List AOper :=
  [AOper.mk (some 26) (.fld 2 (.tmp 3)) none [], AOper.mk (some 27) (.load false 1 (.tmp 26)) none [0], AOper.mk (some 28) (.fld 1 (.tmp 5)) none [], AOper.mk (some 29) (.load false 1 (.tmp 28)) none [2], AOper.mk (some 30) (.bslice 1 [.int .i64 0] [(0, .tmp 29)] 1) none [3], AOper.mk (some 31) (.append 1 (.tmp 27) (.tmp 30)) none [1, 4], AOper.mk (some 32) (.fld 2 (.tmp 3)) none [0, 1, 2, 3, 4, 5], AOper.mk none (.store 1 (.tmp 32) (.tmp 31)) none [6, 5, 5, 0, 1, 2, 3, 4, 5]]
def l36r7 : List AOper :=
  [AOper.mk (some 33) (.bin .add (.tmp 15) (.const (.int .i64 1))) none [], AOper.mk (some 15) (.mv (.tmp 33)) none [0]]
def l36r8 : List AOper :=
  [AOper.mk (some 34) (.load true 3 (.tmp 3)) none [], AOper.mk none (.store 3 (.tmp 2) (.tmp 34)) none [0, 0]]
def l36 : AFn :=
  (AFn.mk 35 1 (ACode.seq (ACode.reg l36r0) (ACode.seq (ACode.reg l36r1) (ACode.seq (ACode.seq (ACode.reg l36r2) (ACode.block 0 (ACode.loop (ACode.seq (ACode.reg l36r3) (ACode.seq (ACode.cond (.tmp 16) ACode.skip (ACode.exit 0)) (ACode.seq (ACode.block 1 (ACode.seq (ACode.reg l36r4) (ACode.seq (ACode.reg l36r5) (ACode.reg l36r6)))) (ACode.reg l36r7))))))) (ACode.seq (ACode.reg l36r8) ACode.ret)))) [ARes.cell 2 true 3])
theorem l36_eq : lowFn Try.prog 36 = some l36 := by kernel_rfl
def l37r0 : List AOper :=
  [AOper.mk (some 2) (.mv (.const (.bool false))) none []]
def l37r1 : List AOper :=
  [AOper.mk (some 3) (.mv (.tmp 0)) none [], AOper.mk (some 4) (.len (.tmp 3)) none [0], AOper.mk (some 5) (.bin .leq (.tmp 4) (.const (.int .i64 4))) none [1], AOper.mk (some 6) (.mv (.tmp 5)) none [2], AOper.mk (some 7) (.mv (.tmp 0)) (some (6, true)) [3], AOper.mk (some 8) (.call 60 [.tmp 7, .const (.int .i64 0), .const (.int .i64 60)]) (some (6, true)) [4, 3, 3], AOper.mk (some 9) (.pick (.tmp 6) (.tmp 8) (.const (.bool false))) none [3, 5], AOper.mk (some 10) (.mv (.tmp 9)) none [6, 5], AOper.mk (some 11) (.mv (.tmp 0)) (some (10, true)) [7], AOper.mk (some 12) (.call 62 [.tmp 11]) (some (10, true)) [8, 7, 7], AOper.mk (some 13) (.bin .leq (.tmp 12) (.const (.int .i64 60))) (some (10, true)) [9, 7], AOper.mk (some 14) (.pick (.tmp 10) (.tmp 13) (.const (.bool false))) none [7, 10], AOper.mk (some 2) (.mv (.tmp 14)) none [11, 9, 0, 1, 2, 3, 4, 5, 6, 7, 8, 9, 10, 11]]
def l37 : AFn :=
  (AFn.mk 15 1 (ACode.seq (ACode.reg l37r0) (ACode.seq (ACode.reg l37r1) ACode.ret)) [ARes.tmp 2])
theorem l37_eq : lowFn Try.prog 37 = some l37 := by kernel_rfl
def l39r0 : List AOper :=
  [AOper.mk (some 1) (.box (.tmp 0)) none [], AOper.mk (some 2) (.alloc [.int .i64 0, .slice none 0 0, .slice none 0 0]) none [], AOper.mk (some 3) (.mv (.const (.bool false))) none []]
def l39r1 : List AOper :=
  [AOper.mk (some 4) (.load true 3 (.tmp 1)) none [], AOper.mk (some 5) (.call 31 [.tmp 4]) none [0], AOper.mk (some 6) (.un .not (.tmp 5)) none [1]]
def l39r2 : List AOper :=
  [AOper.mk (some 7) (.build [.int .i64 0, .slice none 0 0, .slice none 0 0] []) none [], AOper.mk none (.store 3 (.tmp 2) (.tmp 7)) none [0, 0], AOper.mk (some 3) (.mv (.const (.bool false))) none [1, 0, 1]]
def l39r3 : List AOper :=
  [AOper.mk (some 8) (.load true 3 (.tmp 1)) none [], AOper.mk (some 9) (.call 49 [.tmp 8]) none [0], AOper.mk none (.store 3 (.tmp 2) (.tmp 9)) none [1, 1, 0, 1], AOper.mk (some 3) (.mv (.const (.bool true))) none [2, 0, 1, 2]]
def l39 : AFn :=
  (AFn.mk 10 1 (ACode.seq (ACode.reg l39r0) (ACode.seq (ACode.seq (ACode.reg l39r1) (ACode.cond (.tmp 6) (ACode.seq (ACode.reg l39r2) ACode.ret) ACode.skip)) (ACode.seq (ACode.reg l39r3) ACode.ret))) [ARes.cell 2 true 3, ARes.tmp 3])
theorem l39_eq : lowFn Try.prog 39 = some l39 := by kernel_rfl
def l40r0 : List AOper :=
  [AOper.mk (some 2) (.mv (.const (.bool false))) none []]
def l40r1 : List AOper :=
  [AOper.mk (some 5) (.mv (.tmp 0)) none [], AOper.mk (some 6) (.len (.tmp 5)) none [0], AOper.mk (some 7) (.bin .gtr (.tmp 6) (.const (.int .i64 4))) none [1]]
def l40r2 : List AOper :=
  [AOper.mk (some 2) (.mv (.const (.bool false))) none []]
def l40r3 : List AOper :=
  [AOper.mk (some 8) (.mv (.tmp 0)) none [], AOper.mk (some 9) (.len (.tmp 8)) none [0], AOper.mk (some 10) (.mv (.const (.int .i64 0))) none []]
def l40r4 : List AOper :=
  [AOper.mk (some 11) (.bin .lss (.tmp 10) (.tmp 9)) none []]
def l40r5 : List AOper :=
  [AOper.mk (some 12) (.idxA 1 (.tmp 8) (.tmp 10)) none [], AOper.mk (some 13) (.load false 1 (.tmp 12)) none [0], AOper.mk (some 4) (.mv (.tmp 13)) none [1, 0, 1]]
def l40r6 : List AOper :=
  [AOper.mk (some 14) (.mv (.tmp 4)) none [], AOper.mk (some 15) (.call 65 [.tmp 14, .const (.int .i64 60)]) none [0], AOper.mk (some 16) (.un .not (.tmp 15)) none [1]]
def l40r7 : List AOper :=
  [AOper.mk (some 2) (.mv (.const (.bool false))) none []]
def l40r8 : List AOper :=
  [AOper.mk (some 17) (.bin .add (.tmp 10) (.const (.int .i64 1))) none [], AOper.mk (some 10) (.mv (.tmp 17)) none [0]]
def l40r9 : List AOper :=
  [AOper.mk (some 18) (.mv (.tmp 0)) none [], AOper.mk (some 19) (.call 71 [.tmp 18]) none [0], AOper.mk (some 20) (.bin .leq (.tmp 19) (.const (.int .i64 60))) none [1], AOper.mk (some 2) (.mv (.tmp 20)) none [2, 1, 0, 1, 2]]
def l40 : AFn :=
  (AFn.mk 21 1 (ACode.seq (ACode.reg l40r0) (ACode.seq (ACode.seq (ACode.reg l40r1) (ACode.cond (.tmp 7) (ACode.seq (ACode.reg l40r2) ACode.ret) ACode.skip)) (ACode.seq (ACode.seq (ACode.reg l40r3) (ACode.block 0 (ACode.loop (ACode.seq (ACode.reg l40r4) (ACode.seq (ACode.cond (.tmp 11) ACode.skip (ACode.exit 0)) (ACode.seq (ACode.block 1 (ACode.seq (ACode.reg l40r5) (ACode.seq (ACode.reg l40r6) (ACode.cond (.tmp 16) (ACode.seq (ACode.reg l40r7) ACode.ret) ACode.skip)))) (ACode.reg l40r8))))))) (ACode.seq (ACode.reg l40r9) ACode.ret)))) [ARes.tmp 2])
theorem l40_eq : lowFn Try.prog 40 = some l40 := by kernel_rfl
def l44r0 : List AOper :=
  [AOper.mk (some 1) (.box (.tmp 0)) none [], AOper.mk (some 2) (.alloc [.int .i64 0, .slice none 0 0, .slice none 0 0]) none []]
def l44r1 : List AOper :=
  [AOper.mk (some 4) (.load true 8 (.tmp 1)) none [], AOper.mk (some 5) (.call 36 [.tmp 4]) none [0], AOper.mk (some 3) (.alloc [.int .i64 0, .slice none 0 0, .slice none 0 0]) none [], AOper.mk none (.store 3 (.tmp 3) (.tmp 5)) none [2, 1, 1, 0, 1, 2]]
def l44r2 : List AOper :=
  [AOper.mk (some 6) (.load true 3 (.tmp 3)) none [], AOper.mk (some 7) (.call 67 [.tmp 6]) none [0], AOper.mk (some 8) (.bin .eql (.tmp 7) (.const (.int .i64 0))) none [1]]
def l44r3a : List AOper :=
  [AOper.mk (some 9) (.fld 1 (.tmp 3)) none [], AOper.mk (some 10) (.load false 1 (.tmp 9)) none [0], AOper.mk (some 11) (.len (.tmp 10)) none [1], AOper.mk (some 12) (.mkslice 1 [.int .i64 0] (.tmp 11) (.tmp 11)) none [2, 2], AOper.mk (some 13) (.fld 0 (.tmp 3)) none [0, 1], AOper.mk none (.store 1 (.tmp 13) (.const (.int .i64 0))) none [4, 0, 1]]
def l44r3b : List AOper :=
  [AOper.mk (some 14) (.fld 2 (.tmp 3)) none [0, 1, 2, 3, 4, 5], AOper.mk none (.store 1 (.tmp 14) (.tmp 12)) none [6, 3, 5, 0, 1, 2, 3, 4, 5]]
def l44r3 : List AOper := l44r3a ++ l44r3b
def l44r4 : List AOper :=
  [AOper.mk (some 15) (.load true 3 (.tmp 3)) none [], AOper.mk none (.store 3 (.tmp 2) (.tmp 15)) none [0, 0]]
def l44 : AFn :=
  (AFn.mk 16 1 (ACode.seq (ACode.reg l44r0) (ACode.seq (ACode.reg l44r1) (ACode.seq (ACode.seq (ACode.reg l44r2) (ACode.cond (.tmp 8) (ACode.draw l44r3) ACode.skip)) (ACode.seq (ACode.reg l44r4) ACode.ret)))) [ARes.cell 2 true 3])
theorem l44_eq : lowFn Try.prog 44 = some l44 := by kernel_rfl
def l48r0 : List AOper :=
  [AOper.mk (some 2) (.box (.tmp 0)) none [], AOper.mk (some 4) (.mv (.const (.bool false))) none []]
def l48r1 : List AOper :=
  [AOper.mk (some 5) (.mv (.tmp 1)) none [], AOper.mk (some 6) (.fld 1 (.tmp 2)) none [], AOper.mk (some 7) (.load false 1 (.tmp 6)) none [1], AOper.mk (some 8) (.len (.tmp 7)) none [2], AOper.mk (some 9) (.bin .sub (.tmp 8) (.const (.int .i64 1))) none [3], AOper.mk (some 10) (.call 61 [.tmp 5, .const (.int .i64 0), .tmp 9]) none [0, 4], AOper.mk (some 4) (.mv (.tmp 10)) none [5, 5, 0, 1, 2, 3, 4, 5]]
def l48 : AFn :=
  (AFn.mk 11 2 (ACode.seq (ACode.reg l48r0) (ACode.seq (ACode.reg l48r1) ACode.ret)) [ARes.tmp 4])
theorem l48_eq : lowFn Try.prog 48 = some l48 := by kernel_rfl
def l49r0 : List AOper :=
  [AOper.mk (some 1) (.box (.tmp 0)) none [], AOper.mk (some 2) (.alloc [.int .i64 0, .slice none 0 0, .slice none 0 0]) none []]
def l49r1a : List AOper :=
  [AOper.mk (some 3) (.fld 0 (.tmp 1)) none [], AOper.mk (some 4) (.load false 1 (.tmp 3)) none [0], AOper.mk (some 5) (.fld 1 (.tmp 1)) none [], AOper.mk (some 6) (.load false 1 (.tmp 5)) none [2], AOper.mk (some 7) (.call 70 [.tmp 6]) none [3], AOper.mk (some 8) (.fld 2 (.tmp 1)) none [], AOper.mk (some 9) (.load false 1 (.tmp 8)) none [5], AOper.mk (some 10) (.call 70 [.tmp 9]) none [6, 4]]
def l49r1b : List AOper :=
  [AOper.mk (some 11) (.build [.int .i64 0, .slice none 0 0, .slice none 0 0] [(0, 1, .tmp 4), (1, 1, .tmp 7), (2, 1, .tmp 10)]) none [1, 4, 7], AOper.mk none (.store 3 (.tmp 2) (.tmp 11)) none [8, 7, 0, 1, 2, 3, 4, 5, 6, 7, 8]]
def l49r1 : List AOper := l49r1a ++ l49r1b
def l49 : AFn :=
  (AFn.mk 12 1 (ACode.seq (ACode.reg l49r0) (ACode.seq (ACode.draw l49r1) ACode.ret)) [ARes.cell 2 true 3])
theorem l49_eq : lowFn Try.prog 49 = some l49 := by kernel_rfl
def l50r0 : List AOper :=
  [AOper.mk (some 4) (.mv (.const (.slice none 0 0))) none []]
def l50r1a : List AOper :=
  [AOper.mk (some 5) (.bslice 1 [.int .i64 0] [] 0) none [], AOper.mk (some 6) (.mv (.tmp 0)) none [], AOper.mk (some 7) (.mv (.tmp 1)) none [], AOper.mk (some 8) (.slice 1 (.tmp 6) none (some (.tmp 7))) none [1, 2], AOper.mk (some 9) (.append 1 (.tmp 5) (.tmp 8)) none [0, 3], AOper.mk (some 10) (.mv (.tmp 0)) none [], AOper.mk (some 11) (.mv (.tmp 1)) none [], AOper.mk (some 12) (.bin .add (.tmp 11) (.const (.int .i64 1))) none [6], AOper.mk (some 13) (.slice 1 (.tmp 10) (some (.tmp 12)) none) none [5, 7]]
def l50r1b : List AOper :=
  [AOper.mk (some 14) (.append 1 (.tmp 9) (.tmp 13)) none [4, 8, 4], AOper.mk (some 4) (.mv (.tmp 14)) none [9, 9, 0, 1, 2, 3, 4, 5, 6, 7, 8, 9]]
def l50r1 : List AOper := l50r1a ++ l50r1b
def l50 : AFn :=
  (AFn.mk 15 2 (ACode.seq (ACode.reg l50r0) (ACode.seq (ACode.draw l50r1) ACode.ret)) [ARes.tmp 4])
theorem l50_eq : lowFn Try.prog 50 = some l50 := by kernel_rfl
def l51r0 : List AOper :=
  [AOper.mk (some 1) (.box (.tmp 0)) none [], AOper.mk (some 2) (.alloc [.int .i64 0, .slice none 0 0, .slice none 0 0]) none []]
def l51r1 : List AOper :=
  [AOper.mk (some 3) (.fld 1 (.tmp 1)) none [], AOper.mk (some 4) (.load false 1 (.tmp 3)) none [0], AOper.mk (some 5) (.call 62 [.tmp 4]) none [1], AOper.mk (some 6) (.bin .eql (.tmp 5) (.const (.int .i64 0))) none [2]]
def l51r2a : List AOper :=
  [AOper.mk (some 7) (.fld 1 (.tmp 1)) none [], AOper.mk (some 8) (.load false 1 (.tmp 7)) none [0], AOper.mk (some 9) (.fld 1 (.tmp 1)) none [], AOper.mk (some 10) (.load false 1 (.tmp 9)) none [2], AOper.mk (some 11) (.len (.tmp 10)) none [3], AOper.mk (some 12) (.mkslice 1 [.int .i64 0] (.tmp 11) (.tmp 11)) none [4, 4]]
def l51r2b : List AOper :=
  [AOper.mk (some 13) (.build [.int .i64 0, .slice none 0 0, .slice none 0 0] [(1, 1, .tmp 8), (2, 1, .tmp 12)]) none [1, 5], AOper.mk none (.store 3 (.tmp 2) (.tmp 13)) none [6, 0, 1, 2, 3, 4, 5, 6]]
def l51r2 : List AOper := l51r2a ++ l51r2b
def l51r3 : List AOper :=
  [AOper.mk (some 14) (.load true 3 (.tmp 1)) none [], AOper.mk none (.store 3 (.tmp 2) (.tmp 14)) none [0, 0]]
def l51 : AFn :=
  (AFn.mk 15 1 (ACode.seq (ACode.reg l51r0) (ACode.seq (ACode.seq (ACode.reg l51r1) (ACode.cond (.tmp 6) (ACode.seq (ACode.draw l51r2) ACode.ret) ACode.skip)) (ACode.seq (ACode.reg l51r3) ACode.ret))) [ARes.cell 2 true 3])
theorem l51_eq : lowFn Try.prog 51 = some l51 := by kernel_rfl
def l52r0 : List AOper :=
  [AOper.mk (some 2) (.box (.tmp 0)) none [], AOper.mk (some 4) (.mv (.const (.bool false))) none []]
def l52r1 : List AOper :=
  [AOper.mk (some 5) (.load true 3 (.tmp 2)) none [], AOper.mk (some 6) (.call 32 [.tmp 5]) none [0], AOper.mk (some 7) (.mv (.tmp 6)) none [1, 1], AOper.mk (some 8) (.mv (.tmp 1)) (some (7, true)) [2], AOper.mk (some 9) (.fld 1 (.tmp 2)) (some (7, true)) [2], AOper.mk (some 10) (.load false 1 (.tmp 9)) (some (7, true)) [4, 2], AOper.mk (some 11) (.len (.tmp 10)) (some (7, true)) [5, 2], AOper.mk (some 12) (.bin .sub (.tmp 11) (.const (.int .i64 1))) (some (7, true)) [6, 2], AOper.mk (some 13) (.call 65 [.tmp 8, .tmp 12]) (some (7, true)) [3, 7, 2, 2], AOper.mk (some 14) (.pick (.tmp 7) (.tmp 13) (.const (.bool false))) none [2, 8], AOper.mk (some 4) (.mv (.tmp 14)) none [9, 8, 0, 1, 2, 3, 4, 5, 6, 7, 8, 9]]
def l52 : AFn :=
  (AFn.mk 15 2 (ACode.seq (ACode.reg l52r0) (ACode.seq (ACode.reg l52r1) ACode.ret)) [ARes.tmp 4])
theorem l52_eq : lowFn Try.prog 52 = some l52 := by kernel_rfl
def l53r0 : List AOper :=
  [AOper.mk (some 4) (.alloc [.int .i64 0, .int .i64 0]) none []]
def l53r1 : List AOper :=
  [AOper.mk (some 5) (.mv (.tmp 0)) none [], AOper.mk (some 6) (.bin .lss (.tmp 5) (.const (.int .i64 2))) none [0]]
def l53r2 : List AOper :=
  [AOper.mk (some 7) (.mv (.tmp 0)) none [], AOper.mk (some 8) (.build [.int .i64 0, .int .i64 0] [(0, 1, .tmp 7)]) none [0], AOper.mk none (.store 2 (.tmp 4) (.tmp 8)) none [1, 0, 1]]
def l53r3 : List AOper :=
  [AOper.mk (some 9) (.mv (.tmp 0)) none [], AOper.mk (some 10) (.mv (.tmp 1)) none [], AOper.mk (some 11) (.build [.int .i64 0, .int .i64 0] [(0, 1, .tmp 9), (1, 1, .tmp 10)]) none [0, 1], AOper.mk none (.store 2 (.tmp 4) (.tmp 11)) none [2, 0, 1, 2]]
def l53 : AFn :=
  (AFn.mk 12 2 (ACode.seq (ACode.reg l53r0) (ACode.seq (ACode.seq (ACode.reg l53r1) (ACode.cond (.tmp 6) (ACode.seq (ACode.reg l53r2) ACode.ret) ACode.skip)) (ACode.seq (ACode.reg l53r3) ACode.ret))) [ARes.cell 4 true 2])
theorem l53_eq : lowFn Try.prog 53 = some l53 := by kernel_rfl
def l54r0 : List AOper :=
  [AOper.mk (some 6) (.mv (.const (.slice none 0 0))) none []]
def l54r1 : List AOper :=
  [AOper.mk (some 8) (.mv (.tmp 0)) none [], AOper.mk (some 9) (.mv (.tmp 1)) none [], AOper.mk (some 10) (.mv (.tmp 2)) none [], AOper.mk (some 11) (.mv (.tmp 0)) none [], AOper.mk (some 12) (.len (.tmp 11)) none [3], AOper.mk (some 13) (.slice3 2 (.tmp 8) (some (.tmp 9)) (.tmp 10) (.tmp 12)) none [0, 1, 2, 4]]
def l54r2 : List AOper :=
  [AOper.mk (some 14) (.mv (.tmp 1)) none [], AOper.mk (some 15) (.mv (.tmp 2)) none [], AOper.mk (some 16) (.bin .eql (.tmp 14) (.tmp 15)) none [0, 1]]
def l54r3 : List AOper :=
  [AOper.mk (some 17) (.mv (.tmp 0)) none [], AOper.mk (some 6) (.mv (.tmp 17)) none [0, 0]]
def l54r4 : List AOper :=
  [AOper.mk (some 18) (.mv (.tmp 0)) none [], AOper.mk (some 19) (.len (.tmp 18)) none [0], AOper.mk (some 7) (.mv (.tmp 19)) none [1, 0, 1]]
def l54r5a : List AOper :=
  [AOper.mk (some 20) (.mv (.tmp 0)) none [], AOper.mk (some 21) (.mv (.tmp 1)) none [], AOper.mk (some 22) (.slice 2 (.tmp 20) none (some (.tmp 21))) none [0, 1], AOper.mk (some 23) (.mv (.tmp 0)) none [], AOper.mk (some 24) (.mv (.tmp 2)) none [], AOper.mk (some 25) (.slice 2 (.tmp 23) (some (.tmp 24)) none) none [3, 4]]
def l54r5b : List AOper :=
  [AOper.mk (some 26) (.append 2 (.tmp 22) (.tmp 25)) none [2, 5], AOper.mk (some 0) (.mv (.tmp 26)) none [6, 6, 0, 1, 2, 3, 4, 5, 6]]
def l54r5 : List AOper := l54r5a ++ l54r5b
def l54r6 : List AOper :=
  [AOper.mk (some 27) (.mv (.tmp 0)) none [], AOper.mk (some 28) (.mv (.tmp 0)) none [], AOper.mk (some 29) (.len (.tmp 28)) none [1], AOper.mk (some 30) (.mv (.tmp 7)) none [], AOper.mk (some 31) (.slice 2 (.tmp 27) (some (.tmp 29)) (some (.tmp 30))) none [0, 2, 3], AOper.mk none (.clr 2 [.int .i64 0, .int .i64 0] (.tmp 31)) none [4]]
def l54r7 : List AOper :=
  [AOper.mk (some 32) (.mv (.tmp 0)) none [], AOper.mk (some 6) (.mv (.tmp 32)) none [0, 0]]
def l54 : AFn :=
  (AFn.mk 33 3 (ACode.seq (ACode.reg l54r0) (ACode.seq (ACode.reg l54r1) (ACode.seq (ACode.seq (ACode.reg l54r2) (ACode.cond (.tmp 16) (ACode.seq (ACode.reg l54r3) ACode.ret) ACode.skip)) (ACode.seq (ACode.reg l54r4) (ACode.seq (ACode.draw l54r5) (ACode.seq (ACode.reg l54r6) (ACode.seq (ACode.reg l54r7) ACode.ret))))))) [ARes.tmp 6])
theorem l54_eq : lowFn Try.prog 54 = some l54 := by kernel_rfl
def l60r0 : List AOper :=
  [AOper.mk (some 6) (.mv (.const (.bool false))) none []]
def l60r1 : List AOper :=
  [AOper.mk (some 7) (.mv (.const (.int .i64 0))) none []]
def l60r2 : List AOper :=
  [AOper.mk (some 8) (.mv (.tmp 7)) none [], AOper.mk (some 9) (.mv (.tmp 0)) none [], AOper.mk (some 10) (.len (.tmp 9)) none [1], AOper.mk (some 11) (.bin .lss (.tmp 8) (.tmp 10)) none [0, 2]]
def l60r3 : List AOper :=
  [AOper.mk (some 14) (.mv (.tmp 0)) none [], AOper.mk (some 15) (.mv (.tmp 7)) none [], AOper.mk (some 16) (.idxA 1 (.tmp 14) (.tmp 15)) none [0, 1], AOper.mk (some 17) (.load false 1 (.tmp 16)) none [2], AOper.mk (some 18) (.mv (.tmp 1)) none [], AOper.mk (some 19) (.mv (.tmp 2)) none [], AOper.mk (some 20) (.call 61 [.tmp 17, .tmp 18, .tmp 19]) none [3, 4, 5], AOper.mk (some 21) (.un .not (.tmp 20)) none [6]]
def l60r4 : List AOper :=
  [AOper.mk (some 6) (.mv (.const (.bool false))) none []]
def l60r5 : List AOper :=
  [AOper.mk (some 12) (.mv (.tmp 7)) none [], AOper.mk (some 13) (.bin .add (.tmp 12) (.const (.int .i64 1))) none [0], AOper.mk (some 7) (.mv (.tmp 13)) none [1, 0, 1]]
def l60r6 : List AOper :=
  [AOper.mk (some 6) (.mv (.const (.bool true))) none []]
def l60 : AFn :=
  (AFn.mk 22 3 (ACode.seq (ACode.reg l60r0) (ACode.seq (ACode.seq (ACode.reg l60r1) (ACode.block 0 (ACode.loop (ACode.seq (ACode.seq (ACode.reg l60r2) (ACode.cond (.tmp 11) ACode.skip (ACode.exit 0))) (ACode.seq (ACode.block 1 (ACode.seq (ACode.reg l60r3) (ACode.cond (.tmp 21) (ACode.seq (ACode.reg l60r4) ACode.ret) ACode.skip))) (ACode.reg l60r5)))))) (ACode.seq (ACode.reg l60r6) ACode.ret))) [ARes.tmp 6])
theorem l60_eq : lowFn Try.prog 60 = some l60 := by kernel_rfl
def l61r0 : List AOper :=
  [AOper.mk (some 6) (.mv (.const (.bool false))) none []]
def l61r1 : List AOper :=
  [AOper.mk (some 7) (.mv (.tmp 1)) none [], AOper.mk (some 8) (.mv (.tmp 0)) none [], AOper.mk (some 9) (.bin .leq (.tmp 7) (.tmp 8)) none [0, 1], AOper.mk (some 10) (.mv (.tmp 9)) none [2], AOper.mk (some 11) (.mv (.tmp 0)) (some (10, true)) [3], AOper.mk (some 12) (.mv (.tmp 2)) (some (10, true)) [3], AOper.mk (some 13) (.bin .leq (.tmp 11) (.tmp 12)) (some (10, true)) [4, 5, 3], AOper.mk (some 14) (.pick (.tmp 10) (.tmp 13) (.const (.bool false))) none [3, 6], AOper.mk (some 6) (.mv (.tmp 14)) none [7, 3, 0, 1, 2, 3, 4, 5, 6, 7]]
def l61 : AFn :=
  (AFn.mk 15 3 (ACode.seq (ACode.reg l61r0) (ACode.seq (ACode.reg l61r1) ACode.ret)) [ARes.tmp 6])
theorem l61_eq : lowFn Try.prog 61 = some l61 := by kernel_rfl
def l62r0 : List AOper :=
  [AOper.mk (some 2) (.mv (.const (.int .i64 0))) none []]
def l62r1 : List AOper :=
  [AOper.mk (some 3) (.mv (.const (.int .i64 1))) none []]
def l62r2 : List AOper :=
  [AOper.mk (some 4) (.mv (.const (.int .i64 0))) none []]
def l62r3 : List AOper :=
  [AOper.mk (some 5) (.mv (.tmp 4)) none [], AOper.mk (some 6) (.mv (.tmp 0)) none [], AOper.mk (some 7) (.len (.tmp 6)) none [1], AOper.mk (some 8) (.bin .lss (.tmp 5) (.tmp 7)) none [0, 2]]
def l62r4 : List AOper :=
  [AOper.mk (some 11) (.mv (.tmp 3)) none [], AOper.mk (some 12) (.mv (.tmp 0)) none [], AOper.mk (some 13) (.mv (.tmp 4)) none [], AOper.mk (some 14) (.idxA 1 (.tmp 12) (.tmp 13)) none [1, 2], AOper.mk (some 15) (.load false 1 (.tmp 14)) none [3], AOper.mk (some 16) (.bin .mul (.tmp 11) (.tmp 15)) none [0, 4], AOper.mk (some 3) (.mv (.tmp 16)) none [5, 0, 1, 2, 3, 4, 5]]
def l62r5 : List AOper :=
  [AOper.mk (some 9) (.mv (.tmp 4)) none [], AOper.mk (some 10) (.bin .add (.tmp 9) (.const (.int .i64 1))) none [0], AOper.mk (some 4) (.mv (.tmp 10)) none [1, 0, 1]]
def l62r6 : List AOper :=
  [AOper.mk (some 17) (.mv (.tmp 3)) none [], AOper.mk (some 2) (.mv (.tmp 17)) none [0, 0]]
def l62 : AFn :=
  (AFn.mk 18 1 (ACode.seq (ACode.reg l62r0) (ACode.seq (ACode.reg l62r1) (ACode.seq (ACode.seq (ACode.reg l62r2) (ACode.block 0 (ACode.loop (ACode.seq (ACode.seq (ACode.reg l62r3) (ACode.cond (.tmp 8) ACode.skip (ACode.exit 0))) (ACode.seq (ACode.block 1 (ACode.reg l62r4)) (ACode.reg l62r5)))))) (ACode.seq (ACode.reg l62r6) ACode.ret)))) [ARes.tmp 2])
theorem l62_eq : lowFn Try.prog 62 = some l62 := by kernel_rfl
def l63r0 : List AOper :=
  [AOper.mk (some 1) (.box (.tmp 0)) none [], AOper.mk (some 2) (.mv (.const (.slice none 0 0))) none []]
def l63r1 : List AOper :=
  [AOper.mk (some 5) (.bslice 1 [.int .i64 0] [] 0) none [], AOper.mk (some 3) (.mv (.tmp 5)) none [0, 0]]
def l63r2 : List AOper :=
  [AOper.mk (some 4) (.mv (.const (.int .i64 0))) none []]
def l63r3 : List AOper :=
  [AOper.mk (some 6) (.mv (.tmp 4)) none [], AOper.mk (some 7) (.fld 1 (.tmp 1)) none [], AOper.mk (some 8) (.load false 1 (.tmp 7)) none [1], AOper.mk (some 9) (.call 62 [.tmp 8]) none [2], AOper.mk (some 10) (.bin .lss (.tmp 6) (.tmp 9)) none [0, 3]]
def l63r4a : List AOper :=
  [AOper.mk (some 13) (.mv (.tmp 3)) none [], AOper.mk (some 14) (.load true 3 (.tmp 1)) none [], AOper.mk (some 15) (.fld 1 (.tmp 1)) none [], AOper.mk (some 16) (.load false 1 (.tmp 15)) none [2], AOper.mk (some 17) (.mv (.tmp 4)) none [], AOper.mk (some 18) (.call 86 [.tmp 16, .tmp 17]) none [3, 4], AOper.mk (some 19) (.call 85 [.tmp 14, .tmp 18]) none [1, 5, 5], AOper.mk (some 20) (.bslice 1 [.int .i64 0] [(0, .tmp 19)] 1) none [6]]
def l63r4b : List AOper :=
  [AOper.mk (some 21) (.append 1 (.tmp 13) (.tmp 20)) none [0, 7, 6], AOper.mk (some 3) (.mv (.tmp 21)) none [8, 8, 0, 1, 2, 3, 4, 5, 6, 7, 8]]
def l63r4 : List AOper := l63r4a ++ l63r4b
def l63r5 : List AOper :=
  [AOper.mk (some 11) (.mv (.tmp 4)) none [], AOper.mk (some 12) (.bin .add (.tmp 11) (.const (.int .i64 1))) none [0], AOper.mk (some 4) (.mv (.tmp 12)) none [1, 0, 1]]
def l63r6 : List AOper :=
  [AOper.mk (some 22) (.mv (.tmp 3)) none [], AOper.mk (some 2) (.mv (.tmp 22)) none [0, 0]]
def l63 : AFn :=
  (AFn.mk 23 1 (ACode.seq (ACode.reg l63r0) (ACode.seq (ACode.reg l63r1) (ACode.seq (ACode.seq (ACode.reg l63r2) (ACode.block 0 (ACode.loop (ACode.seq (ACode.seq (ACode.reg l63r3) (ACode.cond (.tmp 10) ACode.skip (ACode.exit 0))) (ACode.seq (ACode.block 1 (ACode.draw l63r4)) (ACode.reg l63r5)))))) (ACode.seq (ACode.reg l63r6) ACode.ret)))) [ARes.tmp 2])
theorem l63_eq : lowFn Try.prog 63 = some l63 := by kernel_rfl
def l64r0 : List AOper :=
  [AOper.mk (some 4) (.mv (.const (.bool false))) none []]
def l64r1 : List AOper :=
  [AOper.mk (some 7) (.mv (.tmp 0)) none [], AOper.mk (some 8) (.len (.tmp 7)) none [0], AOper.mk (some 9) (.mv (.tmp 1)) none [], AOper.mk (some 10) (.bin .neq (.tmp 8) (.tmp 9)) none [1, 2]]
def l64r2 : List AOper :=
  [AOper.mk (some 4) (.mv (.const (.bool false))) none []]
def l64r3 : List AOper :=
  [AOper.mk (some 11) (.mv (.tmp 0)) none [], AOper.mk (some 12) (.len (.tmp 11)) none [0], AOper.mk (some 13) (.mv (.const (.int .i64 0))) none []]
def l64r4 : List AOper :=
  [AOper.mk (some 14) (.bin .lss (.tmp 13) (.tmp 12)) none []]
def l64r5 : List AOper :=
  [AOper.mk (some 15) (.idxA 1 (.tmp 11) (.tmp 13)) none [], AOper.mk (some 16) (.load false 1 (.tmp 15)) none [0], AOper.mk (some 6) (.mv (.tmp 16)) none [1, 0, 1]]
def l64r6 : List AOper :=
  [AOper.mk (some 17) (.mv (.tmp 6)) none [], AOper.mk (some 18) (.call 87 [.tmp 17, .const (.int .i64 60)]) none [0], AOper.mk (some 19) (.un .not (.tmp 18)) none [1]]
def l64r7 : List AOper :=
  [AOper.mk (some 4) (.mv (.const (.bool false))) none []]
def l64r8 : List AOper :=
  [AOper.mk (some 20) (.bin .add (.tmp 13) (.const (.int .i64 1))) none [], AOper.mk (some 13) (.mv (.tmp 20)) none [0]]
def l64r9 : List AOper :=
  [AOper.mk (some 4) (.mv (.const (.bool true))) none []]
def l64 : AFn :=
  (AFn.mk 21 2 (ACode.seq (ACode.reg l64r0) (ACode.seq (ACode.seq (ACode.reg l64r1) (ACode.cond (.tmp 10) (ACode.seq (ACode.reg l64r2) ACode.ret) ACode.skip)) (ACode.seq (ACode.seq (ACode.reg l64r3) (ACode.block 0 (ACode.loop (ACode.seq (ACode.reg l64r4) (ACode.seq (ACode.cond (.tmp 14) ACode.skip (ACode.exit 0)) (ACode.seq (ACode.block 1 (ACode.seq (ACode.reg l64r5) (ACode.seq (ACode.reg l64r6) (ACode.cond (.tmp 19) (ACode.seq (ACode.reg l64r7) ACode.ret) ACode.skip)))) (ACode.reg l64r8))))))) (ACode.seq (ACode.reg l64r9) ACode.ret)))) [ARes.tmp 4])
theorem l64_eq : lowFn Try.prog 64 = some l64 := by kernel_rfl
def l65r0 : List AOper :=
  [AOper.mk (some 4) (.mv (.const (.bool false))) none []]
def l65r1 : List AOper :=
  [AOper.mk (some 5) (.mv (.tmp 0)) none [], AOper.mk (some 6) (.bin .leq (.const (.int .i64 0)) (.tmp 5)) none [0], AOper.mk (some 7) (.mv (.tmp 6)) none [1], AOper.mk (some 8) (.mv (.tmp 0)) (some (7, true)) [2], AOper.mk (some 9) (.mv (.tmp 1)) (some (7, true)) [2], AOper.mk (some 10) (.bin .leq (.tmp 8) (.tmp 9)) (some (7, true)) [3, 4, 2], AOper.mk (some 11) (.pick (.tmp 7) (.tmp 10) (.const (.bool false))) none [2, 5], AOper.mk (some 4) (.mv (.tmp 11)) none [6, 2, 0, 1, 2, 3, 4, 5, 6]]
def l65 : AFn :=
  (AFn.mk 12 2 (ACode.seq (ACode.reg l65r0) (ACode.seq (ACode.reg l65r1) ACode.ret)) [ARes.tmp 4])
theorem l65_eq : lowFn Try.prog 65 = some l65 := by kernel_rfl
def l66r0 : List AOper :=
  [AOper.mk (some 1) (.box (.tmp 0)) none [], AOper.mk (some 2) (.mv (.const (.int .i64 0))) none [], AOper.mk (some 3) (.mv (.const (.int .i64 0))) none [1]]
def l66r1 : List AOper :=
  [AOper.mk (some 9) (.load true 3 (.tmp 1)) none [], AOper.mk (some 10) (.call 67 [.tmp 9]) none [0], AOper.mk (some 11) (.bin .eql (.tmp 10) (.const (.int .i64 0))) none [1]]
def l66r2 : List AOper :=
  [AOper.mk (some 2) (.mv (.const (.int .i64 (-1)))) none [], AOper.mk (some 3) (.mv (.const (.int .i64 (-1)))) none [0, 0]]
def l66r3a : List AOper :=
  [AOper.mk (some 12) (.fld 0 (.tmp 1)) none [], AOper.mk (some 13) (.load false 1 (.tmp 12)) none [0], AOper.mk (some 14) (.fld 0 (.tmp 1)) none [], AOper.mk (some 15) (.load false 1 (.tmp 14)) none [2], AOper.mk (some 4) (.mv (.tmp 13)) none [1, 0, 1]]
def l66r3b : List AOper :=
  [AOper.mk (some 5) (.mv (.tmp 15)) none [3, 4, 0, 1, 2, 3, 4]]
def l66r3 : List AOper := l66r3a ++ l66r3b
def l66r4 : List AOper :=
  [AOper.mk (some 16) (.fld 2 (.tmp 1)) none [], AOper.mk (some 17) (.load false 1 (.tmp 16)) none [0], AOper.mk (some 18) (.len (.tmp 17)) none [1], AOper.mk (some 19) (.mv (.const (.int .i64 0))) none []]
def l66r5 : List AOper :=
  [AOper.mk (some 20) (.bin .lss (.tmp 19) (.tmp 18)) none []]
def l66r6 : List AOper :=
  [AOper.mk (some 21) (.mv (.tmp 19)) none [], AOper.mk (some 22) (.idxA 1 (.tmp 17) (.tmp 19)) none [], AOper.mk (some 23) (.load false 1 (.tmp 22)) none [1], AOper.mk (some 6) (.mv (.tmp 21)) none [0, 0, 1, 2], AOper.mk (some 7) (.mv (.tmp 23)) none [2, 3, 0, 1, 2, 3]]
def l66r7 : List AOper :=
  [AOper.mk (some 24) (.fld 1 (.tmp 1)) none [], AOper.mk (some 25) (.load false 1 (.tmp 24)) none [0], AOper.mk (some 26) (.mv (.tmp 6)) none [], AOper.mk (some 27) (.idxA 1 (.tmp 25) (.tmp 26)) none [1, 2], AOper.mk (some 28) (.load false 1 (.tmp 27)) none [3], AOper.mk (some 29) (.bin .sub (.tmp 28) (.const (.int .i64 1))) none [4], AOper.mk (some 30) (.mv (.tmp 7)) none [], AOper.mk (some 31) (.bin .mul (.tmp 29) (.tmp 30)) none [5, 6], AOper.mk (some 8) (.mv (.tmp 31)) none [7, 0, 1, 2, 3, 4, 5, 6, 7]]
def l66r8 : List AOper :=
  [AOper.mk (some 32) (.mv (.tmp 4)) none [], AOper.mk (some 33) (.mv (.tmp 8)) none [], AOper.mk (some 34) (.minmax false (.tmp 33) (.const (.int .i64 0))) none [1], AOper.mk (some 35) (.bin .add (.tmp 32) (.tmp 34)) none [0, 2], AOper.mk (some 4) (.mv (.tmp 35)) none [3, 0, 1, 2, 3]]
def l66r9 : List AOper :=
  [AOper.mk (some 36) (.mv (.tmp 5)) none [], AOper.mk (some 37) (.mv (.tmp 8)) none [], AOper.mk (some 38) (.minmax true (.tmp 37) (.const (.int .i64 0))) none [1], AOper.mk (some 39) (.bin .add (.tmp 36) (.tmp 38)) none [0, 2], AOper.mk (some 5) (.mv (.tmp 39)) none [3, 0, 1, 2, 3]]
def l66r10 : List AOper :=
  [AOper.mk (some 40) (.bin .add (.tmp 19) (.const (.int .i64 1))) none [], AOper.mk (some 19) (.mv (.tmp 40)) none [0]]
def l66r11 : List AOper :=
  [AOper.mk (some 41) (.mv (.tmp 4)) none [], AOper.mk (some 42) (.mv (.tmp 5)) none [], AOper.mk (some 2) (.mv (.tmp 41)) none [0, 0], AOper.mk (some 3) (.mv (.tmp 42)) none [1, 2, 0, 1, 2]]
def l66 : AFn :=
  (AFn.mk 43 1 (ACode.seq (ACode.reg l66r0) (ACode.seq (ACode.seq (ACode.reg l66r1) (ACode.cond (.tmp 11) (ACode.seq (ACode.reg l66r2) ACode.ret) ACode.skip)) (ACode.seq (ACode.draw l66r3) (ACode.seq (ACode.seq (ACode.reg l66r4) (ACode.block 0 (ACode.loop (ACode.seq (ACode.reg l66r5) (ACode.seq (ACode.cond (.tmp 20) ACode.skip (ACode.exit 0)) (ACode.seq (ACode.block 1 (ACode.seq (ACode.reg l66r6) (ACode.seq (ACode.reg l66r7) (ACode.seq (ACode.reg l66r8) (ACode.reg l66r9))))) (ACode.reg l66r10))))))) (ACode.seq (ACode.reg l66r11) ACode.ret))))) [ARes.tmp 2, ARes.tmp 3])
theorem l66_eq : lowFn Try.prog 66 = some l66 := by kernel_rfl
def l67r0 : List AOper :=
  [AOper.mk (some 1) (.box (.tmp 0)) none [], AOper.mk (some 2) (.mv (.const (.int .i64 0))) none []]
def l67r1 : List AOper :=
  [AOper.mk (some 3) (.fld 1 (.tmp 1)) none [], AOper.mk (some 4) (.load false 1 (.tmp 3)) none [0], AOper.mk (some 5) (.call 71 [.tmp 4]) none [1], AOper.mk (some 2) (.mv (.tmp 5)) none [2, 2, 0, 1, 2]]
def l67 : AFn :=
  (AFn.mk 6 1 (ACode.seq (ACode.reg l67r0) (ACode.seq (ACode.reg l67r1) ACode.ret)) [ARes.tmp 2])
theorem l67_eq : lowFn Try.prog 67 = some l67 := by kernel_rfl
def l69r0 : List AOper :=
  [AOper.mk (some 2) (.box (.tmp 0)) none [], AOper.mk (some 3) (.box (.tmp 1)) none [], AOper.mk (some 4) (.mv (.const (.int .i64 0))) none []]
def l69r1a : List AOper :=
  [AOper.mk (some 5) (.fld 0 (.tmp 2)) none [], AOper.mk (some 6) (.load false 1 (.tmp 5)) none [0], AOper.mk (some 7) (.load true 4 (.tmp 3)) none [], AOper.mk (some 8) (.fld 2 (.tmp 2)) none [], AOper.mk (some 9) (.load false 1 (.tmp 8)) none [3], AOper.mk (some 10) (.call 88 [.tmp 7, .tmp 9]) none [2, 4]]
def l69r1b : List AOper :=
  [AOper.mk (some 11) (.bin .add (.tmp 6) (.tmp 10)) none [1, 5], AOper.mk (some 4) (.mv (.tmp 11)) none [6, 5, 0, 1, 2, 3, 4, 5, 6]]
def l69r1 : List AOper := l69r1a ++ l69r1b
def l69 : AFn :=
  (AFn.mk 12 2 (ACode.seq (ACode.reg l69r0) (ACode.seq (ACode.draw l69r1) ACode.ret)) [ARes.tmp 4])
theorem l69_eq : lowFn Try.prog 69 = some l69 := by kernel_rfl
def l70r0 : List AOper :=
  [AOper.mk (some 2) (.mv (.const (.slice none 0 0))) none []]
def l70r1 : List AOper :=
  [AOper.mk (some 3) (.bslice 1 [.int .i64 0] [] 0) none [], AOper.mk (some 4) (.mv (.tmp 0)) none [], AOper.mk (some 5) (.append 1 (.tmp 3) (.tmp 4)) none [0, 1], AOper.mk (some 2) (.mv (.tmp 5)) none [2, 2, 0, 1, 2]]
def l70 : AFn :=
  (AFn.mk 6 1 (ACode.seq (ACode.reg l70r0) (ACode.seq (ACode.reg l70r1) ACode.ret)) [ARes.tmp 2])
theorem l70_eq : lowFn Try.prog 70 = some l70 := by kernel_rfl
def l71r0 : List AOper :=
  [AOper.mk (some 2) (.mv (.const (.int .i64 0))) none []]
def l71r1 : List AOper :=
  [AOper.mk (some 3) (.mv (.const (.int .i64 1))) none []]
def l71r2 : List AOper :=
  [AOper.mk (some 6) (.mv (.tmp 0)) none [], AOper.mk (some 7) (.len (.tmp 6)) none [0], AOper.mk (some 8) (.mv (.const (.int .i64 0))) none []]
def l71r3 : List AOper :=
  [AOper.mk (some 9) (.bin .lss (.tmp 8) (.tmp 7)) none []]
def l71r4 : List AOper :=
  [AOper.mk (some 10) (.idxA 1 (.tmp 6) (.tmp 8)) none [], AOper.mk (some 11) (.load false 1 (.tmp 10)) none [0], AOper.mk (some 5) (.mv (.tmp 11)) none [1, 0, 1]]
def l71r5 : List AOper :=
  [AOper.mk (some 12) (.mv (.tmp 3)) none [], AOper.mk (some 13) (.mv (.tmp 5)) none [], AOper.mk (some 14) (.bin .mul (.tmp 12) (.tmp 13)) none [0, 1], AOper.mk (some 3) (.mv (.tmp 14)) none [2, 0, 1, 2]]
def l71r6 : List AOper :=
  [AOper.mk (some 15) (.bin .add (.tmp 8) (.const (.int .i64 1))) none [], AOper.mk (some 8) (.mv (.tmp 15)) none [0]]
def l71r7 : List AOper :=
  [AOper.mk (some 16) (.mv (.tmp 3)) none [], AOper.mk (some 2) (.mv (.tmp 16)) none [0, 0]]
def l71 : AFn :=
  (AFn.mk 17 1 (ACode.seq (ACode.reg l71r0) (ACode.seq (ACode.reg l71r1) (ACode.seq (ACode.seq (ACode.reg l71r2) (ACode.block 0 (ACode.loop (ACode.seq (ACode.reg l71r3) (ACode.seq (ACode.cond (.tmp 9) ACode.skip (ACode.exit 0)) (ACode.seq (ACode.block 1 (ACode.seq (ACode.reg l71r4) (ACode.reg l71r5))) (ACode.reg l71r6))))))) (ACode.seq (ACode.reg l71r7) ACode.ret)))) [ARes.tmp 2])
theorem l71_eq : lowFn Try.prog 71 = some l71 := by kernel_rfl
def l85r0 : List AOper :=
  [AOper.mk (some 2) (.box (.tmp 0)) none [], AOper.mk (some 4) (.mv (.const (.int .i64 0))) none []]
def l85r1 : List AOper :=
  [AOper.mk (some 7) (.fld 0 (.tmp 2)) none [], AOper.mk (some 8) (.load false 1 (.tmp 7)) none [0], AOper.mk (some 5) (.mv (.tmp 8)) none [1, 0, 1]]
def l85r2 : List AOper :=
  [AOper.mk (some 6) (.mv (.const (.int .i64 0))) none []]
def l85r3 : List AOper :=
  [AOper.mk (some 9) (.mv (.tmp 6)) none [], AOper.mk (some 10) (.mv (.tmp 1)) none [], AOper.mk (some 11) (.len (.tmp 10)) none [1], AOper.mk (some 12) (.bin .lss (.tmp 9) (.tmp 11)) none [0, 2]]
def l85r4a : List AOper :=
  [AOper.mk (some 15) (.mv (.tmp 5)) none [], AOper.mk (some 16) (.mv (.tmp 1)) none [], AOper.mk (some 17) (.mv (.tmp 6)) none [], AOper.mk (some 18) (.idxA 1 (.tmp 16) (.tmp 17)) none [1, 2], AOper.mk (some 19) (.load false 1 (.tmp 18)) none [3], AOper.mk (some 20) (.fld 2 (.tmp 2)) none [], AOper.mk (some 21) (.load false 1 (.tmp 20)) none [5], AOper.mk (some 22) (.mv (.tmp 6)) none [], AOper.mk (some 23) (.idxA 1 (.tmp 21) (.tmp 22)) none [6, 7], AOper.mk (some 24) (.load false 1 (.tmp 23)) none [8], AOper.mk (some 25) (.bin .mul (.tmp 19) (.tmp 24)) none [4, 9]]
def l85r4b : List AOper :=
  [AOper.mk (some 26) (.bin .add (.tmp 15) (.tmp 25)) none [0, 10], AOper.mk (some 5) (.mv (.tmp 26)) none [11, 0, 1, 2, 3, 4, 5, 6, 7, 8, 9, 10, 11]]
def l85r4 : List AOper := l85r4a ++ l85r4b
def l85r5 : List AOper :=
  [AOper.mk (some 13) (.mv (.tmp 6)) none [], AOper.mk (some 14) (.bin .add (.tmp 13) (.const (.int .i64 1))) none [0], AOper.mk (some 6) (.mv (.tmp 14)) none [1, 0, 1]]
def l85r6 : List AOper :=
  [AOper.mk (some 27) (.mv (.tmp 5)) none [], AOper.mk (some 4) (.mv (.tmp 27)) none [0, 0]]
def l85 : AFn :=
  (AFn.mk 28 2 (ACode.seq (ACode.reg l85r0) (ACode.seq (ACode.reg l85r1) (ACode.seq (ACode.seq (ACode.reg l85r2) (ACode.block 0 (ACode.loop (ACode.seq (ACode.seq (ACode.reg l85r3) (ACode.cond (.tmp 12) ACode.skip (ACode.exit 0))) (ACode.seq (ACode.block 1 (ACode.draw l85r4)) (ACode.reg l85r5)))))) (ACode.seq (ACode.reg l85r6) ACode.ret)))) [ARes.tmp 4])
theorem l85_eq : lowFn Try.prog 85 = some l85 := by kernel_rfl
def l86r0 : List AOper :=
  [AOper.mk (some 4) (.mv (.const (.slice none 0 0))) none []]
def l86r1 : List AOper :=
  [AOper.mk (some 7) (.mv (.tmp 0)) none [], AOper.mk (some 8) (.len (.tmp 7)) none [0], AOper.mk (some 9) (.mkslice 1 [.int .i64 0] (.tmp 8) (.tmp 8)) none [1, 1], AOper.mk (some 5) (.mv (.tmp 9)) none [2, 0, 1, 2]]
def l86r2 : List AOper :=
  [AOper.mk (some 10) (.mv (.tmp 0)) none [], AOper.mk (some 11) (.len (.tmp 10)) none [0], AOper.mk (some 12) (.bin .sub (.tmp 11) (.const (.int .i64 1))) none [1], AOper.mk (some 6) (.mv (.tmp 12)) none [2, 0, 1, 2]]
def l86r3 : List AOper :=
  [AOper.mk (some 13) (.mv (.tmp 6)) none [], AOper.mk (some 14) (.bin .geq (.tmp 13) (.const (.int .i64 0))) none [0]]
def l86r4 : List AOper :=
  [AOper.mk (some 17) (.mv (.tmp 5)) none [], AOper.mk (some 18) (.mv (.tmp 6)) none [], AOper.mk (some 19) (.mv (.tmp 1)) none [], AOper.mk (some 20) (.mv (.tmp 0)) none [], AOper.mk (some 21) (.mv (.tmp 6)) none [], AOper.mk (some 22) (.idxA 1 (.tmp 20) (.tmp 21)) none [3, 4], AOper.mk (some 23) (.load false 1 (.tmp 22)) none [5], AOper.mk (some 24) (.bin .rem (.tmp 19) (.tmp 23)) none [2, 6], AOper.mk (some 25) (.idxA 1 (.tmp 17) (.tmp 18)) none [0, 1, 0, 1, 2, 3, 4, 5, 6, 7], AOper.mk none (.store 1 (.tmp 25) (.tmp 24)) none [8, 7, 0, 1, 2, 3, 4, 5, 6, 7]]
def l86r5 : List AOper :=
  [AOper.mk (some 26) (.mv (.tmp 1)) none [], AOper.mk (some 27) (.mv (.tmp 0)) none [], AOper.mk (some 28) (.mv (.tmp 6)) none [], AOper.mk (some 29) (.idxA 1 (.tmp 27) (.tmp 28)) none [1, 2], AOper.mk (some 30) (.load false 1 (.tmp 29)) none [3], AOper.mk (some 31) (.bin .quo (.tmp 26) (.tmp 30)) none [0, 4], AOper.mk (some 1) (.mv (.tmp 31)) none [5, 0, 1, 2, 3, 4, 5]]
def l86r6 : List AOper :=
  [AOper.mk (some 15) (.mv (.tmp 6)) none [], AOper.mk (some 16) (.bin .sub (.tmp 15) (.const (.int .i64 1))) none [0], AOper.mk (some 6) (.mv (.tmp 16)) none [1, 0, 1]]
def l86r7 : List AOper :=
  [AOper.mk (some 32) (.mv (.tmp 5)) none [], AOper.mk (some 4) (.mv (.tmp 32)) none [0, 0]]
def l86 : AFn :=
  (AFn.mk 33 2 (ACode.seq (ACode.reg l86r0) (ACode.seq (ACode.reg l86r1) (ACode.seq (ACode.seq (ACode.reg l86r2) (ACode.block 0 (ACode.loop (ACode.seq (ACode.seq (ACode.reg l86r3) (ACode.cond (.tmp 14) ACode.skip (ACode.exit 0))) (ACode.seq (ACode.block 1 (ACode.seq (ACode.reg l86r4) (ACode.reg l86r5))) (ACode.reg l86r6)))))) (ACode.seq (ACode.reg l86r7) ACode.ret)))) [ARes.tmp 4])
theorem l86_eq : lowFn Try.prog 86 = some l86 := by kernel_rfl
def l87r0 : List AOper :=
  [AOper.mk (some 4) (.mv (.const (.bool false))) none []]
def l87r1 : List AOper :=
  [AOper.mk (some 5) (.mv (.tmp 1)) none [], AOper.mk (some 6) (.un .neg (.tmp 5)) none [0], AOper.mk (some 7) (.mv (.tmp 0)) none [], AOper.mk (some 8) (.bin .leq (.tmp 6) (.tmp 7)) none [1, 2], AOper.mk (some 9) (.mv (.tmp 8)) none [3], AOper.mk (some 10) (.mv (.tmp 0)) (some (9, true)) [4], AOper.mk (some 11) (.mv (.tmp 1)) (some (9, true)) [4], AOper.mk (some 12) (.bin .leq (.tmp 10) (.tmp 11)) (some (9, true)) [5, 6, 4], AOper.mk (some 13) (.pick (.tmp 9) (.tmp 12) (.const (.bool false))) none [4, 7], AOper.mk (some 4) (.mv (.tmp 13)) none [8, 4, 0, 1, 2, 3, 4, 5, 6, 7, 8]]
def l87 : AFn :=
  (AFn.mk 14 2 (ACode.seq (ACode.reg l87r0) (ACode.seq (ACode.reg l87r1) ACode.ret)) [ARes.tmp 4])
theorem l87_eq : lowFn Try.prog 87 = some l87 := by kernel_rfl
def l88r0 : List AOper :=
  [AOper.mk (some 2) (.box (.tmp 0)) none [], AOper.mk (some 4) (.mv (.const (.int .i64 0))) none []]
def l88r1 : List AOper :=
  [AOper.mk (some 5) (.mv (.const (.int .i64 0))) none []]
def l88r2 : List AOper :=
  [AOper.mk (some 8) (.mv (.tmp 1)) none [], AOper.mk (some 9) (.len (.tmp 8)) none [0], AOper.mk (some 10) (.mv (.const (.int .i64 0))) none []]
def l88r3 : List AOper :=
  [AOper.mk (some 11) (.bin .lss (.tmp 10) (.tmp 9)) none []]
def l88r4 : List AOper :=
  [AOper.mk (some 12) (.mv (.tmp 10)) none [], AOper.mk (some 13) (.idxA 1 (.tmp 8) (.tmp 10)) none [], AOper.mk (some 14) (.load false 1 (.tmp 13)) none [1], AOper.mk (some 6) (.mv (.tmp 12)) none [0, 0, 1, 2], AOper.mk (some 7) (.mv (.tmp 14)) none [2, 3, 0, 1, 2, 3]]
def l88r5 : List AOper :=
  [AOper.mk (some 15) (.mv (.tmp 5)) none [], AOper.mk (some 16) (.mv (.tmp 6)) none [], AOper.mk (some 17) (.idxP 1 4 (.tmp 2) (.tmp 16)) none [1], AOper.mk (some 18) (.load false 1 (.tmp 17)) none [2], AOper.mk (some 19) (.mv (.tmp 7)) none [], AOper.mk (some 20) (.bin .mul (.tmp 18) (.tmp 19)) none [3, 4], AOper.mk (some 21) (.bin .add (.tmp 15) (.tmp 20)) none [0, 5], AOper.mk (some 5) (.mv (.tmp 21)) none [6, 0, 1, 2, 3, 4, 5, 6]]
def l88r6 : List AOper :=
  [AOper.mk (some 22) (.bin .add (.tmp 10) (.const (.int .i64 1))) none [], AOper.mk (some 10) (.mv (.tmp 22)) none [0]]
def l88r7 : List AOper :=
  [AOper.mk (some 23) (.mv (.tmp 5)) none [], AOper.mk (some 4) (.mv (.tmp 23)) none [0, 0]]
def l88 : AFn :=
  (AFn.mk 24 2 (ACode.seq (ACode.reg l88r0) (ACode.seq (ACode.reg l88r1) (ACode.seq (ACode.seq (ACode.reg l88r2) (ACode.block 0 (ACode.loop (ACode.seq (ACode.reg l88r3) (ACode.seq (ACode.cond (.tmp 11) ACode.skip (ACode.exit 0)) (ACode.seq (ACode.block 1 (ACode.seq (ACode.reg l88r4) (ACode.reg l88r5))) (ACode.reg l88r6))))))) (ACode.seq (ACode.reg l88r7) ACode.ret)))) [ARes.tmp 4])
theorem l88_eq : lowFn Try.prog 88 = some l88 := by kernel_rfl
end Go.Proofs.Ytfkaejajkkbpmab
