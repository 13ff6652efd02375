import Derived.Test.YtfkaejajkkbpmaaCW3
import Derived.Test.YtfkaejajkkbpmaaProg
import Derived.KernelRfl
set_option maxRecDepth 100000
namespace Go.Proofs.Ytfkaejajkkbpmaa
open Vw Go
def l8r0 : List AOper :=
  [AOper.mk (some 3) (.box (.tmp 0)) none [], AOper.mk (some 6) (.mv (.const (.bool false))) none []]
def l8r1 : List AOper :=
  [AOper.mk (some 7) (.mv (.const (.int .i64 1048576))) none []]
def l8r2 : List AOper :=
  [AOper.mk (some 18) (.load true 3 (.tmp 3)) none [], AOper.mk (some 19) (.mv (.tmp 7)) none [], AOper.mk (some 20) (.call 10 [.tmp 18, .tmp 19]) none [0, 1], AOper.mk (some 7) (.mv (.tmp 20)) none [2, 2, 0, 1, 2]]
def l8r3 : List AOper :=
  [AOper.mk (some 21) (.mv (.tmp 7)) none [], AOper.mk (some 22) (.bin .lss (.tmp 21) (.const (.int .i64 0))) none [0]]
def l8r4 : List AOper :=
  [AOper.mk (some 6) (.mv (.const (.bool true))) none []]
def l8r5 : List AOper :=
  [AOper.mk (some 24) (.load true 3 (.tmp 3)) none [], AOper.mk (some 25) (.call 12 [.tmp 24]) none [0], AOper.mk (some 26) (.mv (.tmp 1)) none [], AOper.mk (some 27) (.mv (.tmp 2)) none [], AOper.mk (some 28) (.call 29 [.tmp 25, .tmp 26, .tmp 27]) none [1, 2, 3, 1], AOper.mk (some 23) (.mv (.tmp 28)) none [4], AOper.mk (some 29) (.extract (.tmp 23) 0) none [5], AOper.mk (some 30) (.extract (.tmp 23) 1) none [5], AOper.mk (some 8) (.alloc [.int .i64 0, .slice none 0 0, .slice none 0 0]) none [], AOper.mk none (.store 3 (.tmp 8) (.tmp 29)) none [8, 6, 4, 0, 1, 2, 3, 4, 5, 6, 8], AOper.mk (some 9) (.mv (.tmp 30)) none [7, 9, 0, 1, 2, 3, 4, 5, 6, 7, 8, 9]]
def l8r6 : List AOper :=
  [AOper.mk (some 31) (.load true 3 (.tmp 3)) none [], AOper.mk (some 32) (.call 12 [.tmp 31]) none [0], AOper.mk (some 10) (.alloc [.int .i64 0, .slice none 0 0, .slice none 0 0]) none [], AOper.mk none (.store 3 (.tmp 10) (.tmp 32)) none [2, 1, 1, 0, 1, 2]]
def l8r7 : List AOper :=
  [AOper.mk (some 34) (.load true 3 (.tmp 10)) none [], AOper.mk (some 35) (.mv (.tmp 1)) none [], AOper.mk (some 36) (.mv (.tmp 2)) none [], AOper.mk (some 37) (.call 30 [.tmp 34, .tmp 35, .tmp 36]) none [0, 1, 2], AOper.mk (some 33) (.mv (.tmp 37)) none [3], AOper.mk (some 38) (.extract (.tmp 33) 0) none [4], AOper.mk (some 39) (.extract (.tmp 33) 1) none [4], AOper.mk (some 11) (.alloc [.int .i64 0, .slice none 0 0, .slice none 0 0]) none [], AOper.mk none (.store 3 (.tmp 11) (.tmp 38)) none [7, 5, 3, 0, 1, 2, 3, 4, 5, 7], AOper.mk (some 12) (.mv (.tmp 39)) none [6, 8, 0, 1, 2, 3, 4, 5, 6, 7, 8]]
def l8r8 : List AOper :=
  [AOper.mk (some 40) (.load true 3 (.tmp 11)) none [], AOper.mk (some 41) (.load true 3 (.tmp 8)) none [], AOper.mk (some 42) (.call 15 [.tmp 40, .tmp 41]) none [0, 1], AOper.mk (some 43) (.un .not (.tmp 42)) none [2], AOper.mk (some 44) (.mv (.tmp 43)) none [3, 2], AOper.mk (some 45) (.mv (.tmp 12)) (some (44, false)) [4], AOper.mk (some 46) (.mv (.tmp 9)) (some (44, false)) [4], AOper.mk (some 47) (.binB .neq (.tmp 45) (.tmp 46)) (some (44, false)) [5, 6, 4], AOper.mk (some 48) (.pick (.tmp 44) (.const (.bool true)) (.tmp 47)) none [4, 7]]
def l8r9 : List AOper :=
  [AOper.mk (some 6) (.mv (.const (.bool false))) none []]
def l8r10a : List AOper :=
  [AOper.mk (some 49) (.load true 3 (.tmp 10)) none [], AOper.mk (some 50) (.load true 3 (.tmp 3)) none [], AOper.mk (some 51) (.call 12 [.tmp 50]) none [1]]
def l8r10b : List AOper :=
  [AOper.mk (some 52) (.call 15 [.tmp 49, .tmp 51]) none [0, 2, 2], AOper.mk (some 53) (.un .not (.tmp 52)) none [3]]
def l8r10 : List AOper := l8r10a ++ l8r10b
def l8r11 : List AOper :=
  [AOper.mk (some 6) (.mv (.const (.bool false))) none []]
def l8r12 : List AOper :=
  [AOper.mk (some 13) (.mv (.const (.int .i64 1))) none []]
def l8r13 : List AOper :=
  [AOper.mk (some 54) (.load true 3 (.tmp 10)) none [], AOper.mk (some 55) (.mv (.tmp 13)) none [], AOper.mk (some 56) (.call 16 [.tmp 54, .tmp 55]) none [0, 1], AOper.mk (some 13) (.mv (.tmp 56)) none [2, 2, 0, 1, 2]]
def l8r14 : List AOper :=
  [AOper.mk (some 57) (.mv (.tmp 13)) none [], AOper.mk (some 58) (.bin .lss (.tmp 57) (.const (.int .i64 0))) none [0], AOper.mk (some 59) (.mv (.tmp 58)) none [1], AOper.mk (some 60) (.load true 3 (.tmp 11)) (some (59, false)) [2], AOper.mk (some 61) (.load true 3 (.tmp 8)) (some (59, false)) [2], AOper.mk (some 62) (.call 15 [.tmp 60, .tmp 61]) (some (59, false)) [3, 4, 2, 2], AOper.mk (some 63) (.un .not (.tmp 62)) (some (59, false)) [5, 2], AOper.mk (some 64) (.pick (.tmp 59) (.const (.bool true)) (.tmp 63)) none [2, 6], AOper.mk (some 65) (.mv (.tmp 64)) none [7, 5], AOper.mk (some 66) (.mv (.tmp 12)) (some (65, false)) [8], AOper.mk (some 67) (.mv (.tmp 9)) (some (65, false)) [8], AOper.mk (some 68) (.binB .neq (.tmp 66) (.tmp 67)) (some (65, false)) [9, 10, 8], AOper.mk (some 69) (.pick (.tmp 65) (.const (.bool true)) (.tmp 68)) none [8, 11]]
def l8r15 : List AOper :=
  [AOper.mk (some 6) (.mv (.const (.bool false))) none []]
def l8r16 : List AOper :=
  [AOper.mk (some 14) (.mv (.const (.int .i64 1))) none []]
def l8r17 : List AOper :=
  [AOper.mk (some 70) (.load true 3 (.tmp 11)) none [], AOper.mk (some 71) (.mv (.tmp 14)) none [], AOper.mk (some 72) (.call 16 [.tmp 70, .tmp 71]) none [0, 1], AOper.mk (some 14) (.mv (.tmp 72)) none [2, 2, 0, 1, 2]]
def l8r18 : List AOper :=
  [AOper.mk (some 15) (.mv (.const (.int .i64 1))) none []]
def l8r19 : List AOper :=
  [AOper.mk (some 73) (.load true 3 (.tmp 11)) none [], AOper.mk (some 74) (.mv (.tmp 15)) none [], AOper.mk (some 75) (.call 17 [.tmp 73, .tmp 74]) none [0, 1], AOper.mk (some 15) (.mv (.tmp 75)) none [2, 2, 0, 1, 2]]
def l8r20 : List AOper :=
  [AOper.mk (some 76) (.mv (.tmp 15)) none [], AOper.mk (some 77) (.bin .lss (.tmp 76) (.const (.int .i64 0))) none [0]]
def l8r21 : List AOper :=
  [AOper.mk (some 6) (.mv (.const (.bool false))) none []]
def l8r22 : List AOper :=
  [AOper.mk (some 78) (.mv (.tmp 15)) none [], AOper.mk (some 79) (.mv (.tmp 14)) none [], AOper.mk (some 80) (.bin .neq (.tmp 78) (.tmp 79)) none [0, 1]]
def l8r23 : List AOper :=
  [AOper.mk (some 6) (.mv (.const (.bool false))) none []]
def l8r24 : List AOper :=
  [AOper.mk (some 82) (.load true 3 (.tmp 3)) none [], AOper.mk (some 83) (.call 12 [.tmp 82]) none [0], AOper.mk (some 84) (.mv (.tmp 1)) none [], AOper.mk (some 85) (.mv (.tmp 2)) none [], AOper.mk (some 86) (.call 30 [.tmp 83, .tmp 84, .tmp 85]) none [1, 2, 3, 1], AOper.mk (some 81) (.mv (.tmp 86)) none [4], AOper.mk (some 87) (.extract (.tmp 81) 0) none [5], AOper.mk (some 88) (.extract (.tmp 81) 1) none [5], AOper.mk (some 16) (.alloc [.int .i64 0, .slice none 0 0, .slice none 0 0]) none [], AOper.mk none (.store 3 (.tmp 16) (.tmp 87)) none [8, 6, 4, 0, 1, 2, 3, 4, 5, 6, 8], AOper.mk (some 17) (.mv (.tmp 88)) none [7, 9, 0, 1, 2, 3, 4, 5, 6, 7, 8, 9]]
def l8r25 : List AOper :=
  [AOper.mk (some 89) (.load true 3 (.tmp 16)) none [], AOper.mk (some 90) (.load true 3 (.tmp 8)) none [], AOper.mk (some 91) (.call 15 [.tmp 89, .tmp 90]) none [0, 1], AOper.mk (some 92) (.un .not (.tmp 91)) none [2], AOper.mk (some 93) (.mv (.tmp 92)) none [3, 2], AOper.mk (some 94) (.mv (.tmp 17)) (some (93, false)) [4], AOper.mk (some 95) (.mv (.tmp 9)) (some (93, false)) [4], AOper.mk (some 96) (.binB .neq (.tmp 94) (.tmp 95)) (some (93, false)) [5, 6, 4], AOper.mk (some 97) (.pick (.tmp 93) (.const (.bool true)) (.tmp 96)) none [4, 7]]
def l8r26 : List AOper :=
  [AOper.mk (some 6) (.mv (.const (.bool false))) none []]
def l8r27 : List AOper :=
  [AOper.mk (some 15) (.mv (.const (.int .i64 1))) none []]
def l8r28 : List AOper :=
  [AOper.mk (some 98) (.load true 3 (.tmp 11)) none [], AOper.mk (some 99) (.mv (.tmp 15)) none [], AOper.mk (some 100) (.call 17 [.tmp 98, .tmp 99]) none [0, 1], AOper.mk (some 15) (.mv (.tmp 100)) none [2, 2, 0, 1, 2]]
def l8r29 : List AOper :=
  [AOper.mk (some 101) (.mv (.tmp 15)) none [], AOper.mk (some 102) (.bin .lss (.tmp 101) (.const (.int .i64 0))) none [0]]
def l8r30 : List AOper :=
  [AOper.mk (some 6) (.mv (.const (.bool false))) none []]
def l8r31 : List AOper :=
  [AOper.mk (some 103) (.mv (.tmp 15)) none [], AOper.mk (some 104) (.mv (.tmp 14)) none [], AOper.mk (some 105) (.bin .neq (.tmp 103) (.tmp 104)) none [0, 1]]
def l8r32 : List AOper :=
  [AOper.mk (some 6) (.mv (.const (.bool false))) none []]
def l8r33 : List AOper :=
  [AOper.mk (some 6) (.mv (.const (.bool true))) none []]
def l8 : AFn :=
  (AFn.mk 106 3 (ACode.seq (ACode.reg l8r0) (ACode.seq (ACode.reg l8r1) (ACode.seq (ACode.reg l8r2) (ACode.seq (ACode.seq (ACode.reg l8r3) (ACode.cond (.tmp 22) (ACode.seq (ACode.reg l8r4) ACode.ret) ACode.skip)) (ACode.seq (ACode.reg l8r5) (ACode.seq (ACode.reg l8r6) (ACode.seq (ACode.reg l8r7) (ACode.seq (ACode.seq (ACode.reg l8r8) (ACode.cond (.tmp 48) (ACode.seq (ACode.reg l8r9) ACode.ret) ACode.skip)) (ACode.seq (ACode.seq (ACode.draw l8r10) (ACode.cond (.tmp 53) (ACode.seq (ACode.reg l8r11) ACode.ret) ACode.skip)) (ACode.seq (ACode.reg l8r12) (ACode.seq (ACode.reg l8r13) (ACode.seq (ACode.seq (ACode.reg l8r14) (ACode.cond (.tmp 69) (ACode.seq (ACode.reg l8r15) ACode.ret) ACode.skip)) (ACode.seq (ACode.reg l8r16) (ACode.seq (ACode.reg l8r17) (ACode.seq (ACode.reg l8r18) (ACode.seq (ACode.reg l8r19) (ACode.seq (ACode.seq (ACode.reg l8r20) (ACode.cond (.tmp 77) (ACode.seq (ACode.reg l8r21) ACode.ret) ACode.skip)) (ACode.seq (ACode.seq (ACode.reg l8r22) (ACode.cond (.tmp 80) (ACode.seq (ACode.reg l8r23) ACode.ret) ACode.skip)) (ACode.seq (ACode.reg l8r24) (ACode.seq (ACode.seq (ACode.reg l8r25) (ACode.cond (.tmp 97) (ACode.seq (ACode.reg l8r26) ACode.ret) ACode.skip)) (ACode.seq (ACode.reg l8r27) (ACode.seq (ACode.reg l8r28) (ACode.seq (ACode.seq (ACode.reg l8r29) (ACode.cond (.tmp 102) (ACode.seq (ACode.reg l8r30) ACode.ret) ACode.skip)) (ACode.seq (ACode.seq (ACode.reg l8r31) (ACode.cond (.tmp 105) (ACode.seq (ACode.reg l8r32) ACode.ret) ACode.skip)) (ACode.seq (ACode.reg l8r33) ACode.ret))))))))))))))))))))))))) [ARes.tmp 6])
theorem l8_eq : lowFn Try.prog 8 = some l8 := by kernel_rfl
def l10r0 : List AOper :=
  [AOper.mk (some 2) (.box (.tmp 0)) none [], AOper.mk (some 4) (.mv (.const (.int .i64 0))) none []]
def l10r1 : List AOper :=
  [AOper.mk (some 5) (.fld 1 (.tmp 2)) none [], AOper.mk (some 6) (.load false 1 (.tmp 5)) none [0], AOper.mk (some 7) (.mv (.tmp 1)) none [], AOper.mk (some 8) (.call 33 [.tmp 6, .tmp 7]) none [1, 2], AOper.mk (some 1) (.mv (.tmp 8)) none [3, 3, 0, 1, 2, 3]]
def l10r2 : List AOper :=
  [AOper.mk (some 9) (.mv (.tmp 1)) none [], AOper.mk (some 10) (.bin .lss (.tmp 9) (.const (.int .i64 0))) none [0]]
def l10r3 : List AOper :=
  [AOper.mk (some 4) (.mv (.const (.int .i64 (-1)))) none []]
def l10r4 : List AOper :=
  [AOper.mk (some 11) (.fld 2 (.tmp 2)) none [], AOper.mk (some 12) (.load false 1 (.tmp 11)) none [0], AOper.mk (some 13) (.mv (.tmp 1)) none [], AOper.mk (some 14) (.call 33 [.tmp 12, .tmp 13]) none [1, 2], AOper.mk (some 1) (.mv (.tmp 14)) none [3, 3, 0, 1, 2, 3]]
def l10r5 : List AOper :=
  [AOper.mk (some 15) (.mv (.tmp 1)) none [], AOper.mk (some 16) (.bin .lss (.tmp 15) (.const (.int .i64 0))) none [0]]
def l10r6 : List AOper :=
  [AOper.mk (some 4) (.mv (.const (.int .i64 (-1)))) none []]
def l10r7 : List AOper :=
  [AOper.mk (some 17) (.mv (.tmp 1)) none [], AOper.mk (some 4) (.mv (.tmp 17)) none [0, 0]]
def l10 : AFn :=
  (AFn.mk 18 2 (ACode.seq (ACode.reg l10r0) (ACode.seq (ACode.reg l10r1) (ACode.seq (ACode.seq (ACode.reg l10r2) (ACode.cond (.tmp 10) (ACode.seq (ACode.reg l10r3) ACode.ret) ACode.skip)) (ACode.seq (ACode.reg l10r4) (ACode.seq (ACode.seq (ACode.reg l10r5) (ACode.cond (.tmp 16) (ACode.seq (ACode.reg l10r6) ACode.ret) ACode.skip)) (ACode.seq (ACode.reg l10r7) ACode.ret)))))) [ARes.tmp 4])
theorem l10_eq : lowFn Try.prog 10 = some l10 := by kernel_rfl
def l12r0 : List AOper :=
  [AOper.mk (some 1) (.box (.tmp 0)) none [], AOper.mk (some 2) (.alloc [.int .i64 0, .slice none 0 0, .slice none 0 0]) none []]
def l12r1 : List AOper :=
  [AOper.mk (some 3) (.alloc [.int .i64 0, .slice none 0 0, .slice none 0 0]) none []]
def l12r2 : List AOper :=
  [AOper.mk (some 4) (.fld 0 (.tmp 1)) none [], AOper.mk (some 5) (.load false 1 (.tmp 4)) none [0], AOper.mk (some 6) (.fld 0 (.tmp 3)) none [0, 1], AOper.mk none (.store 1 (.tmp 6) (.tmp 5)) none [2, 1, 0, 1]]
def l12r3 : List AOper :=
  [AOper.mk (some 7) (.fld 1 (.tmp 1)) none [], AOper.mk (some 8) (.load false 1 (.tmp 7)) none [0], AOper.mk (some 9) (.call 21 [.tmp 8]) none [1], AOper.mk (some 10) (.fld 1 (.tmp 3)) none [0, 1, 2], AOper.mk none (.store 1 (.tmp 10) (.tmp 9)) none [3, 2, 2, 0, 1, 2]]
def l12r4 : List AOper :=
  [AOper.mk (some 11) (.fld 2 (.tmp 1)) none [], AOper.mk (some 12) (.load false 1 (.tmp 11)) none [0], AOper.mk (some 13) (.call 21 [.tmp 12]) none [1], AOper.mk (some 14) (.fld 2 (.tmp 3)) none [0, 1, 2], AOper.mk none (.store 1 (.tmp 14) (.tmp 13)) none [3, 2, 2, 0, 1, 2]]
def l12r5 : List AOper :=
  [AOper.mk (some 15) (.load true 3 (.tmp 3)) none [], AOper.mk none (.store 3 (.tmp 2) (.tmp 15)) none [0, 0]]
def l12 : AFn :=
  (AFn.mk 16 1 (ACode.seq (ACode.reg l12r0) (ACode.seq (ACode.reg l12r1) (ACode.seq (ACode.reg l12r2) (ACode.seq (ACode.reg l12r3) (ACode.seq (ACode.reg l12r4) (ACode.seq (ACode.reg l12r5) ACode.ret)))))) [ARes.cell 2 true 3])
theorem l12_eq : lowFn Try.prog 12 = some l12 := by kernel_rfl
def l15r0 : List AOper :=
  [AOper.mk (some 2) (.box (.tmp 0)) none [], AOper.mk (some 3) (.box (.tmp 1)) none [], AOper.mk (some 4) (.mv (.const (.bool false))) none []]
def l15r1 : List AOper :=
  [AOper.mk (some 5) (.fld 0 (.tmp 2)) none [], AOper.mk (some 6) (.load false 1 (.tmp 5)) none [0], AOper.mk (some 7) (.fld 0 (.tmp 3)) none [], AOper.mk (some 8) (.load false 1 (.tmp 7)) none [2], AOper.mk (some 9) (.bin .neq (.tmp 6) (.tmp 8)) none [1, 3]]
def l15r2 : List AOper :=
  [AOper.mk (some 4) (.mv (.const (.bool false))) none []]
def l15r3 : List AOper :=
  [AOper.mk (some 10) (.fld 1 (.tmp 2)) none [], AOper.mk (some 11) (.load false 1 (.tmp 10)) none [0], AOper.mk (some 12) (.fld 1 (.tmp 3)) none [], AOper.mk (some 13) (.load false 1 (.tmp 12)) none [2], AOper.mk (some 14) (.call 23 [.tmp 11, .tmp 13]) none [1, 3], AOper.mk (some 15) (.un .not (.tmp 14)) none [4]]
def l15r4 : List AOper :=
  [AOper.mk (some 4) (.mv (.const (.bool false))) none []]
def l15r5 : List AOper :=
  [AOper.mk (some 16) (.fld 2 (.tmp 2)) none [], AOper.mk (some 17) (.load false 1 (.tmp 16)) none [0], AOper.mk (some 18) (.fld 2 (.tmp 3)) none [], AOper.mk (some 19) (.load false 1 (.tmp 18)) none [2], AOper.mk (some 20) (.call 23 [.tmp 17, .tmp 19]) none [1, 3], AOper.mk (some 21) (.un .not (.tmp 20)) none [4]]
def l15r6 : List AOper :=
  [AOper.mk (some 4) (.mv (.const (.bool false))) none []]
def l15r7 : List AOper :=
  [AOper.mk (some 4) (.mv (.const (.bool true))) none []]
def l15 : AFn :=
  (AFn.mk 22 2 (ACode.seq (ACode.reg l15r0) (ACode.seq (ACode.seq (ACode.reg l15r1) (ACode.cond (.tmp 9) (ACode.seq (ACode.reg l15r2) ACode.ret) ACode.skip)) (ACode.seq (ACode.seq (ACode.reg l15r3) (ACode.cond (.tmp 15) (ACode.seq (ACode.reg l15r4) ACode.ret) ACode.skip)) (ACode.seq (ACode.seq (ACode.reg l15r5) (ACode.cond (.tmp 21) (ACode.seq (ACode.reg l15r6) ACode.ret) ACode.skip)) (ACode.seq (ACode.reg l15r7) ACode.ret))))) [ARes.tmp 4])
theorem l15_eq : lowFn Try.prog 15 = some l15 := by kernel_rfl
def l16r0 : List AOper :=
  [AOper.mk (some 2) (.box (.tmp 0)) none [], AOper.mk (some 4) (.mv (.const (.int .i64 0))) none []]
def l16r1 : List AOper :=
  [AOper.mk (some 5) (.fld 1 (.tmp 2)) none [], AOper.mk (some 6) (.load false 1 (.tmp 5)) none [0], AOper.mk (some 7) (.mv (.tmp 1)) none [], AOper.mk (some 8) (.call 24 [.tmp 6, .tmp 7]) none [1, 2], AOper.mk (some 1) (.mv (.tmp 8)) none [3, 3, 0, 1, 2, 3]]
def l16r2 : List AOper :=
  [AOper.mk (some 9) (.fld 2 (.tmp 2)) none [], AOper.mk (some 10) (.load false 1 (.tmp 9)) none [0], AOper.mk (some 11) (.mv (.tmp 1)) none [], AOper.mk (some 12) (.call 24 [.tmp 10, .tmp 11]) none [1, 2], AOper.mk (some 1) (.mv (.tmp 12)) none [3, 3, 0, 1, 2, 3]]
def l16r3 : List AOper :=
  [AOper.mk (some 13) (.mv (.tmp 1)) none [], AOper.mk (some 4) (.mv (.tmp 13)) none [0, 0]]
def l16 : AFn :=
  (AFn.mk 14 2 (ACode.seq (ACode.reg l16r0) (ACode.seq (ACode.reg l16r1) (ACode.seq (ACode.reg l16r2) (ACode.seq (ACode.reg l16r3) ACode.ret)))) [ARes.tmp 4])
theorem l16_eq : lowFn Try.prog 16 = some l16 := by kernel_rfl
def l17r0 : List AOper :=
  [AOper.mk (some 2) (.box (.tmp 0)) none [], AOper.mk (some 4) (.mv (.const (.int .i64 0))) none []]
def l17r1 : List AOper :=
  [AOper.mk (some 5) (.fld 1 (.tmp 2)) none [], AOper.mk (some 6) (.load false 1 (.tmp 5)) none [0], AOper.mk (some 7) (.mv (.tmp 1)) none [], AOper.mk (some 8) (.call 46 [.tmp 6, .tmp 7]) none [1, 2], AOper.mk (some 1) (.mv (.tmp 8)) none [3, 3, 0, 1, 2, 3]]
def l17r2 : List AOper :=
  [AOper.mk (some 9) (.mv (.tmp 1)) none [], AOper.mk (some 10) (.bin .lss (.tmp 9) (.const (.int .i64 0))) none [0]]
def l17r3 : List AOper :=
  [AOper.mk (some 4) (.mv (.const (.int .i64 (-1)))) none []]
def l17r4 : List AOper :=
  [AOper.mk (some 11) (.fld 2 (.tmp 2)) none [], AOper.mk (some 12) (.load false 1 (.tmp 11)) none [0], AOper.mk (some 13) (.mv (.tmp 1)) none [], AOper.mk (some 14) (.call 46 [.tmp 12, .tmp 13]) none [1, 2], AOper.mk (some 1) (.mv (.tmp 14)) none [3, 3, 0, 1, 2, 3]]
def l17r5 : List AOper :=
  [AOper.mk (some 15) (.mv (.tmp 1)) none [], AOper.mk (some 16) (.bin .lss (.tmp 15) (.const (.int .i64 0))) none [0]]
def l17r6 : List AOper :=
  [AOper.mk (some 4) (.mv (.const (.int .i64 (-1)))) none []]
def l17r7 : List AOper :=
  [AOper.mk (some 17) (.mv (.tmp 1)) none [], AOper.mk (some 4) (.mv (.tmp 17)) none [0, 0]]
def l17 : AFn :=
  (AFn.mk 18 2 (ACode.seq (ACode.reg l17r0) (ACode.seq (ACode.reg l17r1) (ACode.seq (ACode.seq (ACode.reg l17r2) (ACode.cond (.tmp 10) (ACode.seq (ACode.reg l17r3) ACode.ret) ACode.skip)) (ACode.seq (ACode.reg l17r4) (ACode.seq (ACode.seq (ACode.reg l17r5) (ACode.cond (.tmp 16) (ACode.seq (ACode.reg l17r6) ACode.ret) ACode.skip)) (ACode.seq (ACode.reg l17r7) ACode.ret)))))) [ARes.tmp 4])
theorem l17_eq : lowFn Try.prog 17 = some l17 := by kernel_rfl
def l21r0 : List AOper :=
  [AOper.mk (some 2) (.mv (.const (.slice none 0 0))) none []]
def l21r1 : List AOper :=
  [AOper.mk (some 5) (.mv (.tmp 0)) none [], AOper.mk (some 6) (.len (.tmp 5)) none [0], AOper.mk (some 7) (.mkslice 1 [.int .i64 0] (.tmp 6) (.tmp 6)) none [1, 1], AOper.mk (some 3) (.mv (.tmp 7)) none [2, 0, 1, 2]]
def l21r2 : List AOper :=
  [AOper.mk (some 4) (.mv (.const (.int .i64 0))) none []]
def l21r3 : List AOper :=
  [AOper.mk (some 8) (.mv (.tmp 4)) none [], AOper.mk (some 9) (.mv (.tmp 0)) none [], AOper.mk (some 10) (.len (.tmp 9)) none [1], AOper.mk (some 11) (.bin .lss (.tmp 8) (.tmp 10)) none [0, 2]]
def l21r4 : List AOper :=
  [AOper.mk (some 14) (.mv (.tmp 3)) none [], AOper.mk (some 15) (.mv (.tmp 4)) none [], AOper.mk (some 16) (.mv (.tmp 0)) none [], AOper.mk (some 17) (.mv (.tmp 4)) none [], AOper.mk (some 18) (.idxA 1 (.tmp 16) (.tmp 17)) none [2, 3], AOper.mk (some 19) (.load false 1 (.tmp 18)) none [4], AOper.mk (some 20) (.idxA 1 (.tmp 14) (.tmp 15)) none [0, 1, 0, 1, 2, 3, 4, 5], AOper.mk none (.store 1 (.tmp 20) (.tmp 19)) none [6, 5, 0, 1, 2, 3, 4, 5]]
def l21r5 : List AOper :=
  [AOper.mk (some 12) (.mv (.tmp 4)) none [], AOper.mk (some 13) (.bin .add (.tmp 12) (.const (.int .i64 1))) none [0], AOper.mk (some 4) (.mv (.tmp 13)) none [1, 0, 1]]
def l21r6 : List AOper :=
  [AOper.mk (some 21) (.mv (.tmp 3)) none [], AOper.mk (some 2) (.mv (.tmp 21)) none [0, 0]]
def l21 : AFn :=
  (AFn.mk 22 1 (ACode.seq (ACode.reg l21r0) (ACode.seq (ACode.reg l21r1) (ACode.seq (ACode.seq (ACode.reg l21r2) (ACode.block 0 (ACode.loop (ACode.seq (ACode.seq (ACode.reg l21r3) (ACode.cond (.tmp 11) ACode.skip (ACode.exit 0))) (ACode.seq (ACode.block 1 (ACode.reg l21r4)) (ACode.reg l21r5)))))) (ACode.seq (ACode.reg l21r6) ACode.ret)))) [ARes.tmp 2])
theorem l21_eq : lowFn Try.prog 21 = some l21 := by kernel_rfl
def l23r0 : List AOper :=
  [AOper.mk (some 4) (.mv (.const (.bool false))) none []]
def l23r1 : List AOper :=
  [AOper.mk (some 6) (.mv (.tmp 0)) none [], AOper.mk (some 7) (.len (.tmp 6)) none [0], AOper.mk (some 8) (.mv (.tmp 1)) none [], AOper.mk (some 9) (.len (.tmp 8)) none [2], AOper.mk (some 10) (.bin .neq (.tmp 7) (.tmp 9)) none [1, 3]]
def l23r2 : List AOper :=
  [AOper.mk (some 4) (.mv (.const (.bool false))) none []]
def l23r3 : List AOper :=
  [AOper.mk (some 5) (.mv (.const (.int .i64 0))) none []]
def l23r4 : List AOper :=
  [AOper.mk (some 11) (.mv (.tmp 5)) none [], AOper.mk (some 12) (.mv (.tmp 0)) none [], AOper.mk (some 13) (.len (.tmp 12)) none [1], AOper.mk (some 14) (.bin .lss (.tmp 11) (.tmp 13)) none [0, 2]]
def l23r5a : List AOper :=
  [AOper.mk (some 17) (.mv (.tmp 0)) none [], AOper.mk (some 18) (.mv (.tmp 5)) none [], AOper.mk (some 19) (.idxA 1 (.tmp 17) (.tmp 18)) none [0, 1], AOper.mk (some 20) (.load false 1 (.tmp 19)) none [2], AOper.mk (some 21) (.mv (.tmp 1)) none [], AOper.mk (some 22) (.mv (.tmp 5)) none [], AOper.mk (some 23) (.idxA 1 (.tmp 21) (.tmp 22)) none [4, 5], AOper.mk (some 24) (.load false 1 (.tmp 23)) none [6]]
def l23r5b : List AOper :=
  [AOper.mk (some 25) (.bin .neq (.tmp 20) (.tmp 24)) none [3, 7]]
def l23r5 : List AOper := l23r5a ++ l23r5b
def l23r6 : List AOper :=
  [AOper.mk (some 4) (.mv (.const (.bool false))) none []]
def l23r7 : List AOper :=
  [AOper.mk (some 15) (.mv (.tmp 5)) none [], AOper.mk (some 16) (.bin .add (.tmp 15) (.const (.int .i64 1))) none [0], AOper.mk (some 5) (.mv (.tmp 16)) none [1, 0, 1]]
def l23r8 : List AOper :=
  [AOper.mk (some 4) (.mv (.const (.bool true))) none []]
def l23 : AFn :=
  (AFn.mk 26 2 (ACode.seq (ACode.reg l23r0) (ACode.seq (ACode.seq (ACode.reg l23r1) (ACode.cond (.tmp 10) (ACode.seq (ACode.reg l23r2) ACode.ret) ACode.skip)) (ACode.seq (ACode.seq (ACode.reg l23r3) (ACode.block 0 (ACode.loop (ACode.seq (ACode.seq (ACode.reg l23r4) (ACode.cond (.tmp 14) ACode.skip (ACode.exit 0))) (ACode.seq (ACode.block 1 (ACode.seq (ACode.draw l23r5) (ACode.cond (.tmp 25) (ACode.seq (ACode.reg l23r6) ACode.ret) ACode.skip))) (ACode.reg l23r7)))))) (ACode.seq (ACode.reg l23r8) ACode.ret)))) [ARes.tmp 4])
theorem l23_eq : lowFn Try.prog 23 = some l23 := by kernel_rfl
def l24r0 : List AOper :=
  [AOper.mk (some 4) (.mv (.const (.int .i64 0))) none []]
def l24r1 : List AOper :=
  [AOper.mk (some 5) (.mv (.const (.int .i64 0))) none []]
def l24r2 : List AOper :=
  [AOper.mk (some 6) (.mv (.tmp 5)) none [], AOper.mk (some 7) (.mv (.tmp 0)) none [], AOper.mk (some 8) (.len (.tmp 7)) none [1], AOper.mk (some 9) (.bin .lss (.tmp 6) (.tmp 8)) none [0, 2]]
def l24r3 : List AOper :=
  [AOper.mk (some 12) (.mv (.tmp 0)) none [], AOper.mk (some 13) (.mv (.tmp 5)) none [], AOper.mk (some 14) (.mv (.tmp 1)) none [], AOper.mk (some 15) (.idxA 1 (.tmp 12) (.tmp 13)) none [0, 1, 0, 1, 2], AOper.mk none (.store 1 (.tmp 15) (.tmp 14)) none [3, 2, 0, 1, 2]]
def l24r4 : List AOper :=
  [AOper.mk (some 16) (.mv (.tmp 1)) none [], AOper.mk (some 17) (.bin .add (.tmp 16) (.const (.int .i64 1))) none [0], AOper.mk (some 1) (.mv (.tmp 17)) none [1, 0, 1]]
def l24r5 : List AOper :=
  [AOper.mk (some 10) (.mv (.tmp 5)) none [], AOper.mk (some 11) (.bin .add (.tmp 10) (.const (.int .i64 1))) none [0], AOper.mk (some 5) (.mv (.tmp 11)) none [1, 0, 1]]
def l24r6 : List AOper :=
  [AOper.mk (some 18) (.mv (.tmp 1)) none [], AOper.mk (some 4) (.mv (.tmp 18)) none [0, 0]]
def l24 : AFn :=
  (AFn.mk 19 2 (ACode.seq (ACode.reg l24r0) (ACode.seq (ACode.seq (ACode.reg l24r1) (ACode.block 0 (ACode.loop (ACode.seq (ACode.seq (ACode.reg l24r2) (ACode.cond (.tmp 9) ACode.skip (ACode.exit 0))) (ACode.seq (ACode.block 1 (ACode.seq (ACode.reg l24r3) (ACode.reg l24r4))) (ACode.reg l24r5)))))) (ACode.seq (ACode.reg l24r6) ACode.ret))) [ARes.tmp 4])
theorem l24_eq : lowFn Try.prog 24 = some l24 := by kernel_rfl
def l29r0 : List AOper :=
  [AOper.mk (some 3) (.box (.tmp 0)) none [], AOper.mk (some 6) (.alloc [.int .i64 0, .slice none 0 0, .slice none 0 0]) none [], AOper.mk (some 7) (.mv (.const (.bool false))) none []]
def l29r1a : List AOper :=
  [AOper.mk (some 9) (.load true 3 (.tmp 3)) none [], AOper.mk (some 10) (.call 34 [.tmp 9]) none [0], AOper.mk (some 11) (.un .not (.tmp 10)) none [1], AOper.mk (some 12) (.mv (.tmp 11)) none [2, 1], AOper.mk (some 13) (.load true 3 (.tmp 3)) (some (12, false)) [3], AOper.mk (some 14) (.mv (.tmp 1)) (some (12, false)) [3], AOper.mk (some 15) (.call 35 [.tmp 13, .tmp 14]) (some (12, false)) [4, 5, 3, 3], AOper.mk (some 16) (.un .not (.tmp 15)) (some (12, false)) [6, 3], AOper.mk (some 17) (.pick (.tmp 12) (.const (.bool true)) (.tmp 16)) none [3, 7], AOper.mk (some 18) (.mv (.tmp 17)) none [8, 6], AOper.mk (some 19) (.mv (.tmp 2)) (some (18, false)) [9], AOper.mk (some 20) (.fld 1 (.tmp 3)) (some (18, false)) [9], AOper.mk (some 21) (.load false 1 (.tmp 20)) (some (18, false)) [11, 9], AOper.mk (some 22) (.mv (.tmp 1)) (some (18, false)) [9], AOper.mk (some 23) (.idxA 1 (.tmp 21) (.tmp 22)) (some (18, false)) [12, 13, 9], AOper.mk (some 24) (.load false 1 (.tmp 23)) (some (18, false)) [14, 9], AOper.mk (some 25) (.un .neg (.tmp 24)) (some (18, false)) [15, 9], AOper.mk (some 26) (.fld 1 (.tmp 3)) (some (18, false)) [9], AOper.mk (some 27) (.load false 1 (.tmp 26)) (some (18, false)) [17, 9], AOper.mk (some 28) (.mv (.tmp 1)) (some (18, false)) [9], AOper.mk (some 29) (.idxA 1 (.tmp 27) (.tmp 28)) (some (18, false)) [18, 19, 9], AOper.mk (some 30) (.load false 1 (.tmp 29)) (some (18, false)) [20, 9], AOper.mk (some 31) (.bin .sub (.tmp 30) (.const (.int .i64 1))) (some (18, false)) [21, 9]]
def l29r1b : List AOper :=
  [AOper.mk (some 32) (.call 52 [.tmp 19, .tmp 25, .tmp 31]) (some (18, false)) [10, 16, 22, 9, 9], AOper.mk (some 33) (.un .not (.tmp 32)) (some (18, false)) [23, 9], AOper.mk (some 34) (.pick (.tmp 18) (.const (.bool true)) (.tmp 33)) none [9, 24]]
def l29r1 : List AOper := l29r1a ++ l29r1b
def l29r2 : List AOper :=
  [AOper.mk (some 35) (.build [.int .i64 0, .slice none 0 0, .slice none 0 0] []) none [], AOper.mk none (.store 3 (.tmp 6) (.tmp 35)) none [0, 0], AOper.mk (some 7) (.mv (.const (.bool false))) none [1, 0, 1]]
def l29r3 : List AOper :=
  [AOper.mk (some 36) (.mv (.tmp 2)) none [], AOper.mk (some 37) (.bin .lss (.tmp 36) (.const (.int .i64 0))) none [0]]
def l29r4 : List AOper :=
  [AOper.mk (some 38) (.mv (.tmp 2)) none [], AOper.mk (some 39) (.fld 1 (.tmp 3)) none [], AOper.mk (some 40) (.load false 1 (.tmp 39)) none [1], AOper.mk (some 41) (.mv (.tmp 1)) none [], AOper.mk (some 42) (.idxA 1 (.tmp 40) (.tmp 41)) none [2, 3], AOper.mk (some 43) (.load false 1 (.tmp 42)) none [4], AOper.mk (some 44) (.bin .add (.tmp 38) (.tmp 43)) none [0, 5], AOper.mk (some 2) (.mv (.tmp 44)) none [6, 0, 1, 2, 3, 4, 5, 6]]
def l29r5a : List AOper :=
  [AOper.mk (some 45) (.fld 0 (.tmp 3)) none [], AOper.mk (some 46) (.load false 1 (.tmp 45)) none [0], AOper.mk (some 47) (.mv (.tmp 2)) none [], AOper.mk (some 48) (.fld 2 (.tmp 3)) none [], AOper.mk (some 49) (.load false 1 (.tmp 48)) none [3], AOper.mk (some 50) (.mv (.tmp 1)) none [], AOper.mk (some 51) (.idxA 1 (.tmp 49) (.tmp 50)) none [4, 5], AOper.mk (some 52) (.load false 1 (.tmp 51)) none [6], AOper.mk (some 53) (.bin .mul (.tmp 47) (.tmp 52)) none [2, 7], AOper.mk (some 54) (.bin .add (.tmp 46) (.tmp 53)) none [1, 8], AOper.mk (some 55) (.fld 1 (.tmp 3)) none [], AOper.mk (some 56) (.load false 1 (.tmp 55)) none [10], AOper.mk (some 57) (.mv (.tmp 1)) none [], AOper.mk (some 58) (.call 62 [.tmp 56, .tmp 57]) none [11, 12], AOper.mk (some 59) (.fld 2 (.tmp 3)) none [], AOper.mk (some 60) (.load false 1 (.tmp 59)) none [14], AOper.mk (some 61) (.mv (.tmp 1)) none [], AOper.mk (some 62) (.call 62 [.tmp 60, .tmp 61]) none [15, 16, 13], AOper.mk (some 63) (.build [.int .i64 0, .slice none 0 0, .slice none 0 0] [(0, 1, .tmp 54), (1, 1, .tmp 58), (2, 1, .tmp 62)]) none [9, 13, 17], AOper.mk (some 8) (.alloc [.int .i64 0, .slice none 0 0, .slice none 0 0]) none []]
def l29r5b : List AOper :=
  [AOper.mk none (.store 3 (.tmp 8) (.tmp 63)) none [19, 18, 17, 0, 1, 2, 3, 4, 5, 6, 7, 8, 9, 10, 11, 12, 13, 14, 15, 16, 17, 18, 19]]
def l29r5 : List AOper := l29r5a ++ l29r5b
def l29r6 : List AOper :=
  [AOper.mk (some 64) (.load true 3 (.tmp 8)) none [], AOper.mk (some 65) (.call 63 [.tmp 64]) none [0], AOper.mk (some 66) (.call 37 [.tmp 65]) none [1, 1], AOper.mk (some 67) (.extract (.tmp 66) 0) none [2], AOper.mk (some 68) (.extract (.tmp 66) 1) none [2], AOper.mk none (.store 3 (.tmp 6) (.tmp 67)) none [3, 2, 0, 1, 2, 3, 4], AOper.mk (some 7) (.mv (.tmp 68)) none [4, 5, 0, 1, 2, 3, 4, 5]]
def l29 : AFn :=
  (AFn.mk 69 3 (ACode.seq (ACode.reg l29r0) (ACode.seq (ACode.seq (ACode.draw l29r1) (ACode.cond (.tmp 34) (ACode.seq (ACode.reg l29r2) ACode.ret) ACode.skip)) (ACode.seq (ACode.seq (ACode.reg l29r3) (ACode.cond (.tmp 37) (ACode.reg l29r4) ACode.skip)) (ACode.seq (ACode.draw l29r5) (ACode.seq (ACode.reg l29r6) ACode.ret))))) [ARes.cell 6 true 3, ARes.tmp 7])
theorem l29_eq : lowFn Try.prog 29 = some l29 := by kernel_rfl
def l30r0 : List AOper :=
  [AOper.mk (some 3) (.box (.tmp 0)) none [], AOper.mk (some 6) (.alloc [.int .i64 0, .slice none 0 0, .slice none 0 0]) none [], AOper.mk (some 7) (.mv (.const (.bool false))) none []]
def l30r1 : List AOper :=
  [AOper.mk (some 11) (.load true 3 (.tmp 3)) none [], AOper.mk (some 12) (.mv (.tmp 1)) none [], AOper.mk (some 13) (.call 39 [.tmp 11, .tmp 12]) none [0, 1], AOper.mk (some 14) (.un .not (.tmp 13)) none [2]]
def l30r2 : List AOper :=
  [AOper.mk (some 15) (.build [.int .i64 0, .slice none 0 0, .slice none 0 0] []) none [], AOper.mk none (.store 3 (.tmp 6) (.tmp 15)) none [0, 0], AOper.mk (some 7) (.mv (.const (.bool false))) none [1, 0, 1]]
def l30r3 : List AOper :=
  [AOper.mk (some 17) (.fld 1 (.tmp 3)) none [], AOper.mk (some 18) (.load false 1 (.tmp 17)) none [0], AOper.mk (some 19) (.mv (.tmp 1)) none [], AOper.mk (some 20) (.idxA 1 (.tmp 18) (.tmp 19)) none [1, 2], AOper.mk (some 21) (.load false 1 (.tmp 20)) none [3], AOper.mk (some 22) (.build [.int .i64 0, .int .i64 0, .int .i64 0] [(0, 1, .const (.int .i64 0)), (1, 1, .tmp 21), (2, 1, .const (.int .i64 1))]) none [4], AOper.mk (some 23) (.mv (.tmp 2)) none [], AOper.mk (some 24) (.call 64 [.tmp 22, .tmp 23]) none [5, 6], AOper.mk (some 16) (.mv (.tmp 24)) none [7], AOper.mk (some 25) (.extract (.tmp 16) 0) none [8], AOper.mk (some 26) (.extract (.tmp 16) 1) none [8], AOper.mk (some 8) (.mv (.tmp 25)) none [9, 7, 0, 1, 2, 3, 4, 5, 6, 7, 8, 9], AOper.mk (some 9) (.mv (.tmp 26)) none [10, 11, 0, 1, 2, 3, 4, 5, 6, 7, 8, 9, 10, 11]]
def l30r4 : List AOper :=
  [AOper.mk (some 27) (.mv (.tmp 9)) none [], AOper.mk (some 28) (.un .not (.tmp 27)) none [0]]
def l30r5 : List AOper :=
  [AOper.mk (some 29) (.build [.int .i64 0, .slice none 0 0, .slice none 0 0] []) none [], AOper.mk none (.store 3 (.tmp 6) (.tmp 29)) none [0, 0], AOper.mk (some 7) (.mv (.const (.bool false))) none [1, 0, 1]]
def l30r6 : List AOper :=
  [AOper.mk (some 30) (.load true 3 (.tmp 3)) none [], AOper.mk (some 31) (.call 42 [.tmp 30]) none [0], AOper.mk (some 10) (.alloc [.int .i64 0, .slice none 0 0, .slice none 0 0, .int .i64 0, .int .i64 0, .int .i64 0, .int .i64 0, .slice none 0 0]) none [], AOper.mk none (.store 8 (.tmp 10) (.tmp 31)) none [2, 1, 1, 0, 1, 2]]
def l30r7 : List AOper :=
  [AOper.mk (some 32) (.mv (.tmp 1)) none [], AOper.mk (some 33) (.mv (.tmp 8)) none [], AOper.mk (some 34) (.fld 3 (.tmp 10)) none [], AOper.mk (some 35) (.idxP 1 4 (.tmp 34) (.tmp 32)) none [2, 0, 0, 1], AOper.mk none (.store 1 (.tmp 35) (.tmp 33)) none [3, 1, 0, 1]]
def l30r8 : List AOper :=
  [AOper.mk (some 36) (.fld 7 (.tmp 10)) none [], AOper.mk (some 37) (.load false 1 (.tmp 36)) none [0], AOper.mk (some 38) (.mv (.tmp 1)) none [], AOper.mk (some 39) (.mv (.tmp 1)) none [], AOper.mk (some 40) (.bin .add (.tmp 39) (.const (.int .i64 1))) none [3], AOper.mk (some 41) (.call 65 [.tmp 37, .tmp 38, .tmp 40]) none [1, 2, 4], AOper.mk (some 42) (.fld 7 (.tmp 10)) none [0, 1, 2, 3, 4, 5], AOper.mk none (.store 1 (.tmp 42) (.tmp 41)) none [6, 5, 5, 0, 1, 2, 3, 4, 5]]
def l30r9 : List AOper :=
  [AOper.mk (some 43) (.load true 8 (.tmp 10)) none [], AOper.mk (some 44) (.call 45 [.tmp 43]) none [0], AOper.mk none (.store 3 (.tmp 6) (.tmp 44)) none [1, 1, 0, 1], AOper.mk (some 7) (.mv (.const (.bool true))) none [2, 0, 1, 2]]
def l30 : AFn :=
  (AFn.mk 45 3 (ACode.seq (ACode.reg l30r0) (ACode.seq (ACode.seq (ACode.reg l30r1) (ACode.cond (.tmp 14) (ACode.seq (ACode.reg l30r2) ACode.ret) ACode.skip)) (ACode.seq (ACode.reg l30r3) (ACode.seq (ACode.seq (ACode.reg l30r4) (ACode.cond (.tmp 28) (ACode.seq (ACode.reg l30r5) ACode.ret) ACode.skip)) (ACode.seq (ACode.reg l30r6) (ACode.seq (ACode.reg l30r7) (ACode.seq (ACode.reg l30r8) (ACode.seq (ACode.reg l30r9) ACode.ret)))))))) [ARes.cell 6 true 3, ARes.tmp 7])
theorem l30_eq : lowFn Try.prog 30 = some l30 := by kernel_rfl
def l33r0 : List AOper :=
  [AOper.mk (some 4) (.mv (.const (.int .i64 0))) none []]
def l33r1 : List AOper :=
  [AOper.mk (some 5) (.mv (.tmp 1)) none [], AOper.mk (some 6) (.mv (.tmp 0)) none [], AOper.mk (some 7) (.len (.tmp 6)) none [1], AOper.mk (some 8) (.bin .sub (.tmp 5) (.tmp 7)) none [0, 2], AOper.mk (some 1) (.mv (.tmp 8)) none [3, 0, 1, 2, 3]]
def l33r2 : List AOper :=
  [AOper.mk (some 9) (.mv (.tmp 1)) none [], AOper.mk (some 10) (.bin .lss (.tmp 9) (.const (.int .i64 0))) none [0]]
def l33r3 : List AOper :=
  [AOper.mk (some 4) (.mv (.const (.int .i64 (-1)))) none []]
def l33r4 : List AOper :=
  [AOper.mk (some 11) (.mv (.tmp 1)) none [], AOper.mk (some 4) (.mv (.tmp 11)) none [0, 0]]
def l33 : AFn :=
  (AFn.mk 12 2 (ACode.seq (ACode.reg l33r0) (ACode.seq (ACode.reg l33r1) (ACode.seq (ACode.seq (ACode.reg l33r2) (ACode.cond (.tmp 10) (ACode.seq (ACode.reg l33r3) ACode.ret) ACode.skip)) (ACode.seq (ACode.reg l33r4) ACode.ret)))) [ARes.tmp 4])
theorem l33_eq : lowFn Try.prog 33 = some l33 := by kernel_rfl
def l34r0 : List AOper :=
  [AOper.mk (some 1) (.box (.tmp 0)) none [], AOper.mk (some 2) (.mv (.const (.bool false))) none []]
def l34r1 : List AOper :=
  [AOper.mk (some 3) (.fld 1 (.tmp 1)) none [], AOper.mk (some 4) (.load false 1 (.tmp 3)) none [0], AOper.mk (some 5) (.call 54 [.tmp 4]) none [1], AOper.mk (some 6) (.mv (.tmp 5)) none [2, 2], AOper.mk (some 7) (.fld 2 (.tmp 1)) (some (6, true)) [3], AOper.mk (some 8) (.load false 1 (.tmp 7)) (some (6, true)) [4, 3], AOper.mk (some 9) (.len (.tmp 8)) (some (6, true)) [5, 3], AOper.mk (some 10) (.fld 1 (.tmp 1)) (some (6, true)) [3], AOper.mk (some 11) (.load false 1 (.tmp 10)) (some (6, true)) [7, 3], AOper.mk (some 12) (.len (.tmp 11)) (some (6, true)) [8, 3], AOper.mk (some 13) (.bin .eql (.tmp 9) (.tmp 12)) (some (6, true)) [6, 9, 3], AOper.mk (some 14) (.pick (.tmp 6) (.tmp 13) (.const (.bool false))) none [3, 10], AOper.mk (some 15) (.mv (.tmp 14)) none [11, 3], AOper.mk (some 16) (.fld 2 (.tmp 1)) (some (15, true)) [12], AOper.mk (some 17) (.load false 1 (.tmp 16)) (some (15, true)) [13, 12], AOper.mk (some 18) (.call 69 [.tmp 17, .const (.int .i64 (-60)), .const (.int .i64 60)]) (some (15, true)) [14, 12, 12], AOper.mk (some 19) (.pick (.tmp 15) (.tmp 18) (.const (.bool false))) none [12, 15], AOper.mk (some 20) (.mv (.tmp 19)) none [16, 15], AOper.mk (some 21) (.fld 0 (.tmp 1)) (some (20, true)) [17], AOper.mk (some 22) (.load false 1 (.tmp 21)) (some (20, true)) [18, 17], AOper.mk (some 23) (.call 52 [.tmp 22, .const (.int .i64 0), .const (.int .i64 60)]) (some (20, true)) [19, 17, 17], AOper.mk (some 24) (.pick (.tmp 20) (.tmp 23) (.const (.bool false))) none [17, 20], AOper.mk (some 25) (.mv (.tmp 24)) none [21, 20], AOper.mk (some 26) (.fld 1 (.tmp 1)) (some (25, true)) [22], AOper.mk (some 27) (.load false 1 (.tmp 26)) (some (25, true)) [23, 22], AOper.mk (some 28) (.call 70 [.tmp 27]) (some (25, true)) [24, 22, 22], AOper.mk (some 29) (.bin .eql (.tmp 28) (.const (.int .i64 0))) (some (25, true)) [25, 22], AOper.mk (some 30) (.mv (.tmp 29)) (some (25, true)) [26, 25, 22], AOper.mk (some 31) (.load true 3 (.tmp 1)) (some (30, false)) [27], AOper.mk (some 32) (.call 71 [.tmp 31]) (some (30, false)) [28, 27, 27], AOper.mk (some 33) (.call 69 [.tmp 32, .const (.int .i64 0), .const (.int .i64 59)]) (some (30, false)) [29, 29, 27], AOper.mk (some 34) (.pick (.tmp 30) (.const (.bool true)) (.tmp 33)) (some (25, true)) [27, 30, 22], AOper.mk (some 35) (.pick (.tmp 25) (.tmp 34) (.const (.bool false))) none [22, 31], AOper.mk (some 2) (.mv (.tmp 35)) none [32, 30, 0, 1, 2, 3, 4, 5, 6, 7, 8, 9, 10, 11, 12, 13, 14, 15, 16, 17, 18, 19, 20, 21, 22, 23, 24, 25, 26, 27, 28, 29, 30, 31, 32]]
def l34 : AFn :=
  (AFn.mk 36 1 (ACode.seq (ACode.reg l34r0) (ACode.seq (ACode.reg l34r1) ACode.ret)) [ARes.tmp 2])
theorem l34_eq : lowFn Try.prog 34 = some l34 := by kernel_rfl
def l35r0 : List AOper :=
  [AOper.mk (some 2) (.box (.tmp 0)) none [], AOper.mk (some 4) (.mv (.const (.bool false))) none []]
def l35r1 : List AOper :=
  [AOper.mk (some 5) (.mv (.tmp 1)) none [], AOper.mk (some 6) (.fld 1 (.tmp 2)) none [], AOper.mk (some 7) (.load false 1 (.tmp 6)) none [1], AOper.mk (some 8) (.len (.tmp 7)) none [2], AOper.mk (some 9) (.bin .sub (.tmp 8) (.const (.int .i64 1))) none [3], AOper.mk (some 10) (.call 52 [.tmp 5, .const (.int .i64 0), .tmp 9]) none [0, 4], AOper.mk (some 4) (.mv (.tmp 10)) none [5, 5, 0, 1, 2, 3, 4, 5]]
def l35 : AFn :=
  (AFn.mk 11 2 (ACode.seq (ACode.reg l35r0) (ACode.seq (ACode.reg l35r1) ACode.ret)) [ARes.tmp 4])
theorem l35_eq : lowFn Try.prog 35 = some l35 := by kernel_rfl
def l37r0 : List AOper :=
  [AOper.mk (some 1) (.box (.tmp 0)) none [], AOper.mk (some 2) (.alloc [.int .i64 0, .slice none 0 0, .slice none 0 0]) none [], AOper.mk (some 3) (.mv (.const (.bool false))) none []]
def l37r1 : List AOper :=
  [AOper.mk (some 4) (.load true 3 (.tmp 1)) none [], AOper.mk (some 5) (.call 34 [.tmp 4]) none [0], AOper.mk (some 6) (.un .not (.tmp 5)) none [1]]
def l37r2 : List AOper :=
  [AOper.mk (some 7) (.build [.int .i64 0, .slice none 0 0, .slice none 0 0] []) none [], AOper.mk none (.store 3 (.tmp 2) (.tmp 7)) none [0, 0], AOper.mk (some 3) (.mv (.const (.bool false))) none [1, 0, 1]]
def l37r3 : List AOper :=
  [AOper.mk (some 8) (.load true 3 (.tmp 1)) none [], AOper.mk (some 9) (.call 53 [.tmp 8]) none [0], AOper.mk none (.store 3 (.tmp 2) (.tmp 9)) none [1, 1, 0, 1], AOper.mk (some 3) (.mv (.const (.bool true))) none [2, 0, 1, 2]]
def l37 : AFn :=
  (AFn.mk 10 1 (ACode.seq (ACode.reg l37r0) (ACode.seq (ACode.seq (ACode.reg l37r1) (ACode.cond (.tmp 6) (ACode.seq (ACode.reg l37r2) ACode.ret) ACode.skip)) (ACode.seq (ACode.reg l37r3) ACode.ret))) [ARes.cell 2 true 3, ARes.tmp 3])
theorem l37_eq : lowFn Try.prog 37 = some l37 := by kernel_rfl
def l39r0 : List AOper :=
  [AOper.mk (some 2) (.box (.tmp 0)) none [], AOper.mk (some 4) (.mv (.const (.bool false))) none []]
def l39r1 : List AOper :=
  [AOper.mk (some 5) (.load true 3 (.tmp 2)) none [], AOper.mk (some 6) (.call 49 [.tmp 5]) none [0], AOper.mk (some 7) (.mv (.tmp 6)) none [1, 1], AOper.mk (some 8) (.mv (.tmp 1)) (some (7, true)) [2], AOper.mk (some 9) (.fld 1 (.tmp 2)) (some (7, true)) [2], AOper.mk (some 10) (.load false 1 (.tmp 9)) (some (7, true)) [4, 2], AOper.mk (some 11) (.len (.tmp 10)) (some (7, true)) [5, 2], AOper.mk (some 12) (.bin .sub (.tmp 11) (.const (.int .i64 1))) (some (7, true)) [6, 2], AOper.mk (some 13) (.call 67 [.tmp 8, .tmp 12]) (some (7, true)) [3, 7, 2, 2], AOper.mk (some 14) (.pick (.tmp 7) (.tmp 13) (.const (.bool false))) none [2, 8], AOper.mk (some 4) (.mv (.tmp 14)) none [9, 8, 0, 1, 2, 3, 4, 5, 6, 7, 8, 9]]
def l39 : AFn :=
  (AFn.mk 15 2 (ACode.seq (ACode.reg l39r0) (ACode.seq (ACode.reg l39r1) ACode.ret)) [ARes.tmp 4])
theorem l39_eq : lowFn Try.prog 39 = some l39 := by kernel_rfl
def l42r0 : List AOper :=
  [AOper.mk (some 1) (.box (.tmp 0)) none [], AOper.mk (some 2) (.alloc [.int .i64 0, .slice none 0 0, .slice none 0 0, .int .i64 0, .int .i64 0, .int .i64 0, .int .i64 0, .slice none 0 0]) none []]
def l42r1 : List AOper :=
  [AOper.mk (some 6) (.load true 3 (.tmp 1)) none [], AOper.mk (some 7) (.build [.int .i64 0, .slice none 0 0, .slice none 0 0, .int .i64 0, .int .i64 0, .int .i64 0, .int .i64 0, .slice none 0 0] [(0, 3, .tmp 6)]) none [0], AOper.mk (some 3) (.alloc [.int .i64 0, .slice none 0 0, .slice none 0 0, .int .i64 0, .int .i64 0, .int .i64 0, .int .i64 0, .slice none 0 0]) none [], AOper.mk none (.store 8 (.tmp 3) (.tmp 7)) none [2, 1, 0, 1, 2]]
def l42r2 : List AOper :=
  [AOper.mk (some 8) (.fld 1 (.tmp 1)) none [], AOper.mk (some 9) (.load false 1 (.tmp 8)) none [0], AOper.mk (some 10) (.len (.tmp 9)) none [1], AOper.mk (some 11) (.mv (.const (.int .i64 0))) none []]
def l42r3 : List AOper :=
  [AOper.mk (some 12) (.bin .lss (.tmp 11) (.tmp 10)) none []]
def l42r4 : List AOper :=
  [AOper.mk (some 13) (.mv (.tmp 11)) none [], AOper.mk (some 14) (.idxA 1 (.tmp 9) (.tmp 11)) none [], AOper.mk (some 15) (.load false 1 (.tmp 14)) none [1], AOper.mk (some 4) (.mv (.tmp 13)) none [0, 0, 1, 2], AOper.mk (some 5) (.mv (.tmp 15)) none [2, 3, 0, 1, 2, 3]]
def l42r5a : List AOper :=
  [AOper.mk (some 16) (.fld 7 (.tmp 3)) none [], AOper.mk (some 17) (.load false 1 (.tmp 16)) none [0], AOper.mk (some 18) (.mv (.tmp 5)) none [], AOper.mk (some 19) (.fld 2 (.tmp 1)) none [], AOper.mk (some 20) (.load false 1 (.tmp 19)) none [3], AOper.mk (some 21) (.mv (.tmp 4)) none [], AOper.mk (some 22) (.idxA 1 (.tmp 20) (.tmp 21)) none [4, 5], AOper.mk (some 23) (.load false 1 (.tmp 22)) none [6], AOper.mk (some 24) (.build [.int .i64 0, .int .i64 0] [(0, 1, .tmp 18), (1, 1, .tmp 23)]) none [2, 7], AOper.mk (some 25) (.bslice 2 [.int .i64 0, .int .i64 0] [(0, .tmp 24)] 1) none [8]]
def l42r5b : List AOper :=
  [AOper.mk (some 26) (.append 2 (.tmp 17) (.tmp 25)) none [1, 9], AOper.mk (some 27) (.fld 7 (.tmp 3)) none [0, 1, 2, 3, 4, 5, 6, 7, 8, 9, 10], AOper.mk none (.store 1 (.tmp 27) (.tmp 26)) none [11, 10, 10, 0, 1, 2, 3, 4, 5, 6, 7, 8, 9, 10]]
def l42r5 : List AOper := l42r5a ++ l42r5b
def l42r6 : List AOper :=
  [AOper.mk (some 28) (.bin .add (.tmp 11) (.const (.int .i64 1))) none [], AOper.mk (some 11) (.mv (.tmp 28)) none [0]]
def l42r7 : List AOper :=
  [AOper.mk (some 29) (.load true 8 (.tmp 3)) none [], AOper.mk none (.store 8 (.tmp 2) (.tmp 29)) none [0, 0]]
def l42 : AFn :=
  (AFn.mk 30 1 (ACode.seq (ACode.reg l42r0) (ACode.seq (ACode.reg l42r1) (ACode.seq (ACode.seq (ACode.reg l42r2) (ACode.block 0 (ACode.loop (ACode.seq (ACode.reg l42r3) (ACode.seq (ACode.cond (.tmp 12) ACode.skip (ACode.exit 0)) (ACode.seq (ACode.block 1 (ACode.seq (ACode.reg l42r4) (ACode.draw l42r5))) (ACode.reg l42r6))))))) (ACode.seq (ACode.reg l42r7) ACode.ret)))) [ARes.cell 2 true 8])
theorem l42_eq : lowFn Try.prog 42 = some l42 := by kernel_rfl
def l44r0 : List AOper :=
  [AOper.mk (some 1) (.box (.tmp 0)) none [], AOper.mk (some 2) (.mv (.const (.int .i64 0))) none []]
def l44r1a : List AOper :=
  [AOper.mk (some 5) (.fld 1 (.tmp 1)) none [], AOper.mk (some 6) (.load false 1 (.tmp 5)) none [0], AOper.mk (some 7) (.fld 0 (.tmp 1)) none [], AOper.mk (some 8) (.load false 1 (.tmp 7)) none [2], AOper.mk (some 9) (.bin .sub (.tmp 6) (.tmp 8)) none [1, 3], AOper.mk (some 10) (.fld 2 (.tmp 1)) none [], AOper.mk (some 11) (.load false 1 (.tmp 10)) none [5], AOper.mk (some 3) (.mv (.tmp 9)) none [4, 0, 1, 2, 3, 4]]
def l44r1b : List AOper :=
  [AOper.mk (some 4) (.mv (.tmp 11)) none [6, 7, 0, 1, 2, 3, 4, 5, 6, 7]]
def l44r1 : List AOper := l44r1a ++ l44r1b
def l44r2 : List AOper :=
  [AOper.mk (some 12) (.mv (.tmp 4)) none [], AOper.mk (some 13) (.bin .lss (.tmp 12) (.const (.int .i64 0))) none [0]]
def l44r3 : List AOper :=
  [AOper.mk (some 14) (.mv (.tmp 3)) none [], AOper.mk (some 15) (.un .neg (.tmp 14)) none [0], AOper.mk (some 16) (.mv (.tmp 4)) none [], AOper.mk (some 17) (.un .neg (.tmp 16)) none [2], AOper.mk (some 3) (.mv (.tmp 15)) none [1, 0, 1], AOper.mk (some 4) (.mv (.tmp 17)) none [3, 4, 0, 1, 2, 3, 4]]
def l44r4 : List AOper :=
  [AOper.mk (some 18) (.mv (.tmp 3)) none [], AOper.mk (some 19) (.bin .leq (.tmp 18) (.const (.int .i64 0))) none [0]]
def l44r5 : List AOper :=
  [AOper.mk (some 2) (.mv (.const (.int .i64 0))) none []]
def l44r6 : List AOper :=
  [AOper.mk (some 20) (.mv (.tmp 3)) none [], AOper.mk (some 21) (.mv (.tmp 4)) none [], AOper.mk (some 22) (.bin .add (.tmp 20) (.tmp 21)) none [0, 1], AOper.mk (some 23) (.bin .sub (.tmp 22) (.const (.int .i64 1))) none [2], AOper.mk (some 24) (.mv (.tmp 4)) none [], AOper.mk (some 25) (.bin .quo (.tmp 23) (.tmp 24)) none [3, 4], AOper.mk (some 2) (.mv (.tmp 25)) none [5, 0, 1, 2, 3, 4, 5]]
def l44 : AFn :=
  (AFn.mk 26 1 (ACode.seq (ACode.reg l44r0) (ACode.seq (ACode.draw l44r1) (ACode.seq (ACode.seq (ACode.reg l44r2) (ACode.cond (.tmp 13) (ACode.reg l44r3) ACode.skip)) (ACode.seq (ACode.seq (ACode.reg l44r4) (ACode.cond (.tmp 19) (ACode.seq (ACode.reg l44r5) ACode.ret) ACode.skip)) (ACode.seq (ACode.reg l44r6) ACode.ret))))) [ARes.tmp 2])
theorem l44_eq : lowFn Try.prog 44 = some l44 := by kernel_rfl
def l45r0 : List AOper :=
  [AOper.mk (some 1) (.box (.tmp 0)) none [], AOper.mk (some 2) (.alloc [.int .i64 0, .slice none 0 0, .slice none 0 0]) none []]
def l45r1 : List AOper :=
  [AOper.mk (some 4) (.load true 8 (.tmp 1)) none [], AOper.mk (some 5) (.call 51 [.tmp 4]) none [0], AOper.mk (some 3) (.alloc [.int .i64 0, .slice none 0 0, .slice none 0 0]) none [], AOper.mk none (.store 3 (.tmp 3) (.tmp 5)) none [2, 1, 1, 0, 1, 2]]
def l45r2 : List AOper :=
  [AOper.mk (some 6) (.load true 3 (.tmp 3)) none [], AOper.mk (some 7) (.call 58 [.tmp 6]) none [0], AOper.mk (some 8) (.bin .eql (.tmp 7) (.const (.int .i64 0))) none [1]]
def l45r3a : List AOper :=
  [AOper.mk (some 9) (.fld 1 (.tmp 3)) none [], AOper.mk (some 10) (.load false 1 (.tmp 9)) none [0], AOper.mk (some 11) (.len (.tmp 10)) none [1], AOper.mk (some 12) (.mkslice 1 [.int .i64 0] (.tmp 11) (.tmp 11)) none [2, 2], AOper.mk (some 13) (.fld 0 (.tmp 3)) none [0, 1], AOper.mk none (.store 1 (.tmp 13) (.const (.int .i64 0))) none [4, 0, 1]]
def l45r3b : List AOper :=
  [AOper.mk (some 14) (.fld 2 (.tmp 3)) none [0, 1, 2, 3, 4, 5], AOper.mk none (.store 1 (.tmp 14) (.tmp 12)) none [6, 3, 5, 0, 1, 2, 3, 4, 5]]
def l45r3 : List AOper := l45r3a ++ l45r3b
def l45r4 : List AOper :=
  [AOper.mk (some 15) (.load true 3 (.tmp 3)) none [], AOper.mk none (.store 3 (.tmp 2) (.tmp 15)) none [0, 0]]
def l45 : AFn :=
  (AFn.mk 16 1 (ACode.seq (ACode.reg l45r0) (ACode.seq (ACode.reg l45r1) (ACode.seq (ACode.seq (ACode.reg l45r2) (ACode.cond (.tmp 8) (ACode.draw l45r3) ACode.skip)) (ACode.seq (ACode.reg l45r4) ACode.ret)))) [ARes.cell 2 true 3])
theorem l45_eq : lowFn Try.prog 45 = some l45 := by kernel_rfl
def l46r0 : List AOper :=
  [AOper.mk (some 4) (.mv (.const (.int .i64 0))) none []]
def l46r1 : List AOper :=
  [AOper.mk (some 5) (.mv (.const (.int .i64 0))) none []]
def l46r2 : List AOper :=
  [AOper.mk (some 6) (.mv (.tmp 5)) none [], AOper.mk (some 7) (.mv (.tmp 0)) none [], AOper.mk (some 8) (.len (.tmp 7)) none [1], AOper.mk (some 9) (.bin .lss (.tmp 6) (.tmp 8)) none [0, 2]]
def l46r3 : List AOper :=
  [AOper.mk (some 12) (.mv (.tmp 0)) none [], AOper.mk (some 13) (.mv (.tmp 5)) none [], AOper.mk (some 14) (.idxA 1 (.tmp 12) (.tmp 13)) none [0, 1], AOper.mk (some 15) (.load false 1 (.tmp 14)) none [2], AOper.mk (some 16) (.mv (.tmp 1)) none [], AOper.mk (some 17) (.bin .neq (.tmp 15) (.tmp 16)) none [3, 4]]
def l46r4 : List AOper :=
  [AOper.mk (some 4) (.mv (.const (.int .i64 (-1)))) none []]
def l46r5 : List AOper :=
  [AOper.mk (some 18) (.mv (.tmp 1)) none [], AOper.mk (some 19) (.bin .add (.tmp 18) (.const (.int .i64 1))) none [0], AOper.mk (some 1) (.mv (.tmp 19)) none [1, 0, 1]]
def l46r6 : List AOper :=
  [AOper.mk (some 10) (.mv (.tmp 5)) none [], AOper.mk (some 11) (.bin .add (.tmp 10) (.const (.int .i64 1))) none [0], AOper.mk (some 5) (.mv (.tmp 11)) none [1, 0, 1]]
def l46r7 : List AOper :=
  [AOper.mk (some 20) (.mv (.tmp 1)) none [], AOper.mk (some 4) (.mv (.tmp 20)) none [0, 0]]
def l46 : AFn :=
  (AFn.mk 21 2 (ACode.seq (ACode.reg l46r0) (ACode.seq (ACode.seq (ACode.reg l46r1) (ACode.block 0 (ACode.loop (ACode.seq (ACode.seq (ACode.reg l46r2) (ACode.cond (.tmp 9) ACode.skip (ACode.exit 0))) (ACode.seq (ACode.block 1 (ACode.seq (ACode.seq (ACode.reg l46r3) (ACode.cond (.tmp 17) (ACode.seq (ACode.reg l46r4) ACode.ret) ACode.skip)) (ACode.reg l46r5))) (ACode.reg l46r6)))))) (ACode.seq (ACode.reg l46r7) ACode.ret))) [ARes.tmp 4])
theorem l46_eq : lowFn Try.prog 46 = some l46 := by kernel_rfl
def l49r0 : List AOper :=
  [AOper.mk (some 1) (.box (.tmp 0)) none [], AOper.mk (some 2) (.mv (.const (.bool false))) none []]
def l49r1 : List AOper :=
  [AOper.mk (some 5) (.fld 1 (.tmp 1)) none [], AOper.mk (some 6) (.load false 1 (.tmp 5)) none [0], AOper.mk (some 7) (.call 56 [.tmp 6]) none [1], AOper.mk (some 8) (.un .not (.tmp 7)) none [2], AOper.mk (some 9) (.mv (.tmp 8)) none [3, 2], AOper.mk (some 10) (.fld 2 (.tmp 1)) (some (9, false)) [4], AOper.mk (some 11) (.load false 1 (.tmp 10)) (some (9, false)) [5, 4], AOper.mk (some 12) (.fld 1 (.tmp 1)) (some (9, false)) [4], AOper.mk (some 13) (.load false 1 (.tmp 12)) (some (9, false)) [7, 4], AOper.mk (some 14) (.len (.tmp 13)) (some (9, false)) [8, 4], AOper.mk (some 15) (.call 79 [.tmp 11, .tmp 14]) (some (9, false)) [6, 9, 4, 4], AOper.mk (some 16) (.un .not (.tmp 15)) (some (9, false)) [10, 4], AOper.mk (some 17) (.pick (.tmp 9) (.const (.bool true)) (.tmp 16)) none [4, 11], AOper.mk (some 18) (.mv (.tmp 17)) none [12, 10], AOper.mk (some 19) (.fld 0 (.tmp 1)) (some (18, false)) [13], AOper.mk (some 20) (.load false 1 (.tmp 19)) (some (18, false)) [14, 13], AOper.mk (some 21) (.call 67 [.tmp 20, .const (.int .i64 60)]) (some (18, false)) [15, 13, 13], AOper.mk (some 22) (.un .not (.tmp 21)) (some (18, false)) [16, 13], AOper.mk (some 23) (.pick (.tmp 18) (.const (.bool true)) (.tmp 22)) none [13, 17]]
def l49r2 : List AOper :=
  [AOper.mk (some 2) (.mv (.const (.bool false))) none []]
def l49r3 : List AOper :=
  [AOper.mk (some 25) (.load true 3 (.tmp 1)) none [], AOper.mk (some 26) (.call 80 [.tmp 25]) none [0], AOper.mk (some 24) (.mv (.tmp 26)) none [1], AOper.mk (some 27) (.extract (.tmp 24) 0) none [2], AOper.mk (some 28) (.extract (.tmp 24) 1) none [2], AOper.mk (some 3) (.mv (.tmp 27)) none [3, 1, 0, 1, 2, 3], AOper.mk (some 4) (.mv (.tmp 28)) none [4, 5, 0, 1, 2, 3, 4, 5]]
def l49r4 : List AOper :=
  [AOper.mk (some 29) (.load true 3 (.tmp 1)) none [], AOper.mk (some 30) (.call 58 [.tmp 29]) none [0], AOper.mk (some 31) (.bin .eql (.tmp 30) (.const (.int .i64 0))) none [1], AOper.mk (some 32) (.mv (.tmp 31)) none [2, 1], AOper.mk (some 33) (.mv (.tmp 3)) (some (32, false)) [3], AOper.mk (some 34) (.bin .geq (.tmp 33) (.const (.int .i64 0))) (some (32, false)) [4, 3], AOper.mk (some 35) (.mv (.tmp 34)) (some (32, false)) [5, 3, 3], AOper.mk (some 36) (.mv (.tmp 4)) (some (35, true)) [6], AOper.mk (some 37) (.bin .lss (.tmp 36) (.const (.int .i64 60))) (some (35, true)) [7, 6], AOper.mk (some 38) (.pick (.tmp 35) (.tmp 37) (.const (.bool false))) (some (32, false)) [6, 8, 3], AOper.mk (some 39) (.pick (.tmp 32) (.const (.bool true)) (.tmp 38)) none [3, 9], AOper.mk (some 2) (.mv (.tmp 39)) none [10, 6, 0, 1, 2, 3, 4, 5, 6, 7, 8, 9, 10]]
def l49 : AFn :=
  (AFn.mk 40 1 (ACode.seq (ACode.reg l49r0) (ACode.seq (ACode.seq (ACode.reg l49r1) (ACode.cond (.tmp 23) (ACode.seq (ACode.reg l49r2) ACode.ret) ACode.skip)) (ACode.seq (ACode.reg l49r3) (ACode.seq (ACode.reg l49r4) ACode.ret)))) [ARes.tmp 2])
theorem l49_eq : lowFn Try.prog 49 = some l49 := by kernel_rfl
def l51r0 : List AOper :=
  [AOper.mk (some 1) (.box (.tmp 0)) none [], AOper.mk (some 2) (.alloc [.int .i64 0, .slice none 0 0, .slice none 0 0]) none []]
def l51r1 : List AOper :=
  [AOper.mk (some 6) (.fld 0 (.tmp 1)) none [], AOper.mk (some 7) (.load true 3 (.tmp 6)) none [0], AOper.mk (some 8) (.fld 3 (.tmp 1)) none [], AOper.mk (some 9) (.load true 4 (.tmp 8)) none [2], AOper.mk (some 10) (.call 82 [.tmp 7, .tmp 9]) none [1, 3], AOper.mk (some 11) (.build [.int .i64 0, .slice none 0 0, .slice none 0 0] [(0, 1, .tmp 10)]) none [4], AOper.mk (some 3) (.alloc [.int .i64 0, .slice none 0 0, .slice none 0 0]) none [], AOper.mk none (.store 3 (.tmp 3) (.tmp 11)) none [6, 5, 4, 0, 1, 2, 3, 4, 5, 6]]
def l51r2 : List AOper :=
  [AOper.mk (some 12) (.fld 7 (.tmp 1)) none [], AOper.mk (some 13) (.load false 1 (.tmp 12)) none [0], AOper.mk (some 14) (.len (.tmp 13)) none [1], AOper.mk (some 15) (.mv (.const (.int .i64 0))) none []]
def l51r3 : List AOper :=
  [AOper.mk (some 16) (.bin .lss (.tmp 15) (.tmp 14)) none []]
def l51r4 : List AOper :=
  [AOper.mk (some 17) (.idxA 2 (.tmp 13) (.tmp 15)) none [], AOper.mk (some 18) (.load true 2 (.tmp 17)) none [0], AOper.mk (some 5) (.alloc [.int .i64 0, .int .i64 0]) none [], AOper.mk none (.store 2 (.tmp 5) (.tmp 18)) none [2, 1, 0, 1, 2]]
def l51r5 : List AOper :=
  [AOper.mk (some 19) (.fld 1 (.tmp 3)) none [], AOper.mk (some 20) (.load false 1 (.tmp 19)) none [0], AOper.mk (some 21) (.fld 0 (.tmp 5)) none [], AOper.mk (some 22) (.load false 1 (.tmp 21)) none [2], AOper.mk (some 23) (.bslice 1 [.int .i64 0] [(0, .tmp 22)] 1) none [3], AOper.mk (some 24) (.append 1 (.tmp 20) (.tmp 23)) none [1, 4], AOper.mk (some 25) (.fld 1 (.tmp 3)) none [0, 1, 2, 3, 4, 5], AOper.mk none (.store 1 (.tmp 25) (.tmp 24)) none [6, 5, 5, 0, 1, 2, 3, 4, 5]]
def l51r6 : List AOper :=
  [AOper.mk (some 26) (.fld 2 (.tmp 3)) none [], AOper.mk (some 27) (.load false 1 (.tmp 26)) none [0], AOper.mk (some 28) (.fld 1 (.tmp 5)) none [], AOper.mk (some 29) (.load false 1 (.tmp 28)) none [2], AOper.mk (some 30) (.bslice 1 [.int .i64 0] [(0, .tmp 29)] 1) none [3], AOper.mk (some 31) (.append 1 (.tmp 27) (.tmp 30)) none [1, 4], AOper.mk (some 32) (.fld 2 (.tmp 3)) none [0, 1, 2, 3, 4, 5], AOper.mk none (.store 1 (.tmp 32) (.tmp 31)) none [6, 5, 5, 0, 1, 2, 3, 4, 5]]
def l51r7 : List AOper :=
  [AOper.mk (some 33) (.bin .add (.tmp 15) (.const (.int .i64 1))) none [], AOper.mk (some 15) (.mv (.tmp 33)) none [0]]
def l51r8 : List AOper :=
  [AOper.mk (some 34) (.load true 3 (.tmp 3)) none [], AOper.mk none (.store 3 (.tmp 2) (.tmp 34)) none [0, 0]]
def l51 : AFn :=
  (AFn.mk 35 1 (ACode.seq (ACode.reg l51r0) (ACode.seq (ACode.reg l51r1) (ACode.seq (ACode.seq (ACode.reg l51r2) (ACode.block 0 (ACode.loop (ACode.seq (ACode.reg l51r3) (ACode.seq (ACode.cond (.tmp 16) ACode.skip (ACode.exit 0)) (ACode.seq (ACode.block 1 (ACode.seq (ACode.reg l51r4) (ACode.seq (ACode.reg l51r5) (ACode.reg l51r6)))) (ACode.reg l51r7))))))) (ACode.seq (ACode.reg l51r8) ACode.ret)))) [ARes.cell 2 true 3])
theorem l51_eq : lowFn Try.prog 51 = some l51 := by kernel_rfl
def l52r0 : List AOper :=
  [AOper.mk (some 6) (.mv (.const (.bool false))) none []]
def l52r1 : List AOper :=
  [AOper.mk (some 7) (.mv (.tmp 1)) none [], AOper.mk (some 8) (.mv (.tmp 0)) none [], AOper.mk (some 9) (.bin .leq (.tmp 7) (.tmp 8)) none [0, 1], AOper.mk (some 10) (.mv (.tmp 9)) none [2], AOper.mk (some 11) (.mv (.tmp 0)) (some (10, true)) [3], AOper.mk (some 12) (.mv (.tmp 2)) (some (10, true)) [3], AOper.mk (some 13) (.bin .leq (.tmp 11) (.tmp 12)) (some (10, true)) [4, 5, 3], AOper.mk (some 14) (.pick (.tmp 10) (.tmp 13) (.const (.bool false))) none [3, 6], AOper.mk (some 6) (.mv (.tmp 14)) none [7, 3, 0, 1, 2, 3, 4, 5, 6, 7]]
def l52 : AFn :=
  (AFn.mk 15 3 (ACode.seq (ACode.reg l52r0) (ACode.seq (ACode.reg l52r1) ACode.ret)) [ARes.tmp 6])
theorem l52_eq : lowFn Try.prog 52 = some l52 := by kernel_rfl
def l53r0 : List AOper :=
  [AOper.mk (some 1) (.box (.tmp 0)) none [], AOper.mk (some 2) (.alloc [.int .i64 0, .slice none 0 0, .slice none 0 0]) none []]
def l53r1a : List AOper :=
  [AOper.mk (some 3) (.fld 0 (.tmp 1)) none [], AOper.mk (some 4) (.load false 1 (.tmp 3)) none [0], AOper.mk (some 5) (.fld 1 (.tmp 1)) none [], AOper.mk (some 6) (.load false 1 (.tmp 5)) none [2], AOper.mk (some 7) (.call 83 [.tmp 6]) none [3], AOper.mk (some 8) (.fld 2 (.tmp 1)) none [], AOper.mk (some 9) (.load false 1 (.tmp 8)) none [5], AOper.mk (some 10) (.call 83 [.tmp 9]) none [6, 4]]
def l53r1b : List AOper :=
  [AOper.mk (some 11) (.build [.int .i64 0, .slice none 0 0, .slice none 0 0] [(0, 1, .tmp 4), (1, 1, .tmp 7), (2, 1, .tmp 10)]) none [1, 4, 7], AOper.mk none (.store 3 (.tmp 2) (.tmp 11)) none [8, 7, 0, 1, 2, 3, 4, 5, 6, 7, 8]]
def l53r1 : List AOper := l53r1a ++ l53r1b
def l53 : AFn :=
  (AFn.mk 12 1 (ACode.seq (ACode.reg l53r0) (ACode.seq (ACode.draw l53r1) ACode.ret)) [ARes.cell 2 true 3])
theorem l53_eq : lowFn Try.prog 53 = some l53 := by kernel_rfl
def l54r0 : List AOper :=
  [AOper.mk (some 2) (.mv (.const (.bool false))) none []]
def l54r1 : List AOper :=
  [AOper.mk (some 3) (.mv (.tmp 0)) none [], AOper.mk (some 4) (.len (.tmp 3)) none [0], AOper.mk (some 5) (.bin .leq (.tmp 4) (.const (.int .i64 4))) none [1], AOper.mk (some 6) (.mv (.tmp 5)) none [2], AOper.mk (some 7) (.mv (.tmp 0)) (some (6, true)) [3], AOper.mk (some 8) (.call 69 [.tmp 7, .const (.int .i64 0), .const (.int .i64 60)]) (some (6, true)) [4, 3, 3], AOper.mk (some 9) (.pick (.tmp 6) (.tmp 8) (.const (.bool false))) none [3, 5], AOper.mk (some 10) (.mv (.tmp 9)) none [6, 5], AOper.mk (some 11) (.mv (.tmp 0)) (some (10, true)) [7], AOper.mk (some 12) (.call 70 [.tmp 11]) (some (10, true)) [8, 7, 7], AOper.mk (some 13) (.bin .leq (.tmp 12) (.const (.int .i64 60))) (some (10, true)) [9, 7], AOper.mk (some 14) (.pick (.tmp 10) (.tmp 13) (.const (.bool false))) none [7, 10], AOper.mk (some 2) (.mv (.tmp 14)) none [11, 9, 0, 1, 2, 3, 4, 5, 6, 7, 8, 9, 10, 11]]
def l54 : AFn :=
  (AFn.mk 15 1 (ACode.seq (ACode.reg l54r0) (ACode.seq (ACode.reg l54r1) ACode.ret)) [ARes.tmp 2])
theorem l54_eq : lowFn Try.prog 54 = some l54 := by kernel_rfl
def l56r0 : List AOper :=
  [AOper.mk (some 2) (.mv (.const (.bool false))) none []]
def l56r1 : List AOper :=
  [AOper.mk (some 5) (.mv (.tmp 0)) none [], AOper.mk (some 6) (.len (.tmp 5)) none [0], AOper.mk (some 7) (.bin .gtr (.tmp 6) (.const (.int .i64 4))) none [1]]
def l56r2 : List AOper :=
  [AOper.mk (some 2) (.mv (.const (.bool false))) none []]
def l56r3 : List AOper :=
  [AOper.mk (some 8) (.mv (.tmp 0)) none [], AOper.mk (some 9) (.len (.tmp 8)) none [0], AOper.mk (some 10) (.mv (.const (.int .i64 0))) none []]
def l56r4 : List AOper :=
  [AOper.mk (some 11) (.bin .lss (.tmp 10) (.tmp 9)) none []]
def l56r5 : List AOper :=
  [AOper.mk (some 12) (.idxA 1 (.tmp 8) (.tmp 10)) none [], AOper.mk (some 13) (.load false 1 (.tmp 12)) none [0], AOper.mk (some 4) (.mv (.tmp 13)) none [1, 0, 1]]
def l56r6 : List AOper :=
  [AOper.mk (some 14) (.mv (.tmp 4)) none [], AOper.mk (some 15) (.call 67 [.tmp 14, .const (.int .i64 60)]) none [0], AOper.mk (some 16) (.un .not (.tmp 15)) none [1]]
def l56r7 : List AOper :=
  [AOper.mk (some 2) (.mv (.const (.bool false))) none []]
def l56r8 : List AOper :=
  [AOper.mk (some 17) (.bin .add (.tmp 10) (.const (.int .i64 1))) none [], AOper.mk (some 10) (.mv (.tmp 17)) none [0]]
def l56r9 : List AOper :=
  [AOper.mk (some 18) (.mv (.tmp 0)) none [], AOper.mk (some 19) (.call 57 [.tmp 18]) none [0], AOper.mk (some 20) (.bin .leq (.tmp 19) (.const (.int .i64 60))) none [1], AOper.mk (some 2) (.mv (.tmp 20)) none [2, 1, 0, 1, 2]]
def l56 : AFn :=
  (AFn.mk 21 1 (ACode.seq (ACode.reg l56r0) (ACode.seq (ACode.seq (ACode.reg l56r1) (ACode.cond (.tmp 7) (ACode.seq (ACode.reg l56r2) ACode.ret) ACode.skip)) (ACode.seq (ACode.seq (ACode.reg l56r3) (ACode.block 0 (ACode.loop (ACode.seq (ACode.reg l56r4) (ACode.seq (ACode.cond (.tmp 11) ACode.skip (ACode.exit 0)) (ACode.seq (ACode.block 1 (ACode.seq (ACode.reg l56r5) (ACode.seq (ACode.reg l56r6) (ACode.cond (.tmp 16) (ACode.seq (ACode.reg l56r7) ACode.ret) ACode.skip)))) (ACode.reg l56r8))))))) (ACode.seq (ACode.reg l56r9) ACode.ret)))) [ARes.tmp 2])
theorem l56_eq : lowFn Try.prog 56 = some l56 := by kernel_rfl
def l57r0 : List AOper :=
  [AOper.mk (some 2) (.mv (.const (.int .i64 0))) none []]
def l57r1 : List AOper :=
  [AOper.mk (some 3) (.mv (.const (.int .i64 1))) none []]
def l57r2 : List AOper :=
  [AOper.mk (some 6) (.mv (.tmp 0)) none [], AOper.mk (some 7) (.len (.tmp 6)) none [0], AOper.mk (some 8) (.mv (.const (.int .i64 0))) none []]
def l57r3 : List AOper :=
  [AOper.mk (some 9) (.bin .lss (.tmp 8) (.tmp 7)) none []]
def l57r4 : List AOper :=
  [AOper.mk (some 10) (.idxA 1 (.tmp 6) (.tmp 8)) none [], AOper.mk (some 11) (.load false 1 (.tmp 10)) none [0], AOper.mk (some 5) (.mv (.tmp 11)) none [1, 0, 1]]
def l57r5 : List AOper :=
  [AOper.mk (some 12) (.mv (.tmp 3)) none [], AOper.mk (some 13) (.mv (.tmp 5)) none [], AOper.mk (some 14) (.bin .mul (.tmp 12) (.tmp 13)) none [0, 1], AOper.mk (some 3) (.mv (.tmp 14)) none [2, 0, 1, 2]]
def l57r6 : List AOper :=
  [AOper.mk (some 15) (.bin .add (.tmp 8) (.const (.int .i64 1))) none [], AOper.mk (some 8) (.mv (.tmp 15)) none [0]]
def l57r7 : List AOper :=
  [AOper.mk (some 16) (.mv (.tmp 3)) none [], AOper.mk (some 2) (.mv (.tmp 16)) none [0, 0]]
def l57 : AFn :=
  (AFn.mk 17 1 (ACode.seq (ACode.reg l57r0) (ACode.seq (ACode.reg l57r1) (ACode.seq (ACode.seq (ACode.reg l57r2) (ACode.block 0 (ACode.loop (ACode.seq (ACode.reg l57r3) (ACode.seq (ACode.cond (.tmp 9) ACode.skip (ACode.exit 0)) (ACode.seq (ACode.block 1 (ACode.seq (ACode.reg l57r4) (ACode.reg l57r5))) (ACode.reg l57r6))))))) (ACode.seq (ACode.reg l57r7) ACode.ret)))) [ARes.tmp 2])
theorem l57_eq : lowFn Try.prog 57 = some l57 := by kernel_rfl
def l58r0 : List AOper :=
  [AOper.mk (some 1) (.box (.tmp 0)) none [], AOper.mk (some 2) (.mv (.const (.int .i64 0))) none []]
def l58r1 : List AOper :=
  [AOper.mk (some 3) (.fld 1 (.tmp 1)) none [], AOper.mk (some 4) (.load false 1 (.tmp 3)) none [0], AOper.mk (some 5) (.call 57 [.tmp 4]) none [1], AOper.mk (some 2) (.mv (.tmp 5)) none [2, 2, 0, 1, 2]]
def l58 : AFn :=
  (AFn.mk 6 1 (ACode.seq (ACode.reg l58r0) (ACode.seq (ACode.reg l58r1) ACode.ret)) [ARes.tmp 2])
theorem l58_eq : lowFn Try.prog 58 = some l58 := by kernel_rfl
def l62r0 : List AOper :=
  [AOper.mk (some 4) (.mv (.const (.slice none 0 0))) none []]
def l62r1a : List AOper :=
  [AOper.mk (some 5) (.bslice 1 [.int .i64 0] [] 0) none [], AOper.mk (some 6) (.mv (.tmp 0)) none [], AOper.mk (some 7) (.mv (.tmp 1)) none [], AOper.mk (some 8) (.slice 1 (.tmp 6) none (some (.tmp 7))) none [1, 2], AOper.mk (some 9) (.append 1 (.tmp 5) (.tmp 8)) none [0, 3], AOper.mk (some 10) (.mv (.tmp 0)) none [], AOper.mk (some 11) (.mv (.tmp 1)) none [], AOper.mk (some 12) (.bin .add (.tmp 11) (.const (.int .i64 1))) none [6], AOper.mk (some 13) (.slice 1 (.tmp 10) (some (.tmp 12)) none) none [5, 7]]
def l62r1b : List AOper :=
  [AOper.mk (some 14) (.append 1 (.tmp 9) (.tmp 13)) none [4, 8, 4], AOper.mk (some 4) (.mv (.tmp 14)) none [9, 9, 0, 1, 2, 3, 4, 5, 6, 7, 8, 9]]
def l62r1 : List AOper := l62r1a ++ l62r1b
def l62 : AFn :=
  (AFn.mk 15 2 (ACode.seq (ACode.reg l62r0) (ACode.seq (ACode.draw l62r1) ACode.ret)) [ARes.tmp 4])
theorem l62_eq : lowFn Try.prog 62 = some l62 := by kernel_rfl
def l63r0 : List AOper :=
  [AOper.mk (some 1) (.box (.tmp 0)) none [], AOper.mk (some 2) (.alloc [.int .i64 0, .slice none 0 0, .slice none 0 0]) none []]
def l63r1 : List AOper :=
  [AOper.mk (some 3) (.fld 1 (.tmp 1)) none [], AOper.mk (some 4) (.load false 1 (.tmp 3)) none [0], AOper.mk (some 5) (.call 70 [.tmp 4]) none [1], AOper.mk (some 6) (.bin .eql (.tmp 5) (.const (.int .i64 0))) none [2]]
def l63r2a : List AOper :=
  [AOper.mk (some 7) (.fld 1 (.tmp 1)) none [], AOper.mk (some 8) (.load false 1 (.tmp 7)) none [0], AOper.mk (some 9) (.fld 1 (.tmp 1)) none [], AOper.mk (some 10) (.load false 1 (.tmp 9)) none [2], AOper.mk (some 11) (.len (.tmp 10)) none [3], AOper.mk (some 12) (.mkslice 1 [.int .i64 0] (.tmp 11) (.tmp 11)) none [4, 4]]
def l63r2b : List AOper :=
  [AOper.mk (some 13) (.build [.int .i64 0, .slice none 0 0, .slice none 0 0] [(1, 1, .tmp 8), (2, 1, .tmp 12)]) none [1, 5], AOper.mk none (.store 3 (.tmp 2) (.tmp 13)) none [6, 0, 1, 2, 3, 4, 5, 6]]
def l63r2 : List AOper := l63r2a ++ l63r2b
def l63r3 : List AOper :=
  [AOper.mk (some 14) (.load true 3 (.tmp 1)) none [], AOper.mk none (.store 3 (.tmp 2) (.tmp 14)) none [0, 0]]
def l63 : AFn :=
  (AFn.mk 15 1 (ACode.seq (ACode.reg l63r0) (ACode.seq (ACode.seq (ACode.reg l63r1) (ACode.cond (.tmp 6) (ACode.seq (ACode.draw l63r2) ACode.ret) ACode.skip)) (ACode.seq (ACode.reg l63r3) ACode.ret))) [ARes.cell 2 true 3])
theorem l63_eq : lowFn Try.prog 63 = some l63 := by kernel_rfl
def l64r0 : List AOper :=
  [AOper.mk (some 2) (.box (.tmp 0)) none [], AOper.mk (some 4) (.mv (.const (.int .i64 0))) none [], AOper.mk (some 5) (.mv (.const (.bool false))) none [1]]
def l64r1 : List AOper :=
  [AOper.mk (some 7) (.load true 3 (.tmp 2)) none [], AOper.mk (some 8) (.call 88 [.tmp 7]) none [0], AOper.mk (some 9) (.un .not (.tmp 8)) none [1]]
def l64r2 : List AOper :=
  [AOper.mk (some 4) (.mv (.const (.int .i64 0))) none [], AOper.mk (some 5) (.mv (.const (.bool false))) none [0, 0]]
def l64r3 : List AOper :=
  [AOper.mk (some 10) (.load true 3 (.tmp 2)) none [], AOper.mk (some 11) (.call 44 [.tmp 10]) none [0], AOper.mk (some 6) (.mv (.tmp 11)) none [1, 1, 0, 1]]
def l64r4 : List AOper :=
  [AOper.mk (some 12) (.mv (.tmp 1)) none [], AOper.mk (some 13) (.bin .lss (.tmp 12) (.const (.int .i64 0))) none [0]]
def l64r5 : List AOper :=
  [AOper.mk (some 14) (.mv (.tmp 1)) none [], AOper.mk (some 15) (.mv (.tmp 6)) none [], AOper.mk (some 16) (.bin .add (.tmp 14) (.tmp 15)) none [0, 1], AOper.mk (some 1) (.mv (.tmp 16)) none [2, 0, 1, 2]]
def l64r6 : List AOper :=
  [AOper.mk (some 17) (.mv (.tmp 1)) none [], AOper.mk (some 18) (.bin .lss (.tmp 17) (.const (.int .i64 0))) none [0], AOper.mk (some 19) (.mv (.tmp 18)) none [1], AOper.mk (some 20) (.mv (.tmp 1)) (some (19, false)) [2], AOper.mk (some 21) (.mv (.tmp 6)) (some (19, false)) [2], AOper.mk (some 22) (.bin .geq (.tmp 20) (.tmp 21)) (some (19, false)) [3, 4, 2], AOper.mk (some 23) (.pick (.tmp 19) (.const (.bool true)) (.tmp 22)) none [2, 5]]
def l64r7 : List AOper :=
  [AOper.mk (some 4) (.mv (.const (.int .i64 0))) none [], AOper.mk (some 5) (.mv (.const (.bool false))) none [0, 0]]
def l64r8 : List AOper :=
  [AOper.mk (some 24) (.load true 3 (.tmp 2)) none [], AOper.mk (some 25) (.mv (.tmp 1)) none [], AOper.mk (some 26) (.call 89 [.tmp 24, .tmp 25]) none [0, 1], AOper.mk (some 4) (.mv (.tmp 26)) none [2, 2, 0, 1, 2], AOper.mk (some 5) (.mv (.const (.bool true))) none [3, 0, 1, 2, 3]]
def l64 : AFn :=
  (AFn.mk 27 2 (ACode.seq (ACode.reg l64r0) (ACode.seq (ACode.seq (ACode.reg l64r1) (ACode.cond (.tmp 9) (ACode.seq (ACode.reg l64r2) ACode.ret) ACode.skip)) (ACode.seq (ACode.reg l64r3) (ACode.seq (ACode.seq (ACode.reg l64r4) (ACode.cond (.tmp 13) (ACode.reg l64r5) ACode.skip)) (ACode.seq (ACode.seq (ACode.reg l64r6) (ACode.cond (.tmp 23) (ACode.seq (ACode.reg l64r7) ACode.ret) ACode.skip)) (ACode.seq (ACode.reg l64r8) ACode.ret)))))) [ARes.tmp 4, ARes.tmp 5])
theorem l64_eq : lowFn Try.prog 64 = some l64 := by kernel_rfl
def l65r0 : List AOper :=
  [AOper.mk (some 6) (.mv (.const (.slice none 0 0))) none []]
def l65r1 : List AOper :=
  [AOper.mk (some 8) (.mv (.tmp 0)) none [], AOper.mk (some 9) (.mv (.tmp 1)) none [], AOper.mk (some 10) (.mv (.tmp 2)) none [], AOper.mk (some 11) (.mv (.tmp 0)) none [], AOper.mk (some 12) (.len (.tmp 11)) none [3], AOper.mk (some 13) (.slice3 2 (.tmp 8) (some (.tmp 9)) (.tmp 10) (.tmp 12)) none [0, 1, 2, 4]]
def l65r2 : List AOper :=
  [AOper.mk (some 14) (.mv (.tmp 1)) none [], AOper.mk (some 15) (.mv (.tmp 2)) none [], AOper.mk (some 16) (.bin .eql (.tmp 14) (.tmp 15)) none [0, 1]]
def l65r3 : List AOper :=
  [AOper.mk (some 17) (.mv (.tmp 0)) none [], AOper.mk (some 6) (.mv (.tmp 17)) none [0, 0]]
def l65r4 : List AOper :=
  [AOper.mk (some 18) (.mv (.tmp 0)) none [], AOper.mk (some 19) (.len (.tmp 18)) none [0], AOper.mk (some 7) (.mv (.tmp 19)) none [1, 0, 1]]
def l65r5a : List AOper :=
  [AOper.mk (some 20) (.mv (.tmp 0)) none [], AOper.mk (some 21) (.mv (.tmp 1)) none [], AOper.mk (some 22) (.slice 2 (.tmp 20) none (some (.tmp 21))) none [0, 1], AOper.mk (some 23) (.mv (.tmp 0)) none [], AOper.mk (some 24) (.mv (.tmp 2)) none [], AOper.mk (some 25) (.slice 2 (.tmp 23) (some (.tmp 24)) none) none [3, 4]]
def l65r5b : List AOper :=
  [AOper.mk (some 26) (.append 2 (.tmp 22) (.tmp 25)) none [2, 5], AOper.mk (some 0) (.mv (.tmp 26)) none [6, 6, 0, 1, 2, 3, 4, 5, 6]]
def l65r5 : List AOper := l65r5a ++ l65r5b
def l65r6 : List AOper :=
  [AOper.mk (some 27) (.mv (.tmp 0)) none [], AOper.mk (some 28) (.mv (.tmp 0)) none [], AOper.mk (some 29) (.len (.tmp 28)) none [1], AOper.mk (some 30) (.mv (.tmp 7)) none [], AOper.mk (some 31) (.slice 2 (.tmp 27) (some (.tmp 29)) (some (.tmp 30))) none [0, 2, 3], AOper.mk none (.clr 2 [.int .i64 0, .int .i64 0] (.tmp 31)) none [4]]
def l65r7 : List AOper :=
  [AOper.mk (some 32) (.mv (.tmp 0)) none [], AOper.mk (some 6) (.mv (.tmp 32)) none [0, 0]]
def l65 : AFn :=
  (AFn.mk 33 3 (ACode.seq (ACode.reg l65r0) (ACode.seq (ACode.reg l65r1) (ACode.seq (ACode.seq (ACode.reg l65r2) (ACode.cond (.tmp 16) (ACode.seq (ACode.reg l65r3) ACode.ret) ACode.skip)) (ACode.seq (ACode.reg l65r4) (ACode.seq (ACode.draw l65r5) (ACode.seq (ACode.reg l65r6) (ACode.seq (ACode.reg l65r7) ACode.ret))))))) [ARes.tmp 6])
theorem l65_eq : lowFn Try.prog 65 = some l65 := by kernel_rfl
def l67r0 : List AOper :=
  [AOper.mk (some 4) (.mv (.const (.bool false))) none []]
def l67r1 : List AOper :=
  [AOper.mk (some 5) (.mv (.tmp 0)) none [], AOper.mk (some 6) (.bin .leq (.const (.int .i64 0)) (.tmp 5)) none [0], AOper.mk (some 7) (.mv (.tmp 6)) none [1], AOper.mk (some 8) (.mv (.tmp 0)) (some (7, true)) [2], AOper.mk (some 9) (.mv (.tmp 1)) (some (7, true)) [2], AOper.mk (some 10) (.bin .leq (.tmp 8) (.tmp 9)) (some (7, true)) [3, 4, 2], AOper.mk (some 11) (.pick (.tmp 7) (.tmp 10) (.const (.bool false))) none [2, 5], AOper.mk (some 4) (.mv (.tmp 11)) none [6, 2, 0, 1, 2, 3, 4, 5, 6]]
def l67 : AFn :=
  (AFn.mk 12 2 (ACode.seq (ACode.reg l67r0) (ACode.seq (ACode.reg l67r1) ACode.ret)) [ARes.tmp 4])
theorem l67_eq : lowFn Try.prog 67 = some l67 := by kernel_rfl
def l69r0 : List AOper :=
  [AOper.mk (some 6) (.mv (.const (.bool false))) none []]
def l69r1 : List AOper :=
  [AOper.mk (some 7) (.mv (.const (.int .i64 0))) none []]
def l69r2 : List AOper :=
  [AOper.mk (some 8) (.mv (.tmp 7)) none [], AOper.mk (some 9) (.mv (.tmp 0)) none [], AOper.mk (some 10) (.len (.tmp 9)) none [1], AOper.mk (some 11) (.bin .lss (.tmp 8) (.tmp 10)) none [0, 2]]
def l69r3 : List AOper :=
  [AOper.mk (some 14) (.mv (.tmp 0)) none [], AOper.mk (some 15) (.mv (.tmp 7)) none [], AOper.mk (some 16) (.idxA 1 (.tmp 14) (.tmp 15)) none [0, 1], AOper.mk (some 17) (.load false 1 (.tmp 16)) none [2], AOper.mk (some 18) (.mv (.tmp 1)) none [], AOper.mk (some 19) (.mv (.tmp 2)) none [], AOper.mk (some 20) (.call 52 [.tmp 17, .tmp 18, .tmp 19]) none [3, 4, 5], AOper.mk (some 21) (.un .not (.tmp 20)) none [6]]
def l69r4 : List AOper :=
  [AOper.mk (some 6) (.mv (.const (.bool false))) none []]
def l69r5 : List AOper :=
  [AOper.mk (some 12) (.mv (.tmp 7)) none [], AOper.mk (some 13) (.bin .add (.tmp 12) (.const (.int .i64 1))) none [0], AOper.mk (some 7) (.mv (.tmp 13)) none [1, 0, 1]]
def l69r6 : List AOper :=
  [AOper.mk (some 6) (.mv (.const (.bool true))) none []]
def l69 : AFn :=
  (AFn.mk 22 3 (ACode.seq (ACode.reg l69r0) (ACode.seq (ACode.seq (ACode.reg l69r1) (ACode.block 0 (ACode.loop (ACode.seq (ACode.seq (ACode.reg l69r2) (ACode.cond (.tmp 11) ACode.skip (ACode.exit 0))) (ACode.seq (ACode.block 1 (ACode.seq (ACode.reg l69r3) (ACode.cond (.tmp 21) (ACode.seq (ACode.reg l69r4) ACode.ret) ACode.skip))) (ACode.reg l69r5)))))) (ACode.seq (ACode.reg l69r6) ACode.ret))) [ARes.tmp 6])
theorem l69_eq : lowFn Try.prog 69 = some l69 := by kernel_rfl
def l70r0 : List AOper :=
  [AOper.mk (some 2) (.mv (.const (.int .i64 0))) none []]
def l70r1 : List AOper :=
  [AOper.mk (some 3) (.mv (.const (.int .i64 1))) none []]
def l70r2 : List AOper :=
  [AOper.mk (some 4) (.mv (.const (.int .i64 0))) none []]
def l70r3 : List AOper :=
  [AOper.mk (some 5) (.mv (.tmp 4)) none [], AOper.mk (some 6) (.mv (.tmp 0)) none [], AOper.mk (some 7) (.len (.tmp 6)) none [1], AOper.mk (some 8) (.bin .lss (.tmp 5) (.tmp 7)) none [0, 2]]
def l70r4 : List AOper :=
  [AOper.mk (some 11) (.mv (.tmp 3)) none [], AOper.mk (some 12) (.mv (.tmp 0)) none [], AOper.mk (some 13) (.mv (.tmp 4)) none [], AOper.mk (some 14) (.idxA 1 (.tmp 12) (.tmp 13)) none [1, 2], AOper.mk (some 15) (.load false 1 (.tmp 14)) none [3], AOper.mk (some 16) (.bin .mul (.tmp 11) (.tmp 15)) none [0, 4], AOper.mk (some 3) (.mv (.tmp 16)) none [5, 0, 1, 2, 3, 4, 5]]
def l70r5 : List AOper :=
  [AOper.mk (some 9) (.mv (.tmp 4)) none [], AOper.mk (some 10) (.bin .add (.tmp 9) (.const (.int .i64 1))) none [0], AOper.mk (some 4) (.mv (.tmp 10)) none [1, 0, 1]]
def l70r6 : List AOper :=
  [AOper.mk (some 17) (.mv (.tmp 3)) none [], AOper.mk (some 2) (.mv (.tmp 17)) none [0, 0]]
def l70 : AFn :=
  (AFn.mk 18 1 (ACode.seq (ACode.reg l70r0) (ACode.seq (ACode.reg l70r1) (ACode.seq (ACode.seq (ACode.reg l70r2) (ACode.block 0 (ACode.loop (ACode.seq (ACode.seq (ACode.reg l70r3) (ACode.cond (.tmp 8) ACode.skip (ACode.exit 0))) (ACode.seq (ACode.block 1 (ACode.reg l70r4)) (ACode.reg l70r5)))))) (ACode.seq (ACode.reg l70r6) ACode.ret)))) [ARes.tmp 2])
theorem l70_eq : lowFn Try.prog 70 = some l70 := by kernel_rfl
def l71r0 : List AOper :=
  [AOper.mk (some 1) (.box (.tmp 0)) none [], AOper.mk (some 2) (.mv (.const (.slice none 0 0))) none []]
def l71r1 : List AOper :=
  [AOper.mk (some 5) (.bslice 1 [.int .i64 0] [] 0) none [], AOper.mk (some 3) (.mv (.tmp 5)) none [0, 0]]
def l71r2 : List AOper :=
  [AOper.mk (some 4) (.mv (.const (.int .i64 0))) none []]
def l71r3 : List AOper :=
  [AOper.mk (some 6) (.mv (.tmp 4)) none [], AOper.mk (some 7) (.fld 1 (.tmp 1)) none [], AOper.mk (some 8) (.load false 1 (.tmp 7)) none [1], AOper.mk (some 9) (.call 70 [.tmp 8]) none [2], AOper.mk (some 10) (.bin .lss (.tmp 6) (.tmp 9)) none [0, 3]]
def l71r4a : List AOper :=
  [AOper.mk (some 13) (.mv (.tmp 3)) none [], AOper.mk (some 14) (.load true 3 (.tmp 1)) none [], AOper.mk (some 15) (.fld 1 (.tmp 1)) none [], AOper.mk (some 16) (.load false 1 (.tmp 15)) none [2], AOper.mk (some 17) (.mv (.tmp 4)) none [], AOper.mk (some 18) (.call 93 [.tmp 16, .tmp 17]) none [3, 4], AOper.mk (some 19) (.call 92 [.tmp 14, .tmp 18]) none [1, 5, 5], AOper.mk (some 20) (.bslice 1 [.int .i64 0] [(0, .tmp 19)] 1) none [6]]
def l71r4b : List AOper :=
  [AOper.mk (some 21) (.append 1 (.tmp 13) (.tmp 20)) none [0, 7, 6], AOper.mk (some 3) (.mv (.tmp 21)) none [8, 8, 0, 1, 2, 3, 4, 5, 6, 7, 8]]
def l71r4 : List AOper := l71r4a ++ l71r4b
def l71r5 : List AOper :=
  [AOper.mk (some 11) (.mv (.tmp 4)) none [], AOper.mk (some 12) (.bin .add (.tmp 11) (.const (.int .i64 1))) none [0], AOper.mk (some 4) (.mv (.tmp 12)) none [1, 0, 1]]
def l71r6 : List AOper :=
  [AOper.mk (some 22) (.mv (.tmp 3)) none [], AOper.mk (some 2) (.mv (.tmp 22)) none [0, 0]]
def l71 : AFn :=
  (AFn.mk 23 1 (ACode.seq (ACode.reg l71r0) (ACode.seq (ACode.reg l71r1) (ACode.seq (ACode.seq (ACode.reg l71r2) (ACode.block 0 (ACode.loop (ACode.seq (ACode.seq (ACode.reg l71r3) (ACode.cond (.tmp 10) ACode.skip (ACode.exit 0))) (ACode.seq (ACode.block 1 (ACode.draw l71r4)) (ACode.reg l71r5)))))) (ACode.seq (ACode.reg l71r6) ACode.ret)))) [ARes.tmp 2])
theorem l71_eq : lowFn Try.prog 71 = some l71 := by kernel_rfl
def l76r0 : List AOper :=
  [AOper.mk (some 2) (.mv (.const (.bool false))) none []]
def l76r1 : List AOper :=
  [AOper.mk (some 3) (.mv (.tmp 0)) none [], AOper.mk (some 4) (.call 95 [.tmp 3, .const (.int .i64 200)]) none [0], AOper.mk (some 5) (.mv (.tmp 4)) none [1, 1], AOper.mk (some 6) (.mv (.tmp 0)) (some (5, true)) [2], AOper.mk (some 7) (.bin .neq (.tmp 6) (.const (.int .i64 0))) (some (5, true)) [3, 2], AOper.mk (some 8) (.pick (.tmp 5) (.tmp 7) (.const (.bool false))) none [2, 4], AOper.mk (some 2) (.mv (.tmp 8)) none [5, 2, 0, 1, 2, 3, 4, 5]]
def l76 : AFn :=
  (AFn.mk 9 1 (ACode.seq (ACode.reg l76r0) (ACode.seq (ACode.reg l76r1) ACode.ret)) [ARes.tmp 2])
theorem l76_eq : lowFn Try.prog 76 = some l76 := by kernel_rfl
def l79r0 : List AOper :=
  [AOper.mk (some 4) (.mv (.const (.bool false))) none []]
def l79r1 : List AOper :=
  [AOper.mk (some 7) (.mv (.tmp 0)) none [], AOper.mk (some 8) (.len (.tmp 7)) none [0], AOper.mk (some 9) (.mv (.tmp 1)) none [], AOper.mk (some 10) (.bin .neq (.tmp 8) (.tmp 9)) none [1, 2]]
def l79r2 : List AOper :=
  [AOper.mk (some 4) (.mv (.const (.bool false))) none []]
def l79r3 : List AOper :=
  [AOper.mk (some 11) (.mv (.tmp 0)) none [], AOper.mk (some 12) (.len (.tmp 11)) none [0], AOper.mk (some 13) (.mv (.const (.int .i64 0))) none []]
def l79r4 : List AOper :=
  [AOper.mk (some 14) (.bin .lss (.tmp 13) (.tmp 12)) none []]
def l79r5 : List AOper :=
  [AOper.mk (some 15) (.idxA 1 (.tmp 11) (.tmp 13)) none [], AOper.mk (some 16) (.load false 1 (.tmp 15)) none [0], AOper.mk (some 6) (.mv (.tmp 16)) none [1, 0, 1]]
def l79r6 : List AOper :=
  [AOper.mk (some 17) (.mv (.tmp 6)) none [], AOper.mk (some 18) (.call 95 [.tmp 17, .const (.int .i64 60)]) none [0], AOper.mk (some 19) (.un .not (.tmp 18)) none [1]]
def l79r7 : List AOper :=
  [AOper.mk (some 4) (.mv (.const (.bool false))) none []]
def l79r8 : List AOper :=
  [AOper.mk (some 20) (.bin .add (.tmp 13) (.const (.int .i64 1))) none [], AOper.mk (some 13) (.mv (.tmp 20)) none [0]]
def l79r9 : List AOper :=
  [AOper.mk (some 4) (.mv (.const (.bool true))) none []]
def l79 : AFn :=
  (AFn.mk 21 2 (ACode.seq (ACode.reg l79r0) (ACode.seq (ACode.seq (ACode.reg l79r1) (ACode.cond (.tmp 10) (ACode.seq (ACode.reg l79r2) ACode.ret) ACode.skip)) (ACode.seq (ACode.seq (ACode.reg l79r3) (ACode.block 0 (ACode.loop (ACode.seq (ACode.reg l79r4) (ACode.seq (ACode.cond (.tmp 14) ACode.skip (ACode.exit 0)) (ACode.seq (ACode.block 1 (ACode.seq (ACode.reg l79r5) (ACode.seq (ACode.reg l79r6) (ACode.cond (.tmp 19) (ACode.seq (ACode.reg l79r7) ACode.ret) ACode.skip)))) (ACode.reg l79r8))))))) (ACode.seq (ACode.reg l79r9) ACode.ret)))) [ARes.tmp 4])
theorem l79_eq : lowFn Try.prog 79 = some l79 := by kernel_rfl
def l80r0 : List AOper :=
  [AOper.mk (some 1) (.box (.tmp 0)) none [], AOper.mk (some 2) (.mv (.const (.int .i64 0))) none [], AOper.mk (some 3) (.mv (.const (.int .i64 0))) none [1]]
def l80r1 : List AOper :=
  [AOper.mk (some 9) (.load true 3 (.tmp 1)) none [], AOper.mk (some 10) (.call 58 [.tmp 9]) none [0], AOper.mk (some 11) (.bin .eql (.tmp 10) (.const (.int .i64 0))) none [1]]
def l80r2 : List AOper :=
  [AOper.mk (some 2) (.mv (.const (.int .i64 (-1)))) none [], AOper.mk (some 3) (.mv (.const (.int .i64 (-1)))) none [0, 0]]
def l80r3a : List AOper :=
  [AOper.mk (some 12) (.fld 0 (.tmp 1)) none [], AOper.mk (some 13) (.load false 1 (.tmp 12)) none [0], AOper.mk (some 14) (.fld 0 (.tmp 1)) none [], AOper.mk (some 15) (.load false 1 (.tmp 14)) none [2], AOper.mk (some 4) (.mv (.tmp 13)) none [1, 0, 1]]
def l80r3b : List AOper :=
  [AOper.mk (some 5) (.mv (.tmp 15)) none [3, 4, 0, 1, 2, 3, 4]]
def l80r3 : List AOper := l80r3a ++ l80r3b
def l80r4 : List AOper :=
  [AOper.mk (some 16) (.fld 2 (.tmp 1)) none [], AOper.mk (some 17) (.load false 1 (.tmp 16)) none [0], AOper.mk (some 18) (.len (.tmp 17)) none [1], AOper.mk (some 19) (.mv (.const (.int .i64 0))) none []]
def l80r5 : List AOper :=
  [AOper.mk (some 20) (.bin .lss (.tmp 19) (.tmp 18)) none []]
def l80r6 : List AOper :=
  [AOper.mk (some 21) (.mv (.tmp 19)) none [], AOper.mk (some 22) (.idxA 1 (.tmp 17) (.tmp 19)) none [], AOper.mk (some 23) (.load false 1 (.tmp 22)) none [1], AOper.mk (some 6) (.mv (.tmp 21)) none [0, 0, 1, 2], AOper.mk (some 7) (.mv (.tmp 23)) none [2, 3, 0, 1, 2, 3]]
def l80r7 : List AOper :=
  [AOper.mk (some 24) (.fld 1 (.tmp 1)) none [], AOper.mk (some 25) (.load false 1 (.tmp 24)) none [0], AOper.mk (some 26) (.mv (.tmp 6)) none [], AOper.mk (some 27) (.idxA 1 (.tmp 25) (.tmp 26)) none [1, 2], AOper.mk (some 28) (.load false 1 (.tmp 27)) none [3], AOper.mk (some 29) (.bin .sub (.tmp 28) (.const (.int .i64 1))) none [4], AOper.mk (some 30) (.mv (.tmp 7)) none [], AOper.mk (some 31) (.bin .mul (.tmp 29) (.tmp 30)) none [5, 6], AOper.mk (some 8) (.mv (.tmp 31)) none [7, 0, 1, 2, 3, 4, 5, 6, 7]]
def l80r8 : List AOper :=
  [AOper.mk (some 32) (.mv (.tmp 4)) none [], AOper.mk (some 33) (.mv (.tmp 8)) none [], AOper.mk (some 34) (.minmax false (.tmp 33) (.const (.int .i64 0))) none [1], AOper.mk (some 35) (.bin .add (.tmp 32) (.tmp 34)) none [0, 2], AOper.mk (some 4) (.mv (.tmp 35)) none [3, 0, 1, 2, 3]]
def l80r9 : List AOper :=
  [AOper.mk (some 36) (.mv (.tmp 5)) none [], AOper.mk (some 37) (.mv (.tmp 8)) none [], AOper.mk (some 38) (.minmax true (.tmp 37) (.const (.int .i64 0))) none [1], AOper.mk (some 39) (.bin .add (.tmp 36) (.tmp 38)) none [0, 2], AOper.mk (some 5) (.mv (.tmp 39)) none [3, 0, 1, 2, 3]]
def l80r10 : List AOper :=
  [AOper.mk (some 40) (.bin .add (.tmp 19) (.const (.int .i64 1))) none [], AOper.mk (some 19) (.mv (.tmp 40)) none [0]]
def l80r11 : List AOper :=
  [AOper.mk (some 41) (.mv (.tmp 4)) none [], AOper.mk (some 42) (.mv (.tmp 5)) none [], AOper.mk (some 2) (.mv (.tmp 41)) none [0, 0], AOper.mk (some 3) (.mv (.tmp 42)) none [1, 2, 0, 1, 2]]
def l80 : AFn :=
  (AFn.mk 43 1 (ACode.seq (ACode.reg l80r0) (ACode.seq (ACode.seq (ACode.reg l80r1) (ACode.cond (.tmp 11) (ACode.seq (ACode.reg l80r2) ACode.ret) ACode.skip)) (ACode.seq (ACode.draw l80r3) (ACode.seq (ACode.seq (ACode.reg l80r4) (ACode.block 0 (ACode.loop (ACode.seq (ACode.reg l80r5) (ACode.seq (ACode.cond (.tmp 20) ACode.skip (ACode.exit 0)) (ACode.seq (ACode.block 1 (ACode.seq (ACode.reg l80r6) (ACode.seq (ACode.reg l80r7) (ACode.seq (ACode.reg l80r8) (ACode.reg l80r9))))) (ACode.reg l80r10))))))) (ACode.seq (ACode.reg l80r11) ACode.ret))))) [ARes.tmp 2, ARes.tmp 3])
theorem l80_eq : lowFn Try.prog 80 = some l80 := by kernel_rfl
def l82r0 : List AOper :=
  [AOper.mk (some 2) (.box (.tmp 0)) none [], AOper.mk (some 3) (.box (.tmp 1)) none [], AOper.mk (some 4) (.mv (.const (.int .i64 0))) none []]
def l82r1a : List AOper :=
  [AOper.mk (some 5) (.fld 0 (.tmp 2)) none [], AOper.mk (some 6) (.load false 1 (.tmp 5)) none [0], AOper.mk (some 7) (.load true 4 (.tmp 3)) none [], AOper.mk (some 8) (.fld 2 (.tmp 2)) none [], AOper.mk (some 9) (.load false 1 (.tmp 8)) none [3], AOper.mk (some 10) (.call 98 [.tmp 7, .tmp 9]) none [2, 4]]
def l82r1b : List AOper :=
  [AOper.mk (some 11) (.bin .add (.tmp 6) (.tmp 10)) none [1, 5], AOper.mk (some 4) (.mv (.tmp 11)) none [6, 5, 0, 1, 2, 3, 4, 5, 6]]
def l82r1 : List AOper := l82r1a ++ l82r1b
def l82 : AFn :=
  (AFn.mk 12 2 (ACode.seq (ACode.reg l82r0) (ACode.seq (ACode.draw l82r1) ACode.ret)) [ARes.tmp 4])
theorem l82_eq : lowFn Try.prog 82 = some l82 := by kernel_rfl
def l83r0 : List AOper :=
  [AOper.mk (some 2) (.mv (.const (.slice none 0 0))) none []]
def l83r1 : List AOper :=
  [AOper.mk (some 3) (.bslice 1 [.int .i64 0] [] 0) none [], AOper.mk (some 4) (.mv (.tmp 0)) none [], AOper.mk (some 5) (.append 1 (.tmp 3) (.tmp 4)) none [0, 1], AOper.mk (some 2) (.mv (.tmp 5)) none [2, 2, 0, 1, 2]]
def l83 : AFn :=
  (AFn.mk 6 1 (ACode.seq (ACode.reg l83r0) (ACode.seq (ACode.reg l83r1) ACode.ret)) [ARes.tmp 2])
theorem l83_eq : lowFn Try.prog 83 = some l83 := by kernel_rfl
def l88r0 : List AOper :=
  [AOper.mk (some 1) (.box (.tmp 0)) none [], AOper.mk (some 2) (.mv (.const (.bool false))) none []]
def l88r1 : List AOper :=
  [AOper.mk (some 3) (.fld 0 (.tmp 1)) none [], AOper.mk (some 4) (.load false 1 (.tmp 3)) none [0], AOper.mk (some 5) (.call 95 [.tmp 4, .const (.int .i64 100)]) none [1], AOper.mk (some 6) (.mv (.tmp 5)) none [2, 2], AOper.mk (some 7) (.fld 1 (.tmp 1)) (some (6, true)) [3], AOper.mk (some 8) (.load false 1 (.tmp 7)) (some (6, true)) [4, 3], AOper.mk (some 9) (.call 95 [.tmp 8, .const (.int .i64 101)]) (some (6, true)) [5, 3, 3], AOper.mk (some 10) (.pick (.tmp 6) (.tmp 9) (.const (.bool false))) none [3, 6], AOper.mk (some 11) (.mv (.tmp 10)) none [7, 6], AOper.mk (some 12) (.fld 2 (.tmp 1)) (some (11, true)) [8], AOper.mk (some 13) (.load false 1 (.tmp 12)) (some (11, true)) [9, 8], AOper.mk (some 14) (.call 76 [.tmp 13]) (some (11, true)) [10, 8, 8], AOper.mk (some 15) (.pick (.tmp 11) (.tmp 14) (.const (.bool false))) none [8, 11], AOper.mk (some 2) (.mv (.tmp 15)) none [12, 11, 0, 1, 2, 3, 4, 5, 6, 7, 8, 9, 10, 11, 12]]
def l88 : AFn :=
  (AFn.mk 16 1 (ACode.seq (ACode.reg l88r0) (ACode.seq (ACode.reg l88r1) ACode.ret)) [ARes.tmp 2])
theorem l88_eq : lowFn Try.prog 88 = some l88 := by kernel_rfl
def l89r0 : List AOper :=
  [AOper.mk (some 2) (.box (.tmp 0)) none [], AOper.mk (some 4) (.mv (.const (.int .i64 0))) none []]
def l89r1 : List AOper :=
  [AOper.mk (some 5) (.fld 0 (.tmp 2)) none [], AOper.mk (some 6) (.load false 1 (.tmp 5)) none [0], AOper.mk (some 7) (.mv (.tmp 1)) none [], AOper.mk (some 8) (.fld 2 (.tmp 2)) none [], AOper.mk (some 9) (.load false 1 (.tmp 8)) none [3], AOper.mk (some 10) (.bin .mul (.tmp 7) (.tmp 9)) none [2, 4], AOper.mk (some 11) (.bin .add (.tmp 6) (.tmp 10)) none [1, 5], AOper.mk (some 4) (.mv (.tmp 11)) none [6, 0, 1, 2, 3, 4, 5, 6]]
def l89 : AFn :=
  (AFn.mk 12 2 (ACode.seq (ACode.reg l89r0) (ACode.seq (ACode.reg l89r1) ACode.ret)) [ARes.tmp 4])
theorem l89_eq : lowFn Try.prog 89 = some l89 := by kernel_rfl
def l92r0 : List AOper :=
  [AOper.mk (some 2) (.box (.tmp 0)) none [], AOper.mk (some 4) (.mv (.const (.int .i64 0))) none []]
def l92r1 : List AOper :=
  [AOper.mk (some 7) (.fld 0 (.tmp 2)) none [], AOper.mk (some 8) (.load false 1 (.tmp 7)) none [0], AOper.mk (some 5) (.mv (.tmp 8)) none [1, 0, 1]]
def l92r2 : List AOper :=
  [AOper.mk (some 6) (.mv (.const (.int .i64 0))) none []]
def l92r3 : List AOper :=
  [AOper.mk (some 9) (.mv (.tmp 6)) none [], AOper.mk (some 10) (.mv (.tmp 1)) none [], AOper.mk (some 11) (.len (.tmp 10)) none [1], AOper.mk (some 12) (.bin .lss (.tmp 9) (.tmp 11)) none [0, 2]]
def l92r4a : List AOper :=
  [AOper.mk (some 15) (.mv (.tmp 5)) none [], AOper.mk (some 16) (.mv (.tmp 1)) none [], AOper.mk (some 17) (.mv (.tmp 6)) none [], AOper.mk (some 18) (.idxA 1 (.tmp 16) (.tmp 17)) none [1, 2], AOper.mk (some 19) (.load false 1 (.tmp 18)) none [3], AOper.mk (some 20) (.fld 2 (.tmp 2)) none [], AOper.mk (some 21) (.load false 1 (.tmp 20)) none [5], AOper.mk (some 22) (.mv (.tmp 6)) none [], AOper.mk (some 23) (.idxA 1 (.tmp 21) (.tmp 22)) none [6, 7], AOper.mk (some 24) (.load false 1 (.tmp 23)) none [8], AOper.mk (some 25) (.bin .mul (.tmp 19) (.tmp 24)) none [4, 9]]
def l92r4b : List AOper :=
  [AOper.mk (some 26) (.bin .add (.tmp 15) (.tmp 25)) none [0, 10], AOper.mk (some 5) (.mv (.tmp 26)) none [11, 0, 1, 2, 3, 4, 5, 6, 7, 8, 9, 10, 11]]
def l92r4 : List AOper := l92r4a ++ l92r4b
def l92r5 : List AOper :=
  [AOper.mk (some 13) (.mv (.tmp 6)) none [], AOper.mk (some 14) (.bin .add (.tmp 13) (.const (.int .i64 1))) none [0], AOper.mk (some 6) (.mv (.tmp 14)) none [1, 0, 1]]
def l92r6 : List AOper :=
  [AOper.mk (some 27) (.mv (.tmp 5)) none [], AOper.mk (some 4) (.mv (.tmp 27)) none [0, 0]]
def l92 : AFn :=
  (AFn.mk 28 2 (ACode.seq (ACode.reg l92r0) (ACode.seq (ACode.reg l92r1) (ACode.seq (ACode.seq (ACode.reg l92r2) (ACode.block 0 (ACode.loop (ACode.seq (ACode.seq (ACode.reg l92r3) (ACode.cond (.tmp 12) ACode.skip (ACode.exit 0))) (ACode.seq (ACode.block 1 (ACode.draw l92r4)) (ACode.reg l92r5)))))) (ACode.seq (ACode.reg l92r6) ACode.ret)))) [ARes.tmp 4])
theorem l92_eq : lowFn Try.prog 92 = some l92 := by kernel_rfl
def l93r0 : List AOper :=
  [AOper.mk (some 4) (.mv (.const (.slice none 0 0))) none []]
def l93r1 : List AOper :=
  [AOper.mk (some 7) (.mv (.tmp 0)) none [], AOper.mk (some 8) (.len (.tmp 7)) none [0], AOper.mk (some 9) (.mkslice 1 [.int .i64 0] (.tmp 8) (.tmp 8)) none [1, 1], AOper.mk (some 5) (.mv (.tmp 9)) none [2, 0, 1, 2]]
def l93r2 : List AOper :=
  [AOper.mk (some 10) (.mv (.tmp 0)) none [], AOper.mk (some 11) (.len (.tmp 10)) none [0], AOper.mk (some 12) (.bin .sub (.tmp 11) (.const (.int .i64 1))) none [1], AOper.mk (some 6) (.mv (.tmp 12)) none [2, 0, 1, 2]]
def l93r3 : List AOper :=
  [AOper.mk (some 13) (.mv (.tmp 6)) none [], AOper.mk (some 14) (.bin .geq (.tmp 13) (.const (.int .i64 0))) none [0]]
def l93r4 : List AOper :=
  [AOper.mk (some 17) (.mv (.tmp 5)) none [], AOper.mk (some 18) (.mv (.tmp 6)) none [], AOper.mk (some 19) (.mv (.tmp 1)) none [], AOper.mk (some 20) (.mv (.tmp 0)) none [], AOper.mk (some 21) (.mv (.tmp 6)) none [], AOper.mk (some 22) (.idxA 1 (.tmp 20) (.tmp 21)) none [3, 4], AOper.mk (some 23) (.load false 1 (.tmp 22)) none [5], AOper.mk (some 24) (.bin .rem (.tmp 19) (.tmp 23)) none [2, 6], AOper.mk (some 25) (.idxA 1 (.tmp 17) (.tmp 18)) none [0, 1, 0, 1, 2, 3, 4, 5, 6, 7], AOper.mk none (.store 1 (.tmp 25) (.tmp 24)) none [8, 7, 0, 1, 2, 3, 4, 5, 6, 7]]
def l93r5 : List AOper :=
  [AOper.mk (some 26) (.mv (.tmp 1)) none [], AOper.mk (some 27) (.mv (.tmp 0)) none [], AOper.mk (some 28) (.mv (.tmp 6)) none [], AOper.mk (some 29) (.idxA 1 (.tmp 27) (.tmp 28)) none [1, 2], AOper.mk (some 30) (.load false 1 (.tmp 29)) none [3], AOper.mk (some 31) (.bin .quo (.tmp 26) (.tmp 30)) none [0, 4], AOper.mk (some 1) (.mv (.tmp 31)) none [5, 0, 1, 2, 3, 4, 5]]
def l93r6 : List AOper :=
  [AOper.mk (some 15) (.mv (.tmp 6)) none [], AOper.mk (some 16) (.bin .sub (.tmp 15) (.const (.int .i64 1))) none [0], AOper.mk (some 6) (.mv (.tmp 16)) none [1, 0, 1]]
def l93r7 : List AOper :=
  [AOper.mk (some 32) (.mv (.tmp 5)) none [], AOper.mk (some 4) (.mv (.tmp 32)) none [0, 0]]
def l93 : AFn :=
  (AFn.mk 33 2 (ACode.seq (ACode.reg l93r0) (ACode.seq (ACode.reg l93r1) (ACode.seq (ACode.seq (ACode.reg l93r2) (ACode.block 0 (ACode.loop (ACode.seq (ACode.seq (ACode.reg l93r3) (ACode.cond (.tmp 14) ACode.skip (ACode.exit 0))) (ACode.seq (ACode.block 1 (ACode.seq (ACode.reg l93r4) (ACode.reg l93r5))) (ACode.reg l93r6)))))) (ACode.seq (ACode.reg l93r7) ACode.ret)))) [ARes.tmp 4])
theorem l93_eq : lowFn Try.prog 93 = some l93 := by kernel_rfl
def l95r0 : List AOper :=
  [AOper.mk (some 4) (.mv (.const (.bool false))) none []]
def l95r1 : List AOper :=
  [AOper.mk (some 5) (.mv (.tmp 1)) none [], AOper.mk (some 6) (.un .neg (.tmp 5)) none [0], AOper.mk (some 7) (.mv (.tmp 0)) none [], AOper.mk (some 8) (.bin .leq (.tmp 6) (.tmp 7)) none [1, 2], AOper.mk (some 9) (.mv (.tmp 8)) none [3], AOper.mk (some 10) (.mv (.tmp 0)) (some (9, true)) [4], AOper.mk (some 11) (.mv (.tmp 1)) (some (9, true)) [4], AOper.mk (some 12) (.bin .leq (.tmp 10) (.tmp 11)) (some (9, true)) [5, 6, 4], AOper.mk (some 13) (.pick (.tmp 9) (.tmp 12) (.const (.bool false))) none [4, 7], AOper.mk (some 4) (.mv (.tmp 13)) none [8, 4, 0, 1, 2, 3, 4, 5, 6, 7, 8]]
def l95 : AFn :=
  (AFn.mk 14 2 (ACode.seq (ACode.reg l95r0) (ACode.seq (ACode.reg l95r1) ACode.ret)) [ARes.tmp 4])
theorem l95_eq : lowFn Try.prog 95 = some l95 := by kernel_rfl
def l98r0 : List AOper :=
  [AOper.mk (some 2) (.box (.tmp 0)) none [], AOper.mk (some 4) (.mv (.const (.int .i64 0))) none []]
def l98r1 : List AOper :=
  [AOper.mk (some 5) (.mv (.const (.int .i64 0))) none []]
def l98r2 : List AOper :=
  [AOper.mk (some 8) (.mv (.tmp 1)) none [], AOper.mk (some 9) (.len (.tmp 8)) none [0], AOper.mk (some 10) (.mv (.const (.int .i64 0))) none []]
def l98r3 : List AOper :=
  [AOper.mk (some 11) (.bin .lss (.tmp 10) (.tmp 9)) none []]
def l98r4 : List AOper :=
  [AOper.mk (some 12) (.mv (.tmp 10)) none [], AOper.mk (some 13) (.idxA 1 (.tmp 8) (.tmp 10)) none [], AOper.mk (some 14) (.load false 1 (.tmp 13)) none [1], AOper.mk (some 6) (.mv (.tmp 12)) none [0, 0, 1, 2], AOper.mk (some 7) (.mv (.tmp 14)) none [2, 3, 0, 1, 2, 3]]
def l98r5 : List AOper :=
  [AOper.mk (some 15) (.mv (.tmp 5)) none [], AOper.mk (some 16) (.mv (.tmp 6)) none [], AOper.mk (some 17) (.idxP 1 4 (.tmp 2) (.tmp 16)) none [1], AOper.mk (some 18) (.load false 1 (.tmp 17)) none [2], AOper.mk (some 19) (.mv (.tmp 7)) none [], AOper.mk (some 20) (.bin .mul (.tmp 18) (.tmp 19)) none [3, 4], AOper.mk (some 21) (.bin .add (.tmp 15) (.tmp 20)) none [0, 5], AOper.mk (some 5) (.mv (.tmp 21)) none [6, 0, 1, 2, 3, 4, 5, 6]]
def l98r6 : List AOper :=
  [AOper.mk (some 22) (.bin .add (.tmp 10) (.const (.int .i64 1))) none [], AOper.mk (some 10) (.mv (.tmp 22)) none [0]]
def l98r7 : List AOper :=
  [AOper.mk (some 23) (.mv (.tmp 5)) none [], AOper.mk (some 4) (.mv (.tmp 23)) none [0, 0]]
def l98 : AFn :=
  (AFn.mk 24 2 (ACode.seq (ACode.reg l98r0) (ACode.seq (ACode.reg l98r1) (ACode.seq (ACode.seq (ACode.reg l98r2) (ACode.block 0 (ACode.loop (ACode.seq (ACode.reg l98r3) (ACode.seq (ACode.cond (.tmp 11) ACode.skip (ACode.exit 0)) (ACode.seq (ACode.block 1 (ACode.seq (ACode.reg l98r4) (ACode.reg l98r5))) (ACode.reg l98r6))))))) (ACode.seq (ACode.reg l98r7) ACode.ret)))) [ARes.tmp 4])
theorem l98_eq : lowFn Try.prog 98 = some l98 := by kernel_rfl
end Go.Proofs.Ytfkaejajkkbpmaa
