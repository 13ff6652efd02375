import Derived.Test.YtfkaejajkkbpmaaCW3
import Derived.Test.YtfkaejajkkbpmaaProg
import Derived.KernelRfl
set_option maxRecDepth 100000
namespace Go.Proofs.Ytfkaejajkkbpmaa
open Vw Go
def l7r0 : List AOper :=
  [AOper.mk (some 2) (.box (.tmp 0)) none [], AOper.mk (some 4) (.mv (.const (.bool false))) none []]
def l7r1 : List AOper :=
  [AOper.mk (some 17) (.mv (.tmp 1)) none [], AOper.mk (some 18) (.len (.tmp 17)) none [0], AOper.mk (some 19) (.bin .gtr (.tmp 18) (.const (.int .i64 1048576))) none [1]]
def l7r2 : List AOper :=
  [AOper.mk (some 4) (.mv (.const (.bool true))) none []]
def l7r3 : List AOper :=
  [AOper.mk (some 5) (.mv (.const (.int .i64 1048576))) none []]
def l7r4 : List AOper :=
  [AOper.mk (some 20) (.load true 3 (.tmp 2)) none [], AOper.mk (some 21) (.mv (.tmp 5)) none [], AOper.mk (some 22) (.call 10 [.tmp 20, .tmp 21]) none [0, 1], AOper.mk (some 5) (.mv (.tmp 22)) none [2, 2, 0, 1, 2]]
def l7r5 : List AOper :=
  [AOper.mk (some 23) (.mv (.tmp 5)) none [], AOper.mk (some 24) (.bin .lss (.tmp 23) (.const (.int .i64 0))) none [0]]
def l7r6 : List AOper :=
  [AOper.mk (some 4) (.mv (.const (.bool true))) none []]
def l7r7 : List AOper :=
  [AOper.mk (some 26) (.load true 3 (.tmp 2)) none [], AOper.mk (some 27) (.call 12 [.tmp 26]) none [0], AOper.mk (some 28) (.mv (.tmp 1)) none [], AOper.mk (some 29) (.call 21 [.tmp 28]) none [2, 1], AOper.mk (some 30) (.call 27 [.tmp 27, .tmp 29]) none [1, 3, 3], AOper.mk (some 25) (.mv (.tmp 30)) none [4], AOper.mk (some 31) (.extract (.tmp 25) 0) none [5], AOper.mk (some 32) (.extract (.tmp 25) 1) none [5], AOper.mk (some 6) (.alloc [.int .i64 0, .slice none 0 0, .slice none 0 0]) none [], AOper.mk none (.store 3 (.tmp 6) (.tmp 31)) none [8, 6, 4, 0, 1, 2, 3, 4, 5, 6, 8], AOper.mk (some 7) (.mv (.tmp 32)) none [7, 9, 0, 1, 2, 3, 4, 5, 6, 7, 8, 9]]
def l7r8 : List AOper :=
  [AOper.mk (some 33) (.load true 3 (.tmp 2)) none [], AOper.mk (some 34) (.call 12 [.tmp 33]) none [0], AOper.mk (some 8) (.alloc [.int .i64 0, .slice none 0 0, .slice none 0 0]) none [], AOper.mk none (.store 3 (.tmp 8) (.tmp 34)) none [2, 1, 1, 0, 1, 2]]
def l7r9 : List AOper :=
  [AOper.mk (some 35) (.mv (.tmp 1)) none [], AOper.mk (some 36) (.call 21 [.tmp 35]) none [0], AOper.mk (some 9) (.mv (.tmp 36)) none [1, 1, 0, 1]]
def l7r10 : List AOper :=
  [AOper.mk (some 38) (.load true 3 (.tmp 8)) none [], AOper.mk (some 39) (.mv (.tmp 9)) none [], AOper.mk (some 40) (.call 28 [.tmp 38, .tmp 39]) none [0, 1], AOper.mk (some 37) (.mv (.tmp 40)) none [2], AOper.mk (some 41) (.extract (.tmp 37) 0) none [3], AOper.mk (some 42) (.extract (.tmp 37) 1) none [3], AOper.mk (some 10) (.alloc [.int .i64 0, .slice none 0 0, .slice none 0 0]) none [], AOper.mk none (.store 3 (.tmp 10) (.tmp 41)) none [6, 4, 2, 0, 1, 2, 3, 4, 6], AOper.mk (some 11) (.mv (.tmp 42)) none [5, 7, 0, 1, 2, 3, 4, 5, 6, 7]]
def l7r11 : List AOper :=
  [AOper.mk (some 43) (.load true 3 (.tmp 10)) none [], AOper.mk (some 44) (.load true 3 (.tmp 6)) none [], AOper.mk (some 45) (.call 15 [.tmp 43, .tmp 44]) none [0, 1], AOper.mk (some 46) (.un .not (.tmp 45)) none [2], AOper.mk (some 47) (.mv (.tmp 46)) none [3, 2], AOper.mk (some 48) (.mv (.tmp 11)) (some (47, false)) [4], AOper.mk (some 49) (.mv (.tmp 7)) (some (47, false)) [4], AOper.mk (some 50) (.binB .neq (.tmp 48) (.tmp 49)) (some (47, false)) [5, 6, 4], AOper.mk (some 51) (.pick (.tmp 47) (.const (.bool true)) (.tmp 50)) none [4, 7]]
def l7r12 : List AOper :=
  [AOper.mk (some 4) (.mv (.const (.bool false))) none []]
def l7r13a : List AOper :=
  [AOper.mk (some 52) (.load true 3 (.tmp 8)) none [], AOper.mk (some 53) (.load true 3 (.tmp 2)) none [], AOper.mk (some 54) (.call 12 [.tmp 53]) none [1]]
def l7r13b : List AOper :=
  [AOper.mk (some 55) (.call 15 [.tmp 52, .tmp 54]) none [0, 2, 2], AOper.mk (some 56) (.un .not (.tmp 55)) none [3]]
def l7r13 : List AOper := l7r13a ++ l7r13b
def l7r14 : List AOper :=
  [AOper.mk (some 4) (.mv (.const (.bool false))) none []]
def l7r15 : List AOper :=
  [AOper.mk (some 57) (.mv (.tmp 9)) none [], AOper.mk (some 58) (.mv (.tmp 1)) none [], AOper.mk (some 59) (.call 21 [.tmp 58]) none [1], AOper.mk (some 60) (.call 23 [.tmp 57, .tmp 59]) none [0, 2, 2], AOper.mk (some 61) (.un .not (.tmp 60)) none [3]]
def l7r16 : List AOper :=
  [AOper.mk (some 4) (.mv (.const (.bool false))) none []]
def l7r17 : List AOper :=
  [AOper.mk (some 12) (.mv (.const (.int .i64 1))) none []]
def l7r18 : List AOper :=
  [AOper.mk (some 62) (.load true 3 (.tmp 8)) none [], AOper.mk (some 63) (.mv (.tmp 12)) none [], AOper.mk (some 64) (.call 16 [.tmp 62, .tmp 63]) none [0, 1], AOper.mk (some 12) (.mv (.tmp 64)) none [2, 2, 0, 1, 2]]
def l7r19 : List AOper :=
  [AOper.mk (some 65) (.mv (.tmp 9)) none [], AOper.mk (some 66) (.mv (.tmp 12)) none [], AOper.mk (some 67) (.call 24 [.tmp 65, .tmp 66]) none [0, 1], AOper.mk (some 12) (.mv (.tmp 67)) none [2, 2, 0, 1, 2]]
def l7r20 : List AOper :=
  [AOper.mk (some 68) (.mv (.tmp 12)) none [], AOper.mk (some 69) (.bin .lss (.tmp 68) (.const (.int .i64 0))) none [0], AOper.mk (some 70) (.mv (.tmp 69)) none [1], AOper.mk (some 71) (.load true 3 (.tmp 10)) (some (70, false)) [2], AOper.mk (some 72) (.load true 3 (.tmp 6)) (some (70, false)) [2], AOper.mk (some 73) (.call 15 [.tmp 71, .tmp 72]) (some (70, false)) [3, 4, 2, 2], AOper.mk (some 74) (.un .not (.tmp 73)) (some (70, false)) [5, 2], AOper.mk (some 75) (.pick (.tmp 70) (.const (.bool true)) (.tmp 74)) none [2, 6], AOper.mk (some 76) (.mv (.tmp 75)) none [7, 5], AOper.mk (some 77) (.mv (.tmp 11)) (some (76, false)) [8], AOper.mk (some 78) (.mv (.tmp 7)) (some (76, false)) [8], AOper.mk (some 79) (.binB .neq (.tmp 77) (.tmp 78)) (some (76, false)) [9, 10, 8], AOper.mk (some 80) (.pick (.tmp 76) (.const (.bool true)) (.tmp 79)) none [8, 11]]
def l7r21 : List AOper :=
  [AOper.mk (some 4) (.mv (.const (.bool false))) none []]
def l7r22 : List AOper :=
  [AOper.mk (some 13) (.mv (.const (.int .i64 1))) none []]
def l7r23 : List AOper :=
  [AOper.mk (some 81) (.load true 3 (.tmp 10)) none [], AOper.mk (some 82) (.mv (.tmp 13)) none [], AOper.mk (some 83) (.call 16 [.tmp 81, .tmp 82]) none [0, 1], AOper.mk (some 13) (.mv (.tmp 83)) none [2, 2, 0, 1, 2]]
def l7r24 : List AOper :=
  [AOper.mk (some 14) (.mv (.const (.int .i64 1))) none []]
def l7r25 : List AOper :=
  [AOper.mk (some 84) (.load true 3 (.tmp 10)) none [], AOper.mk (some 85) (.mv (.tmp 14)) none [], AOper.mk (some 86) (.call 17 [.tmp 84, .tmp 85]) none [0, 1], AOper.mk (some 14) (.mv (.tmp 86)) none [2, 2, 0, 1, 2]]
def l7r26 : List AOper :=
  [AOper.mk (some 87) (.mv (.tmp 14)) none [], AOper.mk (some 88) (.bin .lss (.tmp 87) (.const (.int .i64 0))) none [0]]
def l7r27 : List AOper :=
  [AOper.mk (some 4) (.mv (.const (.bool false))) none []]
def l7r28 : List AOper :=
  [AOper.mk (some 89) (.mv (.tmp 14)) none [], AOper.mk (some 90) (.mv (.tmp 13)) none [], AOper.mk (some 91) (.bin .neq (.tmp 89) (.tmp 90)) none [0, 1]]
def l7r29 : List AOper :=
  [AOper.mk (some 4) (.mv (.const (.bool false))) none []]
def l7r30 : List AOper :=
  [AOper.mk (some 93) (.load true 3 (.tmp 2)) none [], AOper.mk (some 94) (.call 12 [.tmp 93]) none [0], AOper.mk (some 95) (.mv (.tmp 1)) none [], AOper.mk (some 96) (.call 21 [.tmp 95]) none [2, 1], AOper.mk (some 97) (.call 28 [.tmp 94, .tmp 96]) none [1, 3, 3], AOper.mk (some 92) (.mv (.tmp 97)) none [4], AOper.mk (some 98) (.extract (.tmp 92) 0) none [5], AOper.mk (some 99) (.extract (.tmp 92) 1) none [5], AOper.mk (some 15) (.alloc [.int .i64 0, .slice none 0 0, .slice none 0 0]) none [], AOper.mk none (.store 3 (.tmp 15) (.tmp 98)) none [8, 6, 4, 0, 1, 2, 3, 4, 5, 6, 8], AOper.mk (some 16) (.mv (.tmp 99)) none [7, 9, 0, 1, 2, 3, 4, 5, 6, 7, 8, 9]]
def l7r31 : List AOper :=
  [AOper.mk (some 100) (.load true 3 (.tmp 15)) none [], AOper.mk (some 101) (.load true 3 (.tmp 6)) none [], AOper.mk (some 102) (.call 15 [.tmp 100, .tmp 101]) none [0, 1], AOper.mk (some 103) (.un .not (.tmp 102)) none [2], AOper.mk (some 104) (.mv (.tmp 103)) none [3, 2], AOper.mk (some 105) (.mv (.tmp 16)) (some (104, false)) [4], AOper.mk (some 106) (.mv (.tmp 7)) (some (104, false)) [4], AOper.mk (some 107) (.binB .neq (.tmp 105) (.tmp 106)) (some (104, false)) [5, 6, 4], AOper.mk (some 108) (.pick (.tmp 104) (.const (.bool true)) (.tmp 107)) none [4, 7]]
def l7r32 : List AOper :=
  [AOper.mk (some 4) (.mv (.const (.bool false))) none []]
def l7r33 : List AOper :=
  [AOper.mk (some 14) (.mv (.const (.int .i64 1))) none []]
def l7r34 : List AOper :=
  [AOper.mk (some 109) (.load true 3 (.tmp 10)) none [], AOper.mk (some 110) (.mv (.tmp 14)) none [], AOper.mk (some 111) (.call 17 [.tmp 109, .tmp 110]) none [0, 1], AOper.mk (some 14) (.mv (.tmp 111)) none [2, 2, 0, 1, 2]]
def l7r35 : List AOper :=
  [AOper.mk (some 112) (.mv (.tmp 14)) none [], AOper.mk (some 113) (.bin .lss (.tmp 112) (.const (.int .i64 0))) none [0]]
def l7r36 : List AOper :=
  [AOper.mk (some 4) (.mv (.const (.bool false))) none []]
def l7r37 : List AOper :=
  [AOper.mk (some 114) (.mv (.tmp 14)) none [], AOper.mk (some 115) (.mv (.tmp 13)) none [], AOper.mk (some 116) (.bin .neq (.tmp 114) (.tmp 115)) none [0, 1]]
def l7r38 : List AOper :=
  [AOper.mk (some 4) (.mv (.const (.bool false))) none []]
def l7r39 : List AOper :=
  [AOper.mk (some 4) (.mv (.const (.bool true))) none []]
def l7 : AFn :=
  (AFn.mk 117 2 (ACode.seq (ACode.reg l7r0) (ACode.seq (ACode.seq (ACode.reg l7r1) (ACode.cond (.tmp 19) (ACode.seq (ACode.reg l7r2) ACode.ret) ACode.skip)) (ACode.seq (ACode.reg l7r3) (ACode.seq (ACode.reg l7r4) (ACode.seq (ACode.seq (ACode.reg l7r5) (ACode.cond (.tmp 24) (ACode.seq (ACode.reg l7r6) ACode.ret) ACode.skip)) (ACode.seq (ACode.reg l7r7) (ACode.seq (ACode.reg l7r8) (ACode.seq (ACode.reg l7r9) (ACode.seq (ACode.reg l7r10) (ACode.seq (ACode.seq (ACode.reg l7r11) (ACode.cond (.tmp 51) (ACode.seq (ACode.reg l7r12) ACode.ret) ACode.skip)) (ACode.seq (ACode.seq (ACode.draw l7r13) (ACode.cond (.tmp 56) (ACode.seq (ACode.reg l7r14) ACode.ret) ACode.skip)) (ACode.seq (ACode.seq (ACode.reg l7r15) (ACode.cond (.tmp 61) (ACode.seq (ACode.reg l7r16) ACode.ret) ACode.skip)) (ACode.seq (ACode.reg l7r17) (ACode.seq (ACode.reg l7r18) (ACode.seq (ACode.reg l7r19) (ACode.seq (ACode.seq (ACode.reg l7r20) (ACode.cond (.tmp 80) (ACode.seq (ACode.reg l7r21) ACode.ret) ACode.skip)) (ACode.seq (ACode.reg l7r22) (ACode.seq (ACode.reg l7r23) (ACode.seq (ACode.reg l7r24) (ACode.seq (ACode.reg l7r25) (ACode.seq (ACode.seq (ACode.reg l7r26) (ACode.cond (.tmp 88) (ACode.seq (ACode.reg l7r27) ACode.ret) ACode.skip)) (ACode.seq (ACode.seq (ACode.reg l7r28) (ACode.cond (.tmp 91) (ACode.seq (ACode.reg l7r29) ACode.ret) ACode.skip)) (ACode.seq (ACode.reg l7r30) (ACode.seq (ACode.seq (ACode.reg l7r31) (ACode.cond (.tmp 108) (ACode.seq (ACode.reg l7r32) ACode.ret) ACode.skip)) (ACode.seq (ACode.reg l7r33) (ACode.seq (ACode.reg l7r34) (ACode.seq (ACode.seq (ACode.reg l7r35) (ACode.cond (.tmp 113) (ACode.seq (ACode.reg l7r36) ACode.ret) ACode.skip)) (ACode.seq (ACode.seq (ACode.reg l7r37) (ACode.cond (.tmp 116) (ACode.seq (ACode.reg l7r38) ACode.ret) ACode.skip)) (ACode.seq (ACode.reg l7r39) ACode.ret))))))))))))))))))))))))))))) [ARes.tmp 4])
theorem l7_eq : lowFn Try.prog 7 = some l7 := by kernel_rfl
def l10r0 : List AOper :=
  [AOper.mk (some 2) (.box (.tmp 0)) none [], AOper.mk (some 4) (.mv (.const (.int .i64 0))) none []]
def l10r1 : List AOper :=
  [AOper.mk (some 5) (.fld 1 (.tmp 2)) none [], AOper.mk (some 6) (.load false 1 (.tmp 5)) none [0], AOper.mk (some 7) (.mv (.tmp 1)) none [], AOper.mk (some 8) (.call 33 [.tmp 6, .tmp 7]) none [1, 2], AOper.mk (some 1) (.mv (.tmp 8)) none [3, 3, 0, 1, 2, 3]]
def l10r2 : List AOper :=
  [AOper.mk (some 9) (.mv (.tmp 1)) none [], AOper.mk (some 10) (.bin .lss (.tmp 9) (.const (.int .i64 0))) none [0]]
def l10r3 : List AOper :=
  [AOper.mk (some 4) (.mv (.const (.int .i64 (-1)))) none []]
def l10r4 : List AOper :=
  [AOper.mk (some 11) (.fld 2 (.tmp 2)) none [], AOper.mk (some 12) (.load false 1 (.tmp 11)) none [0], AOper.mk (some 13) (.mv (.tmp 1)) none [], AOper.mk (some 14) (.call 33 [.tmp 12, .tmp 13]) none [1, 2], AOper.mk (some 1) (.mv (.tmp 14)) none [3, 3, 0, 1, 2, 3]]
def l10r5 : List AOper :=
  [AOper.mk (some 15) (.mv (.tmp 1)) none [], AOper.mk (some 16) (.bin .lss (.tmp 15) (.const (.int .i64 0))) none [0]]
def l10r6 : List AOper :=
  [AOper.mk (some 4) (.mv (.const (.int .i64 (-1)))) none []]
def l10r7 : List AOper :=
  [AOper.mk (some 17) (.mv (.tmp 1)) none [], AOper.mk (some 4) (.mv (.tmp 17)) none [0, 0]]
def l10 : AFn :=
  (AFn.mk 18 2 (ACode.seq (ACode.reg l10r0) (ACode.seq (ACode.reg l10r1) (ACode.seq (ACode.seq (ACode.reg l10r2) (ACode.cond (.tmp 10) (ACode.seq (ACode.reg l10r3) ACode.ret) ACode.skip)) (ACode.seq (ACode.reg l10r4) (ACode.seq (ACode.seq (ACode.reg l10r5) (ACode.cond (.tmp 16) (ACode.seq (ACode.reg l10r6) ACode.ret) ACode.skip)) (ACode.seq (ACode.reg l10r7) ACode.ret)))))) [ARes.tmp 4])
theorem l10_eq : lowFn Try.prog 10 = some l10 := by kernel_rfl
def l12r0 : List AOper :=
  [AOper.mk (some 1) (.box (.tmp 0)) none [], AOper.mk (some 2) (.alloc [.int .i64 0, .slice none 0 0, .slice none 0 0]) none []]
def l12r1 : List AOper :=
  [AOper.mk (some 3) (.alloc [.int .i64 0, .slice none 0 0, .slice none 0 0]) none []]
def l12r2 : List AOper :=
  [AOper.mk (some 4) (.fld 0 (.tmp 1)) none [], AOper.mk (some 5) (.load false 1 (.tmp 4)) none [0], AOper.mk (some 6) (.fld 0 (.tmp 3)) none [0, 1], AOper.mk none (.store 1 (.tmp 6) (.tmp 5)) none [2, 1, 0, 1]]
def l12r3 : List AOper :=
  [AOper.mk (some 7) (.fld 1 (.tmp 1)) none [], AOper.mk (some 8) (.load false 1 (.tmp 7)) none [0], AOper.mk (some 9) (.call 21 [.tmp 8]) none [1], AOper.mk (some 10) (.fld 1 (.tmp 3)) none [0, 1, 2], AOper.mk none (.store 1 (.tmp 10) (.tmp 9)) none [3, 2, 2, 0, 1, 2]]
def l12r4 : List AOper :=
  [AOper.mk (some 11) (.fld 2 (.tmp 1)) none [], AOper.mk (some 12) (.load false 1 (.tmp 11)) none [0], AOper.mk (some 13) (.call 21 [.tmp 12]) none [1], AOper.mk (some 14) (.fld 2 (.tmp 3)) none [0, 1, 2], AOper.mk none (.store 1 (.tmp 14) (.tmp 13)) none [3, 2, 2, 0, 1, 2]]
def l12r5 : List AOper :=
  [AOper.mk (some 15) (.load true 3 (.tmp 3)) none [], AOper.mk none (.store 3 (.tmp 2) (.tmp 15)) none [0, 0]]
def l12 : AFn :=
  (AFn.mk 16 1 (ACode.seq (ACode.reg l12r0) (ACode.seq (ACode.reg l12r1) (ACode.seq (ACode.reg l12r2) (ACode.seq (ACode.reg l12r3) (ACode.seq (ACode.reg l12r4) (ACode.seq (ACode.reg l12r5) ACode.ret)))))) [ARes.cell 2 true 3])
theorem l12_eq : lowFn Try.prog 12 = some l12 := by kernel_rfl
def l15r0 : List AOper :=
  [AOper.mk (some 2) (.box (.tmp 0)) none [], AOper.mk (some 3) (.box (.tmp 1)) none [], AOper.mk (some 4) (.mv (.const (.bool false))) none []]
def l15r1 : List AOper :=
  [AOper.mk (some 5) (.fld 0 (.tmp 2)) none [], AOper.mk (some 6) (.load false 1 (.tmp 5)) none [0], AOper.mk (some 7) (.fld 0 (.tmp 3)) none [], AOper.mk (some 8) (.load false 1 (.tmp 7)) none [2], AOper.mk (some 9) (.bin .neq (.tmp 6) (.tmp 8)) none [1, 3]]
def l15r2 : List AOper :=
  [AOper.mk (some 4) (.mv (.const (.bool false))) none []]
def l15r3 : List AOper :=
  [AOper.mk (some 10) (.fld 1 (.tmp 2)) none [], AOper.mk (some 11) (.load false 1 (.tmp 10)) none [0], AOper.mk (some 12) (.fld 1 (.tmp 3)) none [], AOper.mk (some 13) (.load false 1 (.tmp 12)) none [2], AOper.mk (some 14) (.call 23 [.tmp 11, .tmp 13]) none [1, 3], AOper.mk (some 15) (.un .not (.tmp 14)) none [4]]
def l15r4 : List AOper :=
  [AOper.mk (some 4) (.mv (.const (.bool false))) none []]
def l15r5 : List AOper :=
  [AOper.mk (some 16) (.fld 2 (.tmp 2)) none [], AOper.mk (some 17) (.load false 1 (.tmp 16)) none [0], AOper.mk (some 18) (.fld 2 (.tmp 3)) none [], AOper.mk (some 19) (.load false 1 (.tmp 18)) none [2], AOper.mk (some 20) (.call 23 [.tmp 17, .tmp 19]) none [1, 3], AOper.mk (some 21) (.un .not (.tmp 20)) none [4]]
def l15r6 : List AOper :=
  [AOper.mk (some 4) (.mv (.const (.bool false))) none []]
def l15r7 : List AOper :=
  [AOper.mk (some 4) (.mv (.const (.bool true))) none []]
def l15 : AFn :=
  (AFn.mk 22 2 (ACode.seq (ACode.reg l15r0) (ACode.seq (ACode.seq (ACode.reg l15r1) (ACode.cond (.tmp 9) (ACode.seq (ACode.reg l15r2) ACode.ret) ACode.skip)) (ACode.seq (ACode.seq (ACode.reg l15r3) (ACode.cond (.tmp 15) (ACode.seq (ACode.reg l15r4) ACode.ret) ACode.skip)) (ACode.seq (ACode.seq (ACode.reg l15r5) (ACode.cond (.tmp 21) (ACode.seq (ACode.reg l15r6) ACode.ret) ACode.skip)) (ACode.seq (ACode.reg l15r7) ACode.ret))))) [ARes.tmp 4])
theorem l15_eq : lowFn Try.prog 15 = some l15 := by kernel_rfl
def l16r0 : List AOper :=
  [AOper.mk (some 2) (.box (.tmp 0)) none [], AOper.mk (some 4) (.mv (.const (.int .i64 0))) none []]
def l16r1 : List AOper :=
  [AOper.mk (some 5) (.fld 1 (.tmp 2)) none [], AOper.mk (some 6) (.load false 1 (.tmp 5)) none [0], AOper.mk (some 7) (.mv (.tmp 1)) none [], AOper.mk (some 8) (.call 24 [.tmp 6, .tmp 7]) none [1, 2], AOper.mk (some 1) (.mv (.tmp 8)) none [3, 3, 0, 1, 2, 3]]
def l16r2 : List AOper :=
  [AOper.mk (some 9) (.fld 2 (.tmp 2)) none [], AOper.mk (some 10) (.load false 1 (.tmp 9)) none [0], AOper.mk (some 11) (.mv (.tmp 1)) none [], AOper.mk (some 12) (.call 24 [.tmp 10, .tmp 11]) none [1, 2], AOper.mk (some 1) (.mv (.tmp 12)) none [3, 3, 0, 1, 2, 3]]
def l16r3 : List AOper :=
  [AOper.mk (some 13) (.mv (.tmp 1)) none [], AOper.mk (some 4) (.mv (.tmp 13)) none [0, 0]]
def l16 : AFn :=
  (AFn.mk 14 2 (ACode.seq (ACode.reg l16r0) (ACode.seq (ACode.reg l16r1) (ACode.seq (ACode.reg l16r2) (ACode.seq (ACode.reg l16r3) ACode.ret)))) [ARes.tmp 4])
theorem l16_eq : lowFn Try.prog 16 = some l16 := by kernel_rfl
def l17r0 : List AOper :=
  [AOper.mk (some 2) (.box (.tmp 0)) none [], AOper.mk (some 4) (.mv (.const (.int .i64 0))) none []]
def l17r1 : List AOper :=
  [AOper.mk (some 5) (.fld 1 (.tmp 2)) none [], AOper.mk (some 6) (.load false 1 (.tmp 5)) none [0], AOper.mk (some 7) (.mv (.tmp 1)) none [], AOper.mk (some 8) (.call 46 [.tmp 6, .tmp 7]) none [1, 2], AOper.mk (some 1) (.mv (.tmp 8)) none [3, 3, 0, 1, 2, 3]]
def l17r2 : List AOper :=
  [AOper.mk (some 9) (.mv (.tmp 1)) none [], AOper.mk (some 10) (.bin .lss (.tmp 9) (.const (.int .i64 0))) none [0]]
def l17r3 : List AOper :=
  [AOper.mk (some 4) (.mv (.const (.int .i64 (-1)))) none []]
def l17r4 : List AOper :=
  [AOper.mk (some 11) (.fld 2 (.tmp 2)) none [], AOper.mk (some 12) (.load false 1 (.tmp 11)) none [0], AOper.mk (some 13) (.mv (.tmp 1)) none [], AOper.mk (some 14) (.call 46 [.tmp 12, .tmp 13]) none [1, 2], AOper.mk (some 1) (.mv (.tmp 14)) none [3, 3, 0, 1, 2, 3]]
def l17r5 : List AOper :=
  [AOper.mk (some 15) (.mv (.tmp 1)) none [], AOper.mk (some 16) (.bin .lss (.tmp 15) (.const (.int .i64 0))) none [0]]
def l17r6 : List AOper :=
  [AOper.mk (some 4) (.mv (.const (.int .i64 (-1)))) none []]
def l17r7 : List AOper :=
  [AOper.mk (some 17) (.mv (.tmp 1)) none [], AOper.mk (some 4) (.mv (.tmp 17)) none [0, 0]]
def l17 : AFn :=
  (AFn.mk 18 2 (ACode.seq (ACode.reg l17r0) (ACode.seq (ACode.reg l17r1) (ACode.seq (ACode.seq (ACode.reg l17r2) (ACode.cond (.tmp 10) (ACode.seq (ACode.reg l17r3) ACode.ret) ACode.skip)) (ACode.seq (ACode.reg l17r4) (ACode.seq (ACode.seq (ACode.reg l17r5) (ACode.cond (.tmp 16) (ACode.seq (ACode.reg l17r6) ACode.ret) ACode.skip)) (ACode.seq (ACode.reg l17r7) ACode.ret)))))) [ARes.tmp 4])
theorem l17_eq : lowFn Try.prog 17 = some l17 := by kernel_rfl
def l21r0 : List AOper :=
  [AOper.mk (some 2) (.mv (.const (.slice none 0 0))) none []]
def l21r1 : List AOper :=
  [AOper.mk (some 5) (.mv (.tmp 0)) none [], AOper.mk (some 6) (.len (.tmp 5)) none [0], AOper.mk (some 7) (.mkslice 1 [.int .i64 0] (.tmp 6) (.tmp 6)) none [1, 1], AOper.mk (some 3) (.mv (.tmp 7)) none [2, 0, 1, 2]]
def l21r2 : List AOper :=
  [AOper.mk (some 4) (.mv (.const (.int .i64 0))) none []]
def l21r3 : List AOper :=
  [AOper.mk (some 8) (.mv (.tmp 4)) none [], AOper.mk (some 9) (.mv (.tmp 0)) none [], AOper.mk (some 10) (.len (.tmp 9)) none [1], AOper.mk (some 11) (.bin .lss (.tmp 8) (.tmp 10)) none [0, 2]]
def l21r4 : List AOper :=
  [AOper.mk (some 14) (.mv (.tmp 3)) none [], AOper.mk (some 15) (.mv (.tmp 4)) none [], AOper.mk (some 16) (.mv (.tmp 0)) none [], AOper.mk (some 17) (.mv (.tmp 4)) none [], AOper.mk (some 18) (.idxA 1 (.tmp 16) (.tmp 17)) none [2, 3], AOper.mk (some 19) (.load false 1 (.tmp 18)) none [4], AOper.mk (some 20) (.idxA 1 (.tmp 14) (.tmp 15)) none [0, 1, 0, 1, 2, 3, 4, 5], AOper.mk none (.store 1 (.tmp 20) (.tmp 19)) none [6, 5, 0, 1, 2, 3, 4, 5]]
def l21r5 : List AOper :=
  [AOper.mk (some 12) (.mv (.tmp 4)) none [], AOper.mk (some 13) (.bin .add (.tmp 12) (.const (.int .i64 1))) none [0], AOper.mk (some 4) (.mv (.tmp 13)) none [1, 0, 1]]
def l21r6 : List AOper :=
  [AOper.mk (some 21) (.mv (.tmp 3)) none [], AOper.mk (some 2) (.mv (.tmp 21)) none [0, 0]]
def l21 : AFn :=
  (AFn.mk 22 1 (ACode.seq (ACode.reg l21r0) (ACode.seq (ACode.reg l21r1) (ACode.seq (ACode.seq (ACode.reg l21r2) (ACode.block 0 (ACode.loop (ACode.seq (ACode.seq (ACode.reg l21r3) (ACode.cond (.tmp 11) ACode.skip (ACode.exit 0))) (ACode.seq (ACode.block 1 (ACode.reg l21r4)) (ACode.reg l21r5)))))) (ACode.seq (ACode.reg l21r6) ACode.ret)))) [ARes.tmp 2])
theorem l21_eq : lowFn Try.prog 21 = some l21 := by kernel_rfl
def l23r0 : List AOper :=
  [AOper.mk (some 4) (.mv (.const (.bool false))) none []]
def l23r1 : List AOper :=
  [AOper.mk (some 6) (.mv (.tmp 0)) none [], AOper.mk (some 7) (.len (.tmp 6)) none [0], AOper.mk (some 8) (.mv (.tmp 1)) none [], AOper.mk (some 9) (.len (.tmp 8)) none [2], AOper.mk (some 10) (.bin .neq (.tmp 7) (.tmp 9)) none [1, 3]]
def l23r2 : List AOper :=
  [AOper.mk (some 4) (.mv (.const (.bool false))) none []]
def l23r3 : List AOper :=
  [AOper.mk (some 5) (.mv (.const (.int .i64 0))) none []]
def l23r4 : List AOper :=
  [AOper.mk (some 11) (.mv (.tmp 5)) none [], AOper.mk (some 12) (.mv (.tmp 0)) none [], AOper.mk (some 13) (.len (.tmp 12)) none [1], AOper.mk (some 14) (.bin .lss (.tmp 11) (.tmp 13)) none [0, 2]]
def l23r5a : List AOper :=
  [AOper.mk (some 17) (.mv (.tmp 0)) none [], AOper.mk (some 18) (.mv (.tmp 5)) none [], AOper.mk (some 19) (.idxA 1 (.tmp 17) (.tmp 18)) none [0, 1], AOper.mk (some 20) (.load false 1 (.tmp 19)) none [2], AOper.mk (some 21) (.mv (.tmp 1)) none [], AOper.mk (some 22) (.mv (.tmp 5)) none [], AOper.mk (some 23) (.idxA 1 (.tmp 21) (.tmp 22)) none [4, 5], AOper.mk (some 24) (.load false 1 (.tmp 23)) none [6]]
def l23r5b : List AOper :=
  [AOper.mk (some 25) (.bin .neq (.tmp 20) (.tmp 24)) none [3, 7]]
def l23r5 : List AOper := l23r5a ++ l23r5b
def l23r6 : List AOper :=
  [AOper.mk (some 4) (.mv (.const (.bool false))) none []]
def l23r7 : List AOper :=
  [AOper.mk (some 15) (.mv (.tmp 5)) none [], AOper.mk (some 16) (.bin .add (.tmp 15) (.const (.int .i64 1))) none [0], AOper.mk (some 5) (.mv (.tmp 16)) none [1, 0, 1]]
def l23r8 : List AOper :=
  [AOper.mk (some 4) (.mv (.const (.bool true))) none []]
def l23 : AFn :=
  (AFn.mk 26 2 (ACode.seq (ACode.reg l23r0) (ACode.seq (ACode.seq (ACode.reg l23r1) (ACode.cond (.tmp 10) (ACode.seq (ACode.reg l23r2) ACode.ret) ACode.skip)) (ACode.seq (ACode.seq (ACode.reg l23r3) (ACode.block 0 (ACode.loop (ACode.seq (ACode.seq (ACode.reg l23r4) (ACode.cond (.tmp 14) ACode.skip (ACode.exit 0))) (ACode.seq (ACode.block 1 (ACode.seq (ACode.draw l23r5) (ACode.cond (.tmp 25) (ACode.seq (ACode.reg l23r6) ACode.ret) ACode.skip))) (ACode.reg l23r7)))))) (ACode.seq (ACode.reg l23r8) ACode.ret)))) [ARes.tmp 4])
theorem l23_eq : lowFn Try.prog 23 = some l23 := by kernel_rfl
def l24r0 : List AOper :=
  [AOper.mk (some 4) (.mv (.const (.int .i64 0))) none []]
def l24r1 : List AOper :=
  [AOper.mk (some 5) (.mv (.const (.int .i64 0))) none []]
def l24r2 : List AOper :=
  [AOper.mk (some 6) (.mv (.tmp 5)) none [], AOper.mk (some 7) (.mv (.tmp 0)) none [], AOper.mk (some 8) (.len (.tmp 7)) none [1], AOper.mk (some 9) (.bin .lss (.tmp 6) (.tmp 8)) none [0, 2]]
def l24r3 : List AOper :=
  [AOper.mk (some 12) (.mv (.tmp 0)) none [], AOper.mk (some 13) (.mv (.tmp 5)) none [], AOper.mk (some 14) (.mv (.tmp 1)) none [], AOper.mk (some 15) (.idxA 1 (.tmp 12) (.tmp 13)) none [0, 1, 0, 1, 2], AOper.mk none (.store 1 (.tmp 15) (.tmp 14)) none [3, 2, 0, 1, 2]]
def l24r4 : List AOper :=
  [AOper.mk (some 16) (.mv (.tmp 1)) none [], AOper.mk (some 17) (.bin .add (.tmp 16) (.const (.int .i64 1))) none [0], AOper.mk (some 1) (.mv (.tmp 17)) none [1, 0, 1]]
def l24r5 : List AOper :=
  [AOper.mk (some 10) (.mv (.tmp 5)) none [], AOper.mk (some 11) (.bin .add (.tmp 10) (.const (.int .i64 1))) none [0], AOper.mk (some 5) (.mv (.tmp 11)) none [1, 0, 1]]
def l24r6 : List AOper :=
  [AOper.mk (some 18) (.mv (.tmp 1)) none [], AOper.mk (some 4) (.mv (.tmp 18)) none [0, 0]]
def l24 : AFn :=
  (AFn.mk 19 2 (ACode.seq (ACode.reg l24r0) (ACode.seq (ACode.seq (ACode.reg l24r1) (ACode.block 0 (ACode.loop (ACode.seq (ACode.seq (ACode.reg l24r2) (ACode.cond (.tmp 9) ACode.skip (ACode.exit 0))) (ACode.seq (ACode.block 1 (ACode.seq (ACode.reg l24r3) (ACode.reg l24r4))) (ACode.reg l24r5)))))) (ACode.seq (ACode.reg l24r6) ACode.ret))) [ARes.tmp 4])
theorem l24_eq : lowFn Try.prog 24 = some l24 := by kernel_rfl
def l27r0 : List AOper :=
  [AOper.mk (some 2) (.box (.tmp 0)) none [], AOper.mk (some 4) (.alloc [.int .i64 0, .slice none 0 0, .slice none 0 0]) none [], AOper.mk (some 5) (.mv (.const (.bool false))) none []]
def l27r1 : List AOper :=
  [AOper.mk (some 8) (.load true 3 (.tmp 2)) none [], AOper.mk (some 9) (.call 34 [.tmp 8]) none [0], AOper.mk (some 10) (.un .not (.tmp 9)) none [1], AOper.mk (some 11) (.mv (.tmp 10)) none [2, 1], AOper.mk (some 12) (.mv (.tmp 1)) (some (11, false)) [3], AOper.mk (some 13) (.call 54 [.tmp 12]) (some (11, false)) [4, 3, 3], AOper.mk (some 14) (.un .not (.tmp 13)) (some (11, false)) [5, 3], AOper.mk (some 15) (.pick (.tmp 11) (.const (.bool true)) (.tmp 14)) none [3, 6]]
def l27r2 : List AOper :=
  [AOper.mk (some 16) (.build [.int .i64 0, .slice none 0 0, .slice none 0 0] []) none [], AOper.mk none (.store 3 (.tmp 4) (.tmp 16)) none [0, 0], AOper.mk (some 5) (.mv (.const (.bool false))) none [1, 0, 1]]
def l27r3 : List AOper :=
  [AOper.mk (some 18) (.load true 3 (.tmp 2)) none [], AOper.mk (some 19) (.mv (.tmp 1)) none [], AOper.mk (some 20) (.call 55 [.tmp 18, .tmp 19]) none [0, 1], AOper.mk (some 17) (.mv (.tmp 20)) none [2], AOper.mk (some 21) (.extract (.tmp 17) 0) none [3], AOper.mk (some 22) (.extract (.tmp 17) 1) none [3], AOper.mk (some 6) (.alloc [.int .i64 0, .slice none 0 0, .slice none 0 0]) none [], AOper.mk none (.store 3 (.tmp 6) (.tmp 21)) none [6, 4, 2, 0, 1, 2, 3, 4, 6], AOper.mk (some 7) (.mv (.tmp 22)) none [5, 7, 0, 1, 2, 3, 4, 5, 6, 7]]
def l27r4 : List AOper :=
  [AOper.mk (some 23) (.mv (.tmp 7)) none [], AOper.mk (some 24) (.un .not (.tmp 23)) none [0]]
def l27r5 : List AOper :=
  [AOper.mk (some 25) (.build [.int .i64 0, .slice none 0 0, .slice none 0 0] []) none [], AOper.mk none (.store 3 (.tmp 4) (.tmp 25)) none [0, 0], AOper.mk (some 5) (.mv (.const (.bool false))) none [1, 0, 1]]
def l27r6 : List AOper :=
  [AOper.mk (some 26) (.load true 3 (.tmp 6)) none [], AOper.mk (some 27) (.call 37 [.tmp 26]) none [0], AOper.mk (some 28) (.extract (.tmp 27) 0) none [1], AOper.mk (some 29) (.extract (.tmp 27) 1) none [1], AOper.mk none (.store 3 (.tmp 4) (.tmp 28)) none [2, 1, 0, 1, 2, 3], AOper.mk (some 5) (.mv (.tmp 29)) none [3, 4, 0, 1, 2, 3, 4]]
def l27 : AFn :=
  (AFn.mk 30 2 (ACode.seq (ACode.reg l27r0) (ACode.seq (ACode.seq (ACode.reg l27r1) (ACode.cond (.tmp 15) (ACode.seq (ACode.reg l27r2) ACode.ret) ACode.skip)) (ACode.seq (ACode.reg l27r3) (ACode.seq (ACode.seq (ACode.reg l27r4) (ACode.cond (.tmp 24) (ACode.seq (ACode.reg l27r5) ACode.ret) ACode.skip)) (ACode.seq (ACode.reg l27r6) ACode.ret))))) [ARes.cell 4 true 3, ARes.tmp 5])
theorem l27_eq : lowFn Try.prog 27 = some l27 := by kernel_rfl
def l28r0 : List AOper :=
  [AOper.mk (some 2) (.box (.tmp 0)) none [], AOper.mk (some 4) (.alloc [.int .i64 0, .slice none 0 0, .slice none 0 0]) none [], AOper.mk (some 5) (.mv (.const (.bool false))) none []]
def l28r1a : List AOper :=
  [AOper.mk (some 7) (.load true 3 (.tmp 2)) none [], AOper.mk (some 8) (.call 49 [.tmp 7]) none [0], AOper.mk (some 9) (.un .not (.tmp 8)) none [1], AOper.mk (some 10) (.mv (.tmp 9)) none [2, 1], AOper.mk (some 11) (.mv (.tmp 1)) (some (10, false)) [3], AOper.mk (some 12) (.call 56 [.tmp 11]) (some (10, false)) [4, 3, 3], AOper.mk (some 13) (.un .not (.tmp 12)) (some (10, false)) [5, 3], AOper.mk (some 14) (.pick (.tmp 10) (.const (.bool true)) (.tmp 13)) none [3, 6], AOper.mk (some 15) (.mv (.tmp 14)) none [7, 5], AOper.mk (some 16) (.mv (.tmp 1)) (some (15, false)) [8], AOper.mk (some 17) (.call 57 [.tmp 16]) (some (15, false)) [9, 8, 8], AOper.mk (some 18) (.load true 3 (.tmp 2)) (some (15, false)) [8]]
def l28r1b : List AOper :=
  [AOper.mk (some 19) (.call 58 [.tmp 18]) (some (15, false)) [11, 10, 8], AOper.mk (some 20) (.bin .neq (.tmp 17) (.tmp 19)) (some (15, false)) [10, 12, 8], AOper.mk (some 21) (.pick (.tmp 15) (.const (.bool true)) (.tmp 20)) none [8, 13]]
def l28r1 : List AOper := l28r1a ++ l28r1b
def l28r2 : List AOper :=
  [AOper.mk (some 22) (.build [.int .i64 0, .slice none 0 0, .slice none 0 0] []) none [], AOper.mk none (.store 3 (.tmp 4) (.tmp 22)) none [0, 0], AOper.mk (some 5) (.mv (.const (.bool false))) none [1, 0, 1]]
def l28r3 : List AOper :=
  [AOper.mk (some 23) (.load true 3 (.tmp 2)) none [], AOper.mk (some 24) (.call 42 [.tmp 23]) none [0], AOper.mk (some 25) (.mv (.tmp 1)) none [], AOper.mk (some 26) (.call 59 [.tmp 24, .tmp 25]) none [1, 2, 1], AOper.mk (some 27) (.call 45 [.tmp 26]) none [3, 3], AOper.mk (some 6) (.alloc [.int .i64 0, .slice none 0 0, .slice none 0 0]) none [], AOper.mk none (.store 3 (.tmp 6) (.tmp 27)) none [5, 4, 4, 0, 1, 2, 3, 4, 5]]
def l28r4a : List AOper :=
  [AOper.mk (some 28) (.load true 3 (.tmp 6)) none [], AOper.mk (some 29) (.call 61 [.tmp 28]) none [0], AOper.mk (some 30) (.load true 3 (.tmp 2)) none []]
def l28r4b : List AOper :=
  [AOper.mk (some 31) (.call 61 [.tmp 30]) none [2, 1], AOper.mk (some 32) (.call 60 [.tmp 29, .tmp 31]) none [1, 3, 3], AOper.mk (some 33) (.un .not (.tmp 32)) none [4]]
def l28r4 : List AOper := l28r4a ++ l28r4b
def l28r5 : List AOper :=
  [AOper.mk (some 34) (.build [.int .i64 0, .slice none 0 0, .slice none 0 0] []) none [], AOper.mk none (.store 3 (.tmp 4) (.tmp 34)) none [0, 0], AOper.mk (some 5) (.mv (.const (.bool false))) none [1, 0, 1]]
def l28r6 : List AOper :=
  [AOper.mk (some 35) (.load true 3 (.tmp 6)) none [], AOper.mk none (.store 3 (.tmp 4) (.tmp 35)) none [0, 0], AOper.mk (some 5) (.mv (.const (.bool true))) none [1, 0, 1]]
def l28 : AFn :=
  (AFn.mk 36 2 (ACode.seq (ACode.reg l28r0) (ACode.seq (ACode.seq (ACode.draw l28r1) (ACode.cond (.tmp 21) (ACode.seq (ACode.reg l28r2) ACode.ret) ACode.skip)) (ACode.seq (ACode.reg l28r3) (ACode.seq (ACode.seq (ACode.draw l28r4) (ACode.cond (.tmp 33) (ACode.seq (ACode.reg l28r5) ACode.ret) ACode.skip)) (ACode.seq (ACode.reg l28r6) ACode.ret))))) [ARes.cell 4 true 3, ARes.tmp 5])
theorem l28_eq : lowFn Try.prog 28 = some l28 := by kernel_rfl
def l33r0 : List AOper :=
  [AOper.mk (some 4) (.mv (.const (.int .i64 0))) none []]
def l33r1 : List AOper :=
  [AOper.mk (some 5) (.mv (.tmp 1)) none [], AOper.mk (some 6) (.mv (.tmp 0)) none [], AOper.mk (some 7) (.len (.tmp 6)) none [1], AOper.mk (some 8) (.bin .sub (.tmp 5) (.tmp 7)) none [0, 2], AOper.mk (some 1) (.mv (.tmp 8)) none [3, 0, 1, 2, 3]]
def l33r2 : List AOper :=
  [AOper.mk (some 9) (.mv (.tmp 1)) none [], AOper.mk (some 10) (.bin .lss (.tmp 9) (.const (.int .i64 0))) none [0]]
def l33r3 : List AOper :=
  [AOper.mk (some 4) (.mv (.const (.int .i64 (-1)))) none []]
def l33r4 : List AOper :=
  [AOper.mk (some 11) (.mv (.tmp 1)) none [], AOper.mk (some 4) (.mv (.tmp 11)) none [0, 0]]
def l33 : AFn :=
  (AFn.mk 12 2 (ACode.seq (ACode.reg l33r0) (ACode.seq (ACode.reg l33r1) (ACode.seq (ACode.seq (ACode.reg l33r2) (ACode.cond (.tmp 10) (ACode.seq (ACode.reg l33r3) ACode.ret) ACode.skip)) (ACode.seq (ACode.reg l33r4) ACode.ret)))) [ARes.tmp 4])
theorem l33_eq : lowFn Try.prog 33 = some l33 := by kernel_rfl
def l34r0 : List AOper :=
  [AOper.mk (some 1) (.box (.tmp 0)) none [], AOper.mk (some 2) (.mv (.const (.bool false))) none []]
def l34r1 : List AOper :=
  [AOper.mk (some 3) (.fld 1 (.tmp 1)) none [], AOper.mk (some 4) (.load false 1 (.tmp 3)) none [0], AOper.mk (some 5) (.call 54 [.tmp 4]) none [1], AOper.mk (some 6) (.mv (.tmp 5)) none [2, 2], AOper.mk (some 7) (.fld 2 (.tmp 1)) (some (6, true)) [3], AOper.mk (some 8) (.load false 1 (.tmp 7)) (some (6, true)) [4, 3], AOper.mk (some 9) (.len (.tmp 8)) (some (6, true)) [5, 3], AOper.mk (some 10) (.fld 1 (.tmp 1)) (some (6, true)) [3], AOper.mk (some 11) (.load false 1 (.tmp 10)) (some (6, true)) [7, 3], AOper.mk (some 12) (.len (.tmp 11)) (some (6, true)) [8, 3], AOper.mk (some 13) (.bin .eql (.tmp 9) (.tmp 12)) (some (6, true)) [6, 9, 3], AOper.mk (some 14) (.pick (.tmp 6) (.tmp 13) (.const (.bool false))) none [3, 10], AOper.mk (some 15) (.mv (.tmp 14)) none [11, 3], AOper.mk (some 16) (.fld 2 (.tmp 1)) (some (15, true)) [12], AOper.mk (some 17) (.load false 1 (.tmp 16)) (some (15, true)) [13, 12], AOper.mk (some 18) (.call 69 [.tmp 17, .const (.int .i64 (-60)), .const (.int .i64 60)]) (some (15, true)) [14, 12, 12], AOper.mk (some 19) (.pick (.tmp 15) (.tmp 18) (.const (.bool false))) none [12, 15], AOper.mk (some 20) (.mv (.tmp 19)) none [16, 15], AOper.mk (some 21) (.fld 0 (.tmp 1)) (some (20, true)) [17], AOper.mk (some 22) (.load false 1 (.tmp 21)) (some (20, true)) [18, 17], AOper.mk (some 23) (.call 52 [.tmp 22, .const (.int .i64 0), .const (.int .i64 60)]) (some (20, true)) [19, 17, 17], AOper.mk (some 24) (.pick (.tmp 20) (.tmp 23) (.const (.bool false))) none [17, 20], AOper.mk (some 25) (.mv (.tmp 24)) none [21, 20], AOper.mk (some 26) (.fld 1 (.tmp 1)) (some (25, true)) [22], AOper.mk (some 27) (.load false 1 (.tmp 26)) (some (25, true)) [23, 22], AOper.mk (some 28) (.call 70 [.tmp 27]) (some (25, true)) [24, 22, 22], AOper.mk (some 29) (.bin .eql (.tmp 28) (.const (.int .i64 0))) (some (25, true)) [25, 22], AOper.mk (some 30) (.mv (.tmp 29)) (some (25, true)) [26, 25, 22], AOper.mk (some 31) (.load true 3 (.tmp 1)) (some (30, false)) [27], AOper.mk (some 32) (.call 71 [.tmp 31]) (some (30, false)) [28, 27, 27], AOper.mk (some 33) (.call 69 [.tmp 32, .const (.int .i64 0), .const (.int .i64 59)]) (some (30, false)) [29, 29, 27], AOper.mk (some 34) (.pick (.tmp 30) (.const (.bool true)) (.tmp 33)) (some (25, true)) [27, 30, 22], AOper.mk (some 35) (.pick (.tmp 25) (.tmp 34) (.const (.bool false))) none [22, 31], AOper.mk (some 2) (.mv (.tmp 35)) none [32, 30, 0, 1, 2, 3, 4, 5, 6, 7, 8, 9, 10, 11, 12, 13, 14, 15, 16, 17, 18, 19, 20, 21, 22, 23, 24, 25, 26, 27, 28, 29, 30, 31, 32]]
def l34 : AFn :=
  (AFn.mk 36 1 (ACode.seq (ACode.reg l34r0) (ACode.seq (ACode.reg l34r1) ACode.ret)) [ARes.tmp 2])
theorem l34_eq : lowFn Try.prog 34 = some l34 := by kernel_rfl
def l37r0 : List AOper :=
  [AOper.mk (some 1) (.box (.tmp 0)) none [], AOper.mk (some 2) (.alloc [.int .i64 0, .slice none 0 0, .slice none 0 0]) none [], AOper.mk (some 3) (.mv (.const (.bool false))) none []]
def l37r1 : List AOper :=
  [AOper.mk (some 4) (.load true 3 (.tmp 1)) none [], AOper.mk (some 5) (.call 34 [.tmp 4]) none [0], AOper.mk (some 6) (.un .not (.tmp 5)) none [1]]
def l37r2 : List AOper :=
  [AOper.mk (some 7) (.build [.int .i64 0, .slice none 0 0, .slice none 0 0] []) none [], AOper.mk none (.store 3 (.tmp 2) (.tmp 7)) none [0, 0], AOper.mk (some 3) (.mv (.const (.bool false))) none [1, 0, 1]]
def l37r3 : List AOper :=
  [AOper.mk (some 8) (.load true 3 (.tmp 1)) none [], AOper.mk (some 9) (.call 53 [.tmp 8]) none [0], AOper.mk none (.store 3 (.tmp 2) (.tmp 9)) none [1, 1, 0, 1], AOper.mk (some 3) (.mv (.const (.bool true))) none [2, 0, 1, 2]]
def l37 : AFn :=
  (AFn.mk 10 1 (ACode.seq (ACode.reg l37r0) (ACode.seq (ACode.seq (ACode.reg l37r1) (ACode.cond (.tmp 6) (ACode.seq (ACode.reg l37r2) ACode.ret) ACode.skip)) (ACode.seq (ACode.reg l37r3) ACode.ret))) [ARes.cell 2 true 3, ARes.tmp 3])
theorem l37_eq : lowFn Try.prog 37 = some l37 := by kernel_rfl
def l42r0 : List AOper :=
  [AOper.mk (some 1) (.box (.tmp 0)) none [], AOper.mk (some 2) (.alloc [.int .i64 0, .slice none 0 0, .slice none 0 0, .int .i64 0, .int .i64 0, .int .i64 0, .int .i64 0, .slice none 0 0]) none []]
def l42r1 : List AOper :=
  [AOper.mk (some 6) (.load true 3 (.tmp 1)) none [], AOper.mk (some 7) (.build [.int .i64 0, .slice none 0 0, .slice none 0 0, .int .i64 0, .int .i64 0, .int .i64 0, .int .i64 0, .slice none 0 0] [(0, 3, .tmp 6)]) none [0], AOper.mk (some 3) (.alloc [.int .i64 0, .slice none 0 0, .slice none 0 0, .int .i64 0, .int .i64 0, .int .i64 0, .int .i64 0, .slice none 0 0]) none [], AOper.mk none (.store 8 (.tmp 3) (.tmp 7)) none [2, 1, 0, 1, 2]]
def l42r2 : List AOper :=
  [AOper.mk (some 8) (.fld 1 (.tmp 1)) none [], AOper.mk (some 9) (.load false 1 (.tmp 8)) none [0], AOper.mk (some 10) (.len (.tmp 9)) none [1], AOper.mk (some 11) (.mv (.const (.int .i64 0))) none []]
def l42r3 : List AOper :=
  [AOper.mk (some 12) (.bin .lss (.tmp 11) (.tmp 10)) none []]
def l42r4 : List AOper :=
  [AOper.mk (some 13) (.mv (.tmp 11)) none [], AOper.mk (some 14) (.idxA 1 (.tmp 9) (.tmp 11)) none [], AOper.mk (some 15) (.load false 1 (.tmp 14)) none [1], AOper.mk (some 4) (.mv (.tmp 13)) none [0, 0, 1, 2], AOper.mk (some 5) (.mv (.tmp 15)) none [2, 3, 0, 1, 2, 3]]
def l42r5a : List AOper :=
  [AOper.mk (some 16) (.fld 7 (.tmp 3)) none [], AOper.mk (some 17) (.load false 1 (.tmp 16)) none [0], AOper.mk (some 18) (.mv (.tmp 5)) none [], AOper.mk (some 19) (.fld 2 (.tmp 1)) none [], AOper.mk (some 20) (.load false 1 (.tmp 19)) none [3], AOper.mk (some 21) (.mv (.tmp 4)) none [], AOper.mk (some 22) (.idxA 1 (.tmp 20) (.tmp 21)) none [4, 5], AOper.mk (some 23) (.load false 1 (.tmp 22)) none [6], AOper.mk (some 24) (.build [.int .i64 0, .int .i64 0] [(0, 1, .tmp 18), (1, 1, .tmp 23)]) none [2, 7], AOper.mk (some 25) (.bslice 2 [.int .i64 0, .int .i64 0] [(0, .tmp 24)] 1) none [8]]
def l42r5b : List AOper :=
  [AOper.mk (some 26) (.append 2 (.tmp 17) (.tmp 25)) none [1, 9], AOper.mk (some 27) (.fld 7 (.tmp 3)) none [0, 1, 2, 3, 4, 5, 6, 7, 8, 9, 10], AOper.mk none (.store 1 (.tmp 27) (.tmp 26)) none [11, 10, 10, 0, 1, 2, 3, 4, 5, 6, 7, 8, 9, 10]]
def l42r5 : List AOper := l42r5a ++ l42r5b
def l42r6 : List AOper :=
  [AOper.mk (some 28) (.bin .add (.tmp 11) (.const (.int .i64 1))) none [], AOper.mk (some 11) (.mv (.tmp 28)) none [0]]
def l42r7 : List AOper :=
  [AOper.mk (some 29) (.load true 8 (.tmp 3)) none [], AOper.mk none (.store 8 (.tmp 2) (.tmp 29)) none [0, 0]]
def l42 : AFn :=
  (AFn.mk 30 1 (ACode.seq (ACode.reg l42r0) (ACode.seq (ACode.reg l42r1) (ACode.seq (ACode.seq (ACode.reg l42r2) (ACode.block 0 (ACode.loop (ACode.seq (ACode.reg l42r3) (ACode.seq (ACode.cond (.tmp 12) ACode.skip (ACode.exit 0)) (ACode.seq (ACode.block 1 (ACode.seq (ACode.reg l42r4) (ACode.draw l42r5))) (ACode.reg l42r6))))))) (ACode.seq (ACode.reg l42r7) ACode.ret)))) [ARes.cell 2 true 8])
theorem l42_eq : lowFn Try.prog 42 = some l42 := by kernel_rfl
def l45r0 : List AOper :=
  [AOper.mk (some 1) (.box (.tmp 0)) none [], AOper.mk (some 2) (.alloc [.int .i64 0, .slice none 0 0, .slice none 0 0]) none []]
def l45r1 : List AOper :=
  [AOper.mk (some 4) (.load true 8 (.tmp 1)) none [], AOper.mk (some 5) (.call 51 [.tmp 4]) none [0], AOper.mk (some 3) (.alloc [.int .i64 0, .slice none 0 0, .slice none 0 0]) none [], AOper.mk none (.store 3 (.tmp 3) (.tmp 5)) none [2, 1, 1, 0, 1, 2]]
def l45r2 : List AOper :=
  [AOper.mk (some 6) (.load true 3 (.tmp 3)) none [], AOper.mk (some 7) (.call 58 [.tmp 6]) none [0], AOper.mk (some 8) (.bin .eql (.tmp 7) (.const (.int .i64 0))) none [1]]
def l45r3a : List AOper :=
  [AOper.mk (some 9) (.fld 1 (.tmp 3)) none [], AOper.mk (some 10) (.load false 1 (.tmp 9)) none [0], AOper.mk (some 11) (.len (.tmp 10)) none [1], AOper.mk (some 12) (.mkslice 1 [.int .i64 0] (.tmp 11) (.tmp 11)) none [2, 2], AOper.mk (some 13) (.fld 0 (.tmp 3)) none [0, 1], AOper.mk none (.store 1 (.tmp 13) (.const (.int .i64 0))) none [4, 0, 1]]
def l45r3b : List AOper :=
  [AOper.mk (some 14) (.fld 2 (.tmp 3)) none [0, 1, 2, 3, 4, 5], AOper.mk none (.store 1 (.tmp 14) (.tmp 12)) none [6, 3, 5, 0, 1, 2, 3, 4, 5]]
def l45r3 : List AOper := l45r3a ++ l45r3b
def l45r4 : List AOper :=
  [AOper.mk (some 15) (.load true 3 (.tmp 3)) none [], AOper.mk none (.store 3 (.tmp 2) (.tmp 15)) none [0, 0]]
def l45 : AFn :=
  (AFn.mk 16 1 (ACode.seq (ACode.reg l45r0) (ACode.seq (ACode.reg l45r1) (ACode.seq (ACode.seq (ACode.reg l45r2) (ACode.cond (.tmp 8) (ACode.draw l45r3) ACode.skip)) (ACode.seq (ACode.reg l45r4) ACode.ret)))) [ARes.cell 2 true 3])
theorem l45_eq : lowFn Try.prog 45 = some l45 := by kernel_rfl
def l46r0 : List AOper :=
  [AOper.mk (some 4) (.mv (.const (.int .i64 0))) none []]
def l46r1 : List AOper :=
  [AOper.mk (some 5) (.mv (.const (.int .i64 0))) none []]
def l46r2 : List AOper :=
  [AOper.mk (some 6) (.mv (.tmp 5)) none [], AOper.mk (some 7) (.mv (.tmp 0)) none [], AOper.mk (some 8) (.len (.tmp 7)) none [1], AOper.mk (some 9) (.bin .lss (.tmp 6) (.tmp 8)) none [0, 2]]
def l46r3 : List AOper :=
  [AOper.mk (some 12) (.mv (.tmp 0)) none [], AOper.mk (some 13) (.mv (.tmp 5)) none [], AOper.mk (some 14) (.idxA 1 (.tmp 12) (.tmp 13)) none [0, 1], AOper.mk (some 15) (.load false 1 (.tmp 14)) none [2], AOper.mk (some 16) (.mv (.tmp 1)) none [], AOper.mk (some 17) (.bin .neq (.tmp 15) (.tmp 16)) none [3, 4]]
def l46r4 : List AOper :=
  [AOper.mk (some 4) (.mv (.const (.int .i64 (-1)))) none []]
def l46r5 : List AOper :=
  [AOper.mk (some 18) (.mv (.tmp 1)) none [], AOper.mk (some 19) (.bin .add (.tmp 18) (.const (.int .i64 1))) none [0], AOper.mk (some 1) (.mv (.tmp 19)) none [1, 0, 1]]
def l46r6 : List AOper :=
  [AOper.mk (some 10) (.mv (.tmp 5)) none [], AOper.mk (some 11) (.bin .add (.tmp 10) (.const (.int .i64 1))) none [0], AOper.mk (some 5) (.mv (.tmp 11)) none [1, 0, 1]]
def l46r7 : List AOper :=
  [AOper.mk (some 20) (.mv (.tmp 1)) none [], AOper.mk (some 4) (.mv (.tmp 20)) none [0, 0]]
def l46 : AFn :=
  (AFn.mk 21 2 (ACode.seq (ACode.reg l46r0) (ACode.seq (ACode.seq (ACode.reg l46r1) (ACode.block 0 (ACode.loop (ACode.seq (ACode.seq (ACode.reg l46r2) (ACode.cond (.tmp 9) ACode.skip (ACode.exit 0))) (ACode.seq (ACode.block 1 (ACode.seq (ACode.seq (ACode.reg l46r3) (ACode.cond (.tmp 17) (ACode.seq (ACode.reg l46r4) ACode.ret) ACode.skip)) (ACode.reg l46r5))) (ACode.reg l46r6)))))) (ACode.seq (ACode.reg l46r7) ACode.ret))) [ARes.tmp 4])
theorem l46_eq : lowFn Try.prog 46 = some l46 := by kernel_rfl
def l49r0 : List AOper :=
  [AOper.mk (some 1) (.box (.tmp 0)) none [], AOper.mk (some 2) (.mv (.const (.bool false))) none []]
def l49r1 : List AOper :=
  [AOper.mk (some 5) (.fld 1 (.tmp 1)) none [], AOper.mk (some 6) (.load false 1 (.tmp 5)) none [0], AOper.mk (some 7) (.call 56 [.tmp 6]) none [1], AOper.mk (some 8) (.un .not (.tmp 7)) none [2], AOper.mk (some 9) (.mv (.tmp 8)) none [3, 2], AOper.mk (some 10) (.fld 2 (.tmp 1)) (some (9, false)) [4], AOper.mk (some 11) (.load false 1 (.tmp 10)) (some (9, false)) [5, 4], AOper.mk (some 12) (.fld 1 (.tmp 1)) (some (9, false)) [4], AOper.mk (some 13) (.load false 1 (.tmp 12)) (some (9, false)) [7, 4], AOper.mk (some 14) (.len (.tmp 13)) (some (9, false)) [8, 4], AOper.mk (some 15) (.call 79 [.tmp 11, .tmp 14]) (some (9, false)) [6, 9, 4, 4], AOper.mk (some 16) (.un .not (.tmp 15)) (some (9, false)) [10, 4], AOper.mk (some 17) (.pick (.tmp 9) (.const (.bool true)) (.tmp 16)) none [4, 11], AOper.mk (some 18) (.mv (.tmp 17)) none [12, 10], AOper.mk (some 19) (.fld 0 (.tmp 1)) (some (18, false)) [13], AOper.mk (some 20) (.load false 1 (.tmp 19)) (some (18, false)) [14, 13], AOper.mk (some 21) (.call 67 [.tmp 20, .const (.int .i64 60)]) (some (18, false)) [15, 13, 13], AOper.mk (some 22) (.un .not (.tmp 21)) (some (18, false)) [16, 13], AOper.mk (some 23) (.pick (.tmp 18) (.const (.bool true)) (.tmp 22)) none [13, 17]]
def l49r2 : List AOper :=
  [AOper.mk (some 2) (.mv (.const (.bool false))) none []]
def l49r3 : List AOper :=
  [AOper.mk (some 25) (.load true 3 (.tmp 1)) none [], AOper.mk (some 26) (.call 80 [.tmp 25]) none [0], AOper.mk (some 24) (.mv (.tmp 26)) none [1], AOper.mk (some 27) (.extract (.tmp 24) 0) none [2], AOper.mk (some 28) (.extract (.tmp 24) 1) none [2], AOper.mk (some 3) (.mv (.tmp 27)) none [3, 1, 0, 1, 2, 3], AOper.mk (some 4) (.mv (.tmp 28)) none [4, 5, 0, 1, 2, 3, 4, 5]]
def l49r4 : List AOper :=
  [AOper.mk (some 29) (.load true 3 (.tmp 1)) none [], AOper.mk (some 30) (.call 58 [.tmp 29]) none [0], AOper.mk (some 31) (.bin .eql (.tmp 30) (.const (.int .i64 0))) none [1], AOper.mk (some 32) (.mv (.tmp 31)) none [2, 1], AOper.mk (some 33) (.mv (.tmp 3)) (some (32, false)) [3], AOper.mk (some 34) (.bin .geq (.tmp 33) (.const (.int .i64 0))) (some (32, false)) [4, 3], AOper.mk (some 35) (.mv (.tmp 34)) (some (32, false)) [5, 3, 3], AOper.mk (some 36) (.mv (.tmp 4)) (some (35, true)) [6], AOper.mk (some 37) (.bin .lss (.tmp 36) (.const (.int .i64 60))) (some (35, true)) [7, 6], AOper.mk (some 38) (.pick (.tmp 35) (.tmp 37) (.const (.bool false))) (some (32, false)) [6, 8, 3], AOper.mk (some 39) (.pick (.tmp 32) (.const (.bool true)) (.tmp 38)) none [3, 9], AOper.mk (some 2) (.mv (.tmp 39)) none [10, 6, 0, 1, 2, 3, 4, 5, 6, 7, 8, 9, 10]]
def l49 : AFn :=
  (AFn.mk 40 1 (ACode.seq (ACode.reg l49r0) (ACode.seq (ACode.seq (ACode.reg l49r1) (ACode.cond (.tmp 23) (ACode.seq (ACode.reg l49r2) ACode.ret) ACode.skip)) (ACode.seq (ACode.reg l49r3) (ACode.seq (ACode.reg l49r4) ACode.ret)))) [ARes.tmp 2])
theorem l49_eq : lowFn Try.prog 49 = some l49 := by kernel_rfl
def l51r0 : List AOper :=
  [AOper.mk (some 1) (.box (.tmp 0)) none [], AOper.mk (some 2) (.alloc [.int .i64 0, .slice none 0 0, .slice none 0 0]) none []]
def l51r1 : List AOper :=
  [AOper.mk (some 6) (.fld 0 (.tmp 1)) none [], AOper.mk (some 7) (.load true 3 (.tmp 6)) none [0], AOper.mk (some 8) (.fld 3 (.tmp 1)) none [], AOper.mk (some 9) (.load true 4 (.tmp 8)) none [2], AOper.mk (some 10) (.call 82 [.tmp 7, .tmp 9]) none [1, 3], AOper.mk (some 11) (.build [.int .i64 0, .slice none 0 0, .slice none 0 0] [(0, 1, .tmp 10)]) none [4], AOper.mk (some 3) (.alloc [.int .i64 0, .slice none 0 0, .slice none 0 0]) none [], AOper.mk none (.store 3 (.tmp 3) (.tmp 11)) none [6, 5, 4, 0, 1, 2, 3, 4, 5, 6]]
def l51r2 : List AOper :=
  [AOper.mk (some 12) (.fld 7 (.tmp 1)) none [], AOper.mk (some 13) (.load false 1 (.tmp 12)) none [0], AOper.mk (some 14) (.len (.tmp 13)) none [1], AOper.mk (some 15) (.mv (.const (.int .i64 0))) none []]
def l51r3 : List AOper :=
  [AOper.mk (some 16) (.bin .lss (.tmp 15) (.tmp 14)) none []]
def l51r4 : List AOper :=
  [AOper.mk (some 17) (.idxA 2 (.tmp 13) (.tmp 15)) none [], AOper.mk (some 18) (.load true 2 (.tmp 17)) none [0], AOper.mk (some 5) (.alloc [.int .i64 0, .int .i64 0]) none [], AOper.mk none (.store 2 (.tmp 5) (.tmp 18)) none [2, 1, 0, 1, 2]]
def l51r5 : List AOper :=
  [AOper.mk (some 19) (.fld 1 (.tmp 3)) none [], AOper.mk (some 20) (.load false 1 (.tmp 19)) none [0], AOper.mk (some 21) (.fld 0 (.tmp 5)) none [], AOper.mk (some 22) (.load false 1 (.tmp 21)) none [2], AOper.mk (some 23) (.bslice 1 [.int .i64 0] [(0, .tmp 22)] 1) none [3], AOper.mk (some 24) (.append 1 (.tmp 20) (.tmp 23)) none [1, 4], AOper.mk (some 25) (.fld 1 (.tmp 3)) none [0, 1, 2, 3, 4, 5], AOper.mk none (.store 1 (.tmp 25) (.tmp 24)) none [6, 5, 5, 0, 1, 2, 3, 4, 5]]
def l51r6 : List AOper :=
  [AOper.mk (some 26) (.fld 2 (.tmp 3)) none [], AOper.mk (some 27) (.load false 1 (.tmp 26)) none [0], AOper.mk (some 28) (.fld 1 (.tmp 5)) none [], AOper.mk (some 29) (.load false 1 (.tmp 28)) none [2], AOper.mk (some 30) (.bslice 1 [.int .i64 0] [(0, .tmp 29)] 1) none [3], AOper.mk (some 31) (.append 1 (.tmp 27) (.tmp 30)) none [1, 4], AOper.mk (some 32) (.fld 2 (.tmp 3)) none [0, 1, 2, 3, 4, 5], AOper.mk none (.store 1 (.tmp 32) (.tmp 31)) none [6, 5, 5, 0, 1, 2, 3, 4, 5]]
def l51r7 : List AOper :=
  [AOper.mk (some 33) (.bin .add (.tmp 15) (.const (.int .i64 1))) none [], AOper.mk (some 15) (.mv (.tmp 33)) none [0]]
def l51r8 : List AOper :=
  [AOper.mk (some 34) (.load true 3 (.tmp 3)) none [], AOper.mk none (.store 3 (.tmp 2) (.tmp 34)) none [0, 0]]
def l51 : AFn :=
  (AFn.mk 35 1 (ACode.seq (ACode.reg l51r0) (ACode.seq (ACode.reg l51r1) (ACode.seq (ACode.seq (ACode.reg l51r2) (ACode.block 0 (ACode.loop (ACode.seq (ACode.reg l51r3) (ACode.seq (ACode.cond (.tmp 16) ACode.skip (ACode.exit 0)) (ACode.seq (ACode.block 1 (ACode.seq (ACode.reg l51r4) (ACode.seq (ACode.reg l51r5) (ACode.reg l51r6)))) (ACode.reg l51r7))))))) (ACode.seq (ACode.reg l51r8) ACode.ret)))) [ARes.cell 2 true 3])
theorem l51_eq : lowFn Try.prog 51 = some l51 := by kernel_rfl
def l52r0 : List AOper :=
  [AOper.mk (some 6) (.mv (.const (.bool false))) none []]
def l52r1 : List AOper :=
  [AOper.mk (some 7) (.mv (.tmp 1)) none [], AOper.mk (some 8) (.mv (.tmp 0)) none [], AOper.mk (some 9) (.bin .leq (.tmp 7) (.tmp 8)) none [0, 1], AOper.mk (some 10) (.mv (.tmp 9)) none [2], AOper.mk (some 11) (.mv (.tmp 0)) (some (10, true)) [3], AOper.mk (some 12) (.mv (.tmp 2)) (some (10, true)) [3], AOper.mk (some 13) (.bin .leq (.tmp 11) (.tmp 12)) (some (10, true)) [4, 5, 3], AOper.mk (some 14) (.pick (.tmp 10) (.tmp 13) (.const (.bool false))) none [3, 6], AOper.mk (some 6) (.mv (.tmp 14)) none [7, 3, 0, 1, 2, 3, 4, 5, 6, 7]]
def l52 : AFn :=
  (AFn.mk 15 3 (ACode.seq (ACode.reg l52r0) (ACode.seq (ACode.reg l52r1) ACode.ret)) [ARes.tmp 6])
theorem l52_eq : lowFn Try.prog 52 = some l52 := by kernel_rfl
def l53r0 : List AOper :=
  [AOper.mk (some 1) (.box (.tmp 0)) none [], AOper.mk (some 2) (.alloc [.int .i64 0, .slice none 0 0, .slice none 0 0]) none []]
def l53r1a : List AOper :=
  [AOper.mk (some 3) (.fld 0 (.tmp 1)) none [], AOper.mk (some 4) (.load false 1 (.tmp 3)) none [0], AOper.mk (some 5) (.fld 1 (.tmp 1)) none [], AOper.mk (some 6) (.load false 1 (.tmp 5)) none [2], AOper.mk (some 7) (.call 83 [.tmp 6]) none [3], AOper.mk (some 8) (.fld 2 (.tmp 1)) none [], AOper.mk (some 9) (.load false 1 (.tmp 8)) none [5], AOper.mk (some 10) (.call 83 [.tmp 9]) none [6, 4]]
def l53r1b : List AOper :=
  [AOper.mk (some 11) (.build [.int .i64 0, .slice none 0 0, .slice none 0 0] [(0, 1, .tmp 4), (1, 1, .tmp 7), (2, 1, .tmp 10)]) none [1, 4, 7], AOper.mk none (.store 3 (.tmp 2) (.tmp 11)) none [8, 7, 0, 1, 2, 3, 4, 5, 6, 7, 8]]
def l53r1 : List AOper := l53r1a ++ l53r1b
def l53 : AFn :=
  (AFn.mk 12 1 (ACode.seq (ACode.reg l53r0) (ACode.seq (ACode.draw l53r1) ACode.ret)) [ARes.cell 2 true 3])
theorem l53_eq : lowFn Try.prog 53 = some l53 := by kernel_rfl
def l54r0 : List AOper :=
  [AOper.mk (some 2) (.mv (.const (.bool false))) none []]
def l54r1 : List AOper :=
  [AOper.mk (some 3) (.mv (.tmp 0)) none [], AOper.mk (some 4) (.len (.tmp 3)) none [0], AOper.mk (some 5) (.bin .leq (.tmp 4) (.const (.int .i64 4))) none [1], AOper.mk (some 6) (.mv (.tmp 5)) none [2], AOper.mk (some 7) (.mv (.tmp 0)) (some (6, true)) [3], AOper.mk (some 8) (.call 69 [.tmp 7, .const (.int .i64 0), .const (.int .i64 60)]) (some (6, true)) [4, 3, 3], AOper.mk (some 9) (.pick (.tmp 6) (.tmp 8) (.const (.bool false))) none [3, 5], AOper.mk (some 10) (.mv (.tmp 9)) none [6, 5], AOper.mk (some 11) (.mv (.tmp 0)) (some (10, true)) [7], AOper.mk (some 12) (.call 70 [.tmp 11]) (some (10, true)) [8, 7, 7], AOper.mk (some 13) (.bin .leq (.tmp 12) (.const (.int .i64 60))) (some (10, true)) [9, 7], AOper.mk (some 14) (.pick (.tmp 10) (.tmp 13) (.const (.bool false))) none [7, 10], AOper.mk (some 2) (.mv (.tmp 14)) none [11, 9, 0, 1, 2, 3, 4, 5, 6, 7, 8, 9, 10, 11]]
def l54 : AFn :=
  (AFn.mk 15 1 (ACode.seq (ACode.reg l54r0) (ACode.seq (ACode.reg l54r1) ACode.ret)) [ARes.tmp 2])
theorem l54_eq : lowFn Try.prog 54 = some l54 := by kernel_rfl
def l55r0 : List AOper :=
  [AOper.mk (some 2) (.box (.tmp 0)) none [], AOper.mk (some 4) (.alloc [.int .i64 0, .slice none 0 0, .slice none 0 0]) none [], AOper.mk (some 5) (.mv (.const (.bool false))) none []]
def l55r1a : List AOper :=
  [AOper.mk (some 10) (.fld 0 (.tmp 2)) none [], AOper.mk (some 11) (.load false 1 (.tmp 10)) none [0], AOper.mk (some 12) (.mv (.tmp 1)) none [], AOper.mk (some 13) (.call 83 [.tmp 12]) none [2], AOper.mk (some 14) (.mv (.tmp 1)) none [], AOper.mk (some 15) (.len (.tmp 14)) none [4], AOper.mk (some 16) (.mkslice 1 [.int .i64 0] (.tmp 15) (.tmp 15)) none [5, 5], AOper.mk (some 17) (.build [.int .i64 0, .slice none 0 0, .slice none 0 0] [(0, 1, .tmp 11), (1, 1, .tmp 13), (2, 1, .tmp 16)]) none [1, 3, 6], AOper.mk (some 6) (.alloc [.int .i64 0, .slice none 0 0, .slice none 0 0]) none []]
def l55r1b : List AOper :=
  [AOper.mk none (.store 3 (.tmp 6) (.tmp 17)) none [8, 7, 3, 0, 1, 2, 3, 4, 5, 6, 7, 8]]
def l55r1 : List AOper := l55r1a ++ l55r1b
def l55r2a : List AOper :=
  [AOper.mk (some 18) (.mv (.tmp 1)) none [], AOper.mk (some 19) (.call 70 [.tmp 18]) none [0], AOper.mk (some 20) (.fld 1 (.tmp 2)) none [], AOper.mk (some 21) (.load false 1 (.tmp 20)) none [2]]
def l55r2b : List AOper :=
  [AOper.mk (some 22) (.call 70 [.tmp 21]) none [3, 1], AOper.mk (some 23) (.bin .neq (.tmp 19) (.tmp 22)) none [1, 4]]
def l55r2 : List AOper := l55r2a ++ l55r2b
def l55r3 : List AOper :=
  [AOper.mk (some 24) (.build [.int .i64 0, .slice none 0 0, .slice none 0 0] []) none [], AOper.mk none (.store 3 (.tmp 4) (.tmp 24)) none [0, 0], AOper.mk (some 5) (.mv (.const (.bool false))) none [1, 0, 1]]
def l55r4 : List AOper :=
  [AOper.mk (some 25) (.mv (.tmp 1)) none [], AOper.mk (some 26) (.call 70 [.tmp 25]) none [0], AOper.mk (some 27) (.bin .eql (.tmp 26) (.const (.int .i64 0))) none [1]]
def l55r5 : List AOper :=
  [AOper.mk (some 28) (.fld 0 (.tmp 6)) none [], AOper.mk none (.store 1 (.tmp 28) (.const (.int .i64 0))) none [0]]
def l55r6 : List AOper :=
  [AOper.mk (some 29) (.load true 3 (.tmp 6)) none [], AOper.mk none (.store 3 (.tmp 4) (.tmp 29)) none [0, 0], AOper.mk (some 5) (.mv (.const (.bool true))) none [1, 0, 1]]
def l55r7 : List AOper :=
  [AOper.mk (some 30) (.load true 3 (.tmp 2)) none [], AOper.mk (some 31) (.call 71 [.tmp 30]) none [0], AOper.mk (some 7) (.mv (.tmp 31)) none [1, 1, 0, 1]]
def l55r8 : List AOper :=
  [AOper.mk (some 8) (.mv (.const (.int .i64 0))) none []]
def l55r9 : List AOper :=
  [AOper.mk (some 32) (.mv (.tmp 8)) none [], AOper.mk (some 33) (.mv (.tmp 1)) none [], AOper.mk (some 34) (.len (.tmp 33)) none [1], AOper.mk (some 35) (.bin .lss (.tmp 32) (.tmp 34)) none [0, 2]]
def l55r10 : List AOper :=
  [AOper.mk (some 38) (.mv (.tmp 1)) none [], AOper.mk (some 39) (.mv (.tmp 8)) none [], AOper.mk (some 40) (.idxA 1 (.tmp 38) (.tmp 39)) none [0, 1], AOper.mk (some 41) (.load false 1 (.tmp 40)) none [2], AOper.mk (some 42) (.bin .gtr (.tmp 41) (.const (.int .i64 1))) none [3]]
def l55r11 : List AOper :=
  [AOper.mk (some 43) (.mv (.tmp 1)) none [], AOper.mk (some 44) (.len (.tmp 43)) none [0], AOper.mk (some 45) (.mkslice 1 [.int .i64 0] (.tmp 44) (.tmp 44)) none [1, 1], AOper.mk (some 9) (.mv (.tmp 45)) none [2, 0, 1, 2]]
def l55r12 : List AOper :=
  [AOper.mk (some 46) (.mv (.tmp 9)) none [], AOper.mk (some 47) (.mv (.tmp 8)) none [], AOper.mk (some 48) (.idxA 1 (.tmp 46) (.tmp 47)) none [0, 1, 0, 1], AOper.mk none (.store 1 (.tmp 48) (.const (.int .i64 1))) none [2, 0, 1]]
def l55r13a : List AOper :=
  [AOper.mk (some 49) (.fld 2 (.tmp 6)) none [], AOper.mk (some 50) (.load false 1 (.tmp 49)) none [0], AOper.mk (some 51) (.mv (.tmp 8)) none [], AOper.mk (some 52) (.mv (.tmp 7)) none [], AOper.mk (some 53) (.mv (.tmp 1)) none [], AOper.mk (some 54) (.mv (.tmp 9)) none [], AOper.mk (some 55) (.call 84 [.tmp 53, .tmp 54]) none [4, 5], AOper.mk (some 56) (.idxA 1 (.tmp 52) (.tmp 55)) none [3, 6], AOper.mk (some 57) (.load false 1 (.tmp 56)) none [7], AOper.mk (some 58) (.mv (.tmp 7)) none [], AOper.mk (some 59) (.idxA 1 (.tmp 58) (.const (.int .i64 0))) none [9], AOper.mk (some 60) (.load false 1 (.tmp 59)) none [10], AOper.mk (some 61) (.bin .sub (.tmp 57) (.tmp 60)) none [8, 11]]
def l55r13b : List AOper :=
  [AOper.mk (some 62) (.idxA 1 (.tmp 50) (.tmp 51)) none [1, 2, 0, 1, 2, 3, 4, 5, 6, 7, 8, 9, 10, 11, 12], AOper.mk none (.store 1 (.tmp 62) (.tmp 61)) none [13, 12, 6, 0, 1, 2, 3, 4, 5, 6, 7, 8, 9, 10, 11, 12]]
def l55r13 : List AOper := l55r13a ++ l55r13b
def l55r14 : List AOper :=
  [AOper.mk (some 36) (.mv (.tmp 8)) none [], AOper.mk (some 37) (.bin .add (.tmp 36) (.const (.int .i64 1))) none [0], AOper.mk (some 8) (.mv (.tmp 37)) none [1, 0, 1]]
def l55r15a : List AOper :=
  [AOper.mk (some 63) (.load true 3 (.tmp 6)) none [], AOper.mk (some 64) (.load true 3 (.tmp 6)) none [], AOper.mk (some 65) (.call 71 [.tmp 64]) none [1], AOper.mk (some 66) (.mv (.tmp 7)) none [], AOper.mk (some 67) (.call 85 [.tmp 65, .tmp 66]) none [2, 3, 2]]
def l55r15b : List AOper :=
  [AOper.mk none (.store 3 (.tmp 4) (.tmp 63)) none [0, 4, 0], AOper.mk (some 5) (.mv (.tmp 67)) none [4, 5, 0, 1, 2, 3, 4, 5]]
def l55r15 : List AOper := l55r15a ++ l55r15b
def l55 : AFn :=
  (AFn.mk 68 2 (ACode.seq (ACode.reg l55r0) (ACode.seq (ACode.draw l55r1) (ACode.seq (ACode.seq (ACode.draw l55r2) (ACode.cond (.tmp 23) (ACode.seq (ACode.reg l55r3) ACode.ret) ACode.skip)) (ACode.seq (ACode.seq (ACode.reg l55r4) (ACode.cond (.tmp 27) (ACode.seq (ACode.reg l55r5) (ACode.seq (ACode.reg l55r6) ACode.ret)) ACode.skip)) (ACode.seq (ACode.reg l55r7) (ACode.seq (ACode.seq (ACode.reg l55r8) (ACode.block 0 (ACode.loop (ACode.seq (ACode.seq (ACode.reg l55r9) (ACode.cond (.tmp 35) ACode.skip (ACode.exit 0))) (ACode.seq (ACode.block 1 (ACode.seq (ACode.reg l55r10) (ACode.cond (.tmp 42) (ACode.seq (ACode.reg l55r11) (ACode.seq (ACode.reg l55r12) (ACode.draw l55r13))) ACode.skip))) (ACode.reg l55r14)))))) (ACode.seq (ACode.draw l55r15) ACode.ret))))))) [ARes.cell 4 true 3, ARes.tmp 5])
theorem l55_eq : lowFn Try.prog 55 = some l55 := by kernel_rfl
def l56r0 : List AOper :=
  [AOper.mk (some 2) (.mv (.const (.bool false))) none []]
def l56r1 : List AOper :=
  [AOper.mk (some 5) (.mv (.tmp 0)) none [], AOper.mk (some 6) (.len (.tmp 5)) none [0], AOper.mk (some 7) (.bin .gtr (.tmp 6) (.const (.int .i64 4))) none [1]]
def l56r2 : List AOper :=
  [AOper.mk (some 2) (.mv (.const (.bool false))) none []]
def l56r3 : List AOper :=
  [AOper.mk (some 8) (.mv (.tmp 0)) none [], AOper.mk (some 9) (.len (.tmp 8)) none [0], AOper.mk (some 10) (.mv (.const (.int .i64 0))) none []]
def l56r4 : List AOper :=
  [AOper.mk (some 11) (.bin .lss (.tmp 10) (.tmp 9)) none []]
def l56r5 : List AOper :=
  [AOper.mk (some 12) (.idxA 1 (.tmp 8) (.tmp 10)) none [], AOper.mk (some 13) (.load false 1 (.tmp 12)) none [0], AOper.mk (some 4) (.mv (.tmp 13)) none [1, 0, 1]]
def l56r6 : List AOper :=
  [AOper.mk (some 14) (.mv (.tmp 4)) none [], AOper.mk (some 15) (.call 67 [.tmp 14, .const (.int .i64 60)]) none [0], AOper.mk (some 16) (.un .not (.tmp 15)) none [1]]
def l56r7 : List AOper :=
  [AOper.mk (some 2) (.mv (.const (.bool false))) none []]
def l56r8 : List AOper :=
  [AOper.mk (some 17) (.bin .add (.tmp 10) (.const (.int .i64 1))) none [], AOper.mk (some 10) (.mv (.tmp 17)) none [0]]
def l56r9 : List AOper :=
  [AOper.mk (some 18) (.mv (.tmp 0)) none [], AOper.mk (some 19) (.call 57 [.tmp 18]) none [0], AOper.mk (some 20) (.bin .leq (.tmp 19) (.const (.int .i64 60))) none [1], AOper.mk (some 2) (.mv (.tmp 20)) none [2, 1, 0, 1, 2]]
def l56 : AFn :=
  (AFn.mk 21 1 (ACode.seq (ACode.reg l56r0) (ACode.seq (ACode.seq (ACode.reg l56r1) (ACode.cond (.tmp 7) (ACode.seq (ACode.reg l56r2) ACode.ret) ACode.skip)) (ACode.seq (ACode.seq (ACode.reg l56r3) (ACode.block 0 (ACode.loop (ACode.seq (ACode.reg l56r4) (ACode.seq (ACode.cond (.tmp 11) ACode.skip (ACode.exit 0)) (ACode.seq (ACode.block 1 (ACode.seq (ACode.reg l56r5) (ACode.seq (ACode.reg l56r6) (ACode.cond (.tmp 16) (ACode.seq (ACode.reg l56r7) ACode.ret) ACode.skip)))) (ACode.reg l56r8))))))) (ACode.seq (ACode.reg l56r9) ACode.ret)))) [ARes.tmp 2])
theorem l56_eq : lowFn Try.prog 56 = some l56 := by kernel_rfl
def l57r0 : List AOper :=
  [AOper.mk (some 2) (.mv (.const (.int .i64 0))) none []]
def l57r1 : List AOper :=
  [AOper.mk (some 3) (.mv (.const (.int .i64 1))) none []]
def l57r2 : List AOper :=
  [AOper.mk (some 6) (.mv (.tmp 0)) none [], AOper.mk (some 7) (.len (.tmp 6)) none [0], AOper.mk (some 8) (.mv (.const (.int .i64 0))) none []]
def l57r3 : List AOper :=
  [AOper.mk (some 9) (.bin .lss (.tmp 8) (.tmp 7)) none []]
def l57r4 : List AOper :=
  [AOper.mk (some 10) (.idxA 1 (.tmp 6) (.tmp 8)) none [], AOper.mk (some 11) (.load false 1 (.tmp 10)) none [0], AOper.mk (some 5) (.mv (.tmp 11)) none [1, 0, 1]]
def l57r5 : List AOper :=
  [AOper.mk (some 12) (.mv (.tmp 3)) none [], AOper.mk (some 13) (.mv (.tmp 5)) none [], AOper.mk (some 14) (.bin .mul (.tmp 12) (.tmp 13)) none [0, 1], AOper.mk (some 3) (.mv (.tmp 14)) none [2, 0, 1, 2]]
def l57r6 : List AOper :=
  [AOper.mk (some 15) (.bin .add (.tmp 8) (.const (.int .i64 1))) none [], AOper.mk (some 8) (.mv (.tmp 15)) none [0]]
def l57r7 : List AOper :=
  [AOper.mk (some 16) (.mv (.tmp 3)) none [], AOper.mk (some 2) (.mv (.tmp 16)) none [0, 0]]
def l57 : AFn :=
  (AFn.mk 17 1 (ACode.seq (ACode.reg l57r0) (ACode.seq (ACode.reg l57r1) (ACode.seq (ACode.seq (ACode.reg l57r2) (ACode.block 0 (ACode.loop (ACode.seq (ACode.reg l57r3) (ACode.seq (ACode.cond (.tmp 9) ACode.skip (ACode.exit 0)) (ACode.seq (ACode.block 1 (ACode.seq (ACode.reg l57r4) (ACode.reg l57r5))) (ACode.reg l57r6))))))) (ACode.seq (ACode.reg l57r7) ACode.ret)))) [ARes.tmp 2])
theorem l57_eq : lowFn Try.prog 57 = some l57 := by kernel_rfl
def l58r0 : List AOper :=
  [AOper.mk (some 1) (.box (.tmp 0)) none [], AOper.mk (some 2) (.mv (.const (.int .i64 0))) none []]
def l58r1 : List AOper :=
  [AOper.mk (some 3) (.fld 1 (.tmp 1)) none [], AOper.mk (some 4) (.load false 1 (.tmp 3)) none [0], AOper.mk (some 5) (.call 57 [.tmp 4]) none [1], AOper.mk (some 2) (.mv (.tmp 5)) none [2, 2, 0, 1, 2]]
def l58 : AFn :=
  (AFn.mk 6 1 (ACode.seq (ACode.reg l58r0) (ACode.seq (ACode.reg l58r1) ACode.ret)) [ARes.tmp 2])
theorem l58_eq : lowFn Try.prog 58 = some l58 := by kernel_rfl
def l59r0 : List AOper :=
  [AOper.mk (some 2) (.box (.tmp 0)) none [], AOper.mk (some 4) (.alloc [.int .i64 0, .slice none 0 0, .slice none 0 0, .int .i64 0, .int .i64 0, .int .i64 0, .int .i64 0, .slice none 0 0]) none []]
def l59r1 : List AOper :=
  [AOper.mk (some 9) (.fld 0 (.tmp 2)) none [], AOper.mk (some 10) (.load true 3 (.tmp 9)) none [0], AOper.mk (some 11) (.call 61 [.tmp 10]) none [1], AOper.mk (some 12) (.mv (.tmp 1)) none [], AOper.mk (some 13) (.call 86 [.tmp 12]) none [3, 2], AOper.mk (some 5) (.mv (.tmp 11)) none [2, 4, 0, 1, 2], AOper.mk (some 6) (.mv (.tmp 13)) none [4, 5, 0, 1, 2, 3, 4, 5]]
def l59r2 : List AOper :=
  [AOper.mk (some 14) (.mv (.tmp 1)) none [], AOper.mk (some 15) (.len (.tmp 14)) none [0], AOper.mk (some 16) (.mkslice 2 [.int .i64 0, .int .i64 0] (.tmp 15) (.tmp 15)) none [1, 1], AOper.mk (some 17) (.fld 7 (.tmp 2)) none [0, 1, 2], AOper.mk none (.store 1 (.tmp 17) (.tmp 16)) none [3, 2, 0, 1, 2]]
def l59r3 : List AOper :=
  [AOper.mk (some 18) (.mv (.tmp 1)) none [], AOper.mk (some 19) (.len (.tmp 18)) none [0], AOper.mk (some 20) (.mv (.const (.int .i64 0))) none []]
def l59r4 : List AOper :=
  [AOper.mk (some 21) (.bin .lss (.tmp 20) (.tmp 19)) none []]
def l59r5 : List AOper :=
  [AOper.mk (some 22) (.mv (.tmp 20)) none [], AOper.mk (some 23) (.idxA 1 (.tmp 18) (.tmp 20)) none [], AOper.mk (some 24) (.load false 1 (.tmp 23)) none [1], AOper.mk (some 7) (.mv (.tmp 22)) none [0, 0, 1, 2], AOper.mk (some 8) (.mv (.tmp 24)) none [2, 3, 0, 1, 2, 3]]
def l59r6 : List AOper :=
  [AOper.mk (some 25) (.fld 7 (.tmp 2)) none [], AOper.mk (some 26) (.load false 1 (.tmp 25)) none [0], AOper.mk (some 27) (.mv (.tmp 7)) none [], AOper.mk (some 28) (.mv (.tmp 8)) none [], AOper.mk (some 29) (.idxA 2 (.tmp 26) (.tmp 27)) none [1, 2, 0, 1, 2, 3], AOper.mk (some 30) (.fld 0 (.tmp 29)) none [4, 0, 1, 2, 3], AOper.mk none (.store 1 (.tmp 30) (.tmp 28)) none [5, 3, 0, 1, 2, 3]]
def l59r7 : List AOper :=
  [AOper.mk (some 31) (.mv (.tmp 8)) none [], AOper.mk (some 32) (.bin .gtr (.tmp 31) (.const (.int .i64 1))) none [0], AOper.mk (some 33) (.mv (.tmp 32)) none [1], AOper.mk (some 34) (.mv (.tmp 5)) (some (33, true)) [2], AOper.mk (some 35) (.len (.tmp 34)) (some (33, true)) [3, 2], AOper.mk (some 36) (.bin .gtr (.tmp 35) (.const (.int .i64 0))) (some (33, true)) [4, 2], AOper.mk (some 37) (.pick (.tmp 33) (.tmp 36) (.const (.bool false))) none [2, 5]]
def l59r8a : List AOper :=
  [AOper.mk (some 38) (.fld 7 (.tmp 2)) none [], AOper.mk (some 39) (.load false 1 (.tmp 38)) none [0], AOper.mk (some 40) (.mv (.tmp 7)) none [], AOper.mk (some 41) (.mv (.tmp 5)) none [], AOper.mk (some 42) (.mv (.tmp 6)) none [], AOper.mk (some 43) (.mv (.tmp 7)) none [], AOper.mk (some 44) (.idxA 1 (.tmp 42) (.tmp 43)) none [4, 5], AOper.mk (some 45) (.load false 1 (.tmp 44)) none [6], AOper.mk (some 46) (.idxA 1 (.tmp 41) (.tmp 45)) none [3, 7], AOper.mk (some 47) (.load false 1 (.tmp 46)) none [8], AOper.mk (some 48) (.mv (.tmp 5)) none [], AOper.mk (some 49) (.idxA 1 (.tmp 48) (.const (.int .i64 0))) none [10], AOper.mk (some 50) (.load false 1 (.tmp 49)) none [11], AOper.mk (some 51) (.bin .sub (.tmp 47) (.tmp 50)) none [9, 12]]
def l59r8b : List AOper :=
  [AOper.mk (some 52) (.idxA 2 (.tmp 39) (.tmp 40)) none [1, 2, 0, 1, 2, 3, 4, 5, 6, 7, 8, 9, 10, 11, 12, 13], AOper.mk (some 53) (.fld 1 (.tmp 52)) none [14, 0, 1, 2, 3, 4, 5, 6, 7, 8, 9, 10, 11, 12, 13], AOper.mk none (.store 1 (.tmp 53) (.tmp 51)) none [15, 13, 0, 1, 2, 3, 4, 5, 6, 7, 8, 9, 10, 11, 12, 13]]
def l59r8 : List AOper := l59r8a ++ l59r8b
def l59r9 : List AOper :=
  [AOper.mk (some 54) (.bin .add (.tmp 20) (.const (.int .i64 1))) none [], AOper.mk (some 20) (.mv (.tmp 54)) none [0]]
def l59r10 : List AOper :=
  [AOper.mk (some 55) (.load true 8 (.tmp 2)) none [], AOper.mk none (.store 8 (.tmp 4) (.tmp 55)) none [0, 0]]
def l59 : AFn :=
  (AFn.mk 56 2 (ACode.seq (ACode.reg l59r0) (ACode.seq (ACode.reg l59r1) (ACode.seq (ACode.reg l59r2) (ACode.seq (ACode.seq (ACode.reg l59r3) (ACode.block 0 (ACode.loop (ACode.seq (ACode.reg l59r4) (ACode.seq (ACode.cond (.tmp 21) ACode.skip (ACode.exit 0)) (ACode.seq (ACode.block 1 (ACode.seq (ACode.reg l59r5) (ACode.seq (ACode.reg l59r6) (ACode.seq (ACode.reg l59r7) (ACode.cond (.tmp 37) (ACode.draw l59r8) ACode.skip))))) (ACode.reg l59r9))))))) (ACode.seq (ACode.reg l59r10) ACode.ret))))) [ARes.cell 4 true 8])
theorem l59_eq : lowFn Try.prog 59 = some l59 := by kernel_rfl
def l60r0 : List AOper :=
  [AOper.mk (some 4) (.mv (.const (.bool false))) none []]
def l60r1 : List AOper :=
  [AOper.mk (some 6) (.mv (.tmp 0)) none [], AOper.mk (some 7) (.len (.tmp 6)) none [0], AOper.mk (some 8) (.mv (.tmp 1)) none [], AOper.mk (some 9) (.len (.tmp 8)) none [2], AOper.mk (some 10) (.bin .neq (.tmp 7) (.tmp 9)) none [1, 3]]
def l60r2 : List AOper :=
  [AOper.mk (some 4) (.mv (.const (.bool false))) none []]
def l60r3 : List AOper :=
  [AOper.mk (some 11) (.mv (.tmp 0)) none [], AOper.mk (some 12) (.len (.tmp 11)) none [0], AOper.mk (some 13) (.mv (.const (.int .i64 0))) none []]
def l60r4 : List AOper :=
  [AOper.mk (some 14) (.bin .lss (.tmp 13) (.tmp 12)) none []]
def l60r5 : List AOper :=
  [AOper.mk (some 15) (.mv (.tmp 13)) none [], AOper.mk (some 5) (.mv (.tmp 15)) none [0, 0]]
def l60r6a : List AOper :=
  [AOper.mk (some 16) (.mv (.tmp 0)) none [], AOper.mk (some 17) (.mv (.tmp 5)) none [], AOper.mk (some 18) (.idxA 1 (.tmp 16) (.tmp 17)) none [0, 1], AOper.mk (some 19) (.load false 1 (.tmp 18)) none [2], AOper.mk (some 20) (.mv (.tmp 1)) none [], AOper.mk (some 21) (.mv (.tmp 5)) none [], AOper.mk (some 22) (.idxA 1 (.tmp 20) (.tmp 21)) none [4, 5], AOper.mk (some 23) (.load false 1 (.tmp 22)) none [6]]
def l60r6b : List AOper :=
  [AOper.mk (some 24) (.bin .neq (.tmp 19) (.tmp 23)) none [3, 7]]
def l60r6 : List AOper := l60r6a ++ l60r6b
def l60r7 : List AOper :=
  [AOper.mk (some 4) (.mv (.const (.bool false))) none []]
def l60r8 : List AOper :=
  [AOper.mk (some 25) (.bin .add (.tmp 13) (.const (.int .i64 1))) none [], AOper.mk (some 13) (.mv (.tmp 25)) none [0]]
def l60r9 : List AOper :=
  [AOper.mk (some 4) (.mv (.const (.bool true))) none []]
def l60 : AFn :=
  (AFn.mk 26 2 (ACode.seq (ACode.reg l60r0) (ACode.seq (ACode.seq (ACode.reg l60r1) (ACode.cond (.tmp 10) (ACode.seq (ACode.reg l60r2) ACode.ret) ACode.skip)) (ACode.seq (ACode.seq (ACode.reg l60r3) (ACode.block 0 (ACode.loop (ACode.seq (ACode.reg l60r4) (ACode.seq (ACode.cond (.tmp 14) ACode.skip (ACode.exit 0)) (ACode.seq (ACode.block 1 (ACode.seq (ACode.reg l60r5) (ACode.seq (ACode.draw l60r6) (ACode.cond (.tmp 24) (ACode.seq (ACode.reg l60r7) ACode.ret) ACode.skip)))) (ACode.reg l60r8))))))) (ACode.seq (ACode.reg l60r9) ACode.ret)))) [ARes.tmp 4])
theorem l60_eq : lowFn Try.prog 60 = some l60 := by kernel_rfl
def l61r0 : List AOper :=
  [AOper.mk (some 1) (.box (.tmp 0)) none [], AOper.mk (some 2) (.mv (.const (.slice none 0 0))) none []]
def l61r1 : List AOper :=
  [AOper.mk (some 5) (.load true 3 (.tmp 1)) none [], AOper.mk (some 6) (.call 58 [.tmp 5]) none [0], AOper.mk (some 7) (.mkslice 1 [.int .i64 0] (.tmp 6) (.tmp 6)) none [1, 1], AOper.mk (some 3) (.mv (.tmp 7)) none [2, 1, 0, 1, 2]]
def l61r2 : List AOper :=
  [AOper.mk (some 8) (.mv (.tmp 3)) none [], AOper.mk (some 9) (.len (.tmp 8)) none [0], AOper.mk (some 10) (.mv (.const (.int .i64 0))) none []]
def l61r3 : List AOper :=
  [AOper.mk (some 11) (.bin .lss (.tmp 10) (.tmp 9)) none []]
def l61r4 : List AOper :=
  [AOper.mk (some 12) (.mv (.tmp 10)) none [], AOper.mk (some 4) (.mv (.tmp 12)) none [0, 0]]
def l61r5a : List AOper :=
  [AOper.mk (some 13) (.mv (.tmp 3)) none [], AOper.mk (some 14) (.mv (.tmp 4)) none [], AOper.mk (some 15) (.load true 3 (.tmp 1)) none [], AOper.mk (some 16) (.fld 1 (.tmp 1)) none [], AOper.mk (some 17) (.load false 1 (.tmp 16)) none [3], AOper.mk (some 18) (.mv (.tmp 4)) none [], AOper.mk (some 19) (.call 87 [.tmp 17, .tmp 18]) none [4, 5], AOper.mk (some 20) (.call 82 [.tmp 15, .tmp 19]) none [2, 6, 6]]
def l61r5b : List AOper :=
  [AOper.mk (some 21) (.idxA 1 (.tmp 13) (.tmp 14)) none [0, 1, 0, 1, 2, 3, 4, 5, 6, 7], AOper.mk none (.store 1 (.tmp 21) (.tmp 20)) none [8, 7, 7, 0, 1, 2, 3, 4, 5, 6, 7]]
def l61r5 : List AOper := l61r5a ++ l61r5b
def l61r6 : List AOper :=
  [AOper.mk (some 22) (.bin .add (.tmp 10) (.const (.int .i64 1))) none [], AOper.mk (some 10) (.mv (.tmp 22)) none [0]]
def l61r7 : List AOper :=
  [AOper.mk (some 23) (.mv (.tmp 3)) none [], AOper.mk (some 2) (.mv (.tmp 23)) none [0, 0]]
def l61 : AFn :=
  (AFn.mk 24 1 (ACode.seq (ACode.reg l61r0) (ACode.seq (ACode.reg l61r1) (ACode.seq (ACode.seq (ACode.reg l61r2) (ACode.block 0 (ACode.loop (ACode.seq (ACode.reg l61r3) (ACode.seq (ACode.cond (.tmp 11) ACode.skip (ACode.exit 0)) (ACode.seq (ACode.block 1 (ACode.seq (ACode.reg l61r4) (ACode.draw l61r5))) (ACode.reg l61r6))))))) (ACode.seq (ACode.reg l61r7) ACode.ret)))) [ARes.tmp 2])
theorem l61_eq : lowFn Try.prog 61 = some l61 := by kernel_rfl
def l67r0 : List AOper :=
  [AOper.mk (some 4) (.mv (.const (.bool false))) none []]
def l67r1 : List AOper :=
  [AOper.mk (some 5) (.mv (.tmp 0)) none [], AOper.mk (some 6) (.bin .leq (.const (.int .i64 0)) (.tmp 5)) none [0], AOper.mk (some 7) (.mv (.tmp 6)) none [1], AOper.mk (some 8) (.mv (.tmp 0)) (some (7, true)) [2], AOper.mk (some 9) (.mv (.tmp 1)) (some (7, true)) [2], AOper.mk (some 10) (.bin .leq (.tmp 8) (.tmp 9)) (some (7, true)) [3, 4, 2], AOper.mk (some 11) (.pick (.tmp 7) (.tmp 10) (.const (.bool false))) none [2, 5], AOper.mk (some 4) (.mv (.tmp 11)) none [6, 2, 0, 1, 2, 3, 4, 5, 6]]
def l67 : AFn :=
  (AFn.mk 12 2 (ACode.seq (ACode.reg l67r0) (ACode.seq (ACode.reg l67r1) ACode.ret)) [ARes.tmp 4])
theorem l67_eq : lowFn Try.prog 67 = some l67 := by kernel_rfl
def l69r0 : List AOper :=
  [AOper.mk (some 6) (.mv (.const (.bool false))) none []]
def l69r1 : List AOper :=
  [AOper.mk (some 7) (.mv (.const (.int .i64 0))) none []]
def l69r2 : List AOper :=
  [AOper.mk (some 8) (.mv (.tmp 7)) none [], AOper.mk (some 9) (.mv (.tmp 0)) none [], AOper.mk (some 10) (.len (.tmp 9)) none [1], AOper.mk (some 11) (.bin .lss (.tmp 8) (.tmp 10)) none [0, 2]]
def l69r3 : List AOper :=
  [AOper.mk (some 14) (.mv (.tmp 0)) none [], AOper.mk (some 15) (.mv (.tmp 7)) none [], AOper.mk (some 16) (.idxA 1 (.tmp 14) (.tmp 15)) none [0, 1], AOper.mk (some 17) (.load false 1 (.tmp 16)) none [2], AOper.mk (some 18) (.mv (.tmp 1)) none [], AOper.mk (some 19) (.mv (.tmp 2)) none [], AOper.mk (some 20) (.call 52 [.tmp 17, .tmp 18, .tmp 19]) none [3, 4, 5], AOper.mk (some 21) (.un .not (.tmp 20)) none [6]]
def l69r4 : List AOper :=
  [AOper.mk (some 6) (.mv (.const (.bool false))) none []]
def l69r5 : List AOper :=
  [AOper.mk (some 12) (.mv (.tmp 7)) none [], AOper.mk (some 13) (.bin .add (.tmp 12) (.const (.int .i64 1))) none [0], AOper.mk (some 7) (.mv (.tmp 13)) none [1, 0, 1]]
def l69r6 : List AOper :=
  [AOper.mk (some 6) (.mv (.const (.bool true))) none []]
def l69 : AFn :=
  (AFn.mk 22 3 (ACode.seq (ACode.reg l69r0) (ACode.seq (ACode.seq (ACode.reg l69r1) (ACode.block 0 (ACode.loop (ACode.seq (ACode.seq (ACode.reg l69r2) (ACode.cond (.tmp 11) ACode.skip (ACode.exit 0))) (ACode.seq (ACode.block 1 (ACode.seq (ACode.reg l69r3) (ACode.cond (.tmp 21) (ACode.seq (ACode.reg l69r4) ACode.ret) ACode.skip))) (ACode.reg l69r5)))))) (ACode.seq (ACode.reg l69r6) ACode.ret))) [ARes.tmp 6])
theorem l69_eq : lowFn Try.prog 69 = some l69 := by kernel_rfl
def l70r0 : List AOper :=
  [AOper.mk (some 2) (.mv (.const (.int .i64 0))) none []]
def l70r1 : List AOper :=
  [AOper.mk (some 3) (.mv (.const (.int .i64 1))) none []]
def l70r2 : List AOper :=
  [AOper.mk (some 4) (.mv (.const (.int .i64 0))) none []]
def l70r3 : List AOper :=
  [AOper.mk (some 5) (.mv (.tmp 4)) none [], AOper.mk (some 6) (.mv (.tmp 0)) none [], AOper.mk (some 7) (.len (.tmp 6)) none [1], AOper.mk (some 8) (.bin .lss (.tmp 5) (.tmp 7)) none [0, 2]]
def l70r4 : List AOper :=
  [AOper.mk (some 11) (.mv (.tmp 3)) none [], AOper.mk (some 12) (.mv (.tmp 0)) none [], AOper.mk (some 13) (.mv (.tmp 4)) none [], AOper.mk (some 14) (.idxA 1 (.tmp 12) (.tmp 13)) none [1, 2], AOper.mk (some 15) (.load false 1 (.tmp 14)) none [3], AOper.mk (some 16) (.bin .mul (.tmp 11) (.tmp 15)) none [0, 4], AOper.mk (some 3) (.mv (.tmp 16)) none [5, 0, 1, 2, 3, 4, 5]]
def l70r5 : List AOper :=
  [AOper.mk (some 9) (.mv (.tmp 4)) none [], AOper.mk (some 10) (.bin .add (.tmp 9) (.const (.int .i64 1))) none [0], AOper.mk (some 4) (.mv (.tmp 10)) none [1, 0, 1]]
def l70r6 : List AOper :=
  [AOper.mk (some 17) (.mv (.tmp 3)) none [], AOper.mk (some 2) (.mv (.tmp 17)) none [0, 0]]
def l70 : AFn :=
  (AFn.mk 18 1 (ACode.seq (ACode.reg l70r0) (ACode.seq (ACode.reg l70r1) (ACode.seq (ACode.seq (ACode.reg l70r2) (ACode.block 0 (ACode.loop (ACode.seq (ACode.seq (ACode.reg l70r3) (ACode.cond (.tmp 8) ACode.skip (ACode.exit 0))) (ACode.seq (ACode.block 1 (ACode.reg l70r4)) (ACode.reg l70r5)))))) (ACode.seq (ACode.reg l70r6) ACode.ret)))) [ARes.tmp 2])
theorem l70_eq : lowFn Try.prog 70 = some l70 := by kernel_rfl
def l71r0 : List AOper :=
  [AOper.mk (some 1) (.box (.tmp 0)) none [], AOper.mk (some 2) (.mv (.const (.slice none 0 0))) none []]
def l71r1 : List AOper :=
  [AOper.mk (some 5) (.bslice 1 [.int .i64 0] [] 0) none [], AOper.mk (some 3) (.mv (.tmp 5)) none [0, 0]]
def l71r2 : List AOper :=
  [AOper.mk (some 4) (.mv (.const (.int .i64 0))) none []]
def l71r3 : List AOper :=
  [AOper.mk (some 6) (.mv (.tmp 4)) none [], AOper.mk (some 7) (.fld 1 (.tmp 1)) none [], AOper.mk (some 8) (.load false 1 (.tmp 7)) none [1], AOper.mk (some 9) (.call 70 [.tmp 8]) none [2], AOper.mk (some 10) (.bin .lss (.tmp 6) (.tmp 9)) none [0, 3]]
def l71r4a : List AOper :=
  [AOper.mk (some 13) (.mv (.tmp 3)) none [], AOper.mk (some 14) (.load true 3 (.tmp 1)) none [], AOper.mk (some 15) (.fld 1 (.tmp 1)) none [], AOper.mk (some 16) (.load false 1 (.tmp 15)) none [2], AOper.mk (some 17) (.mv (.tmp 4)) none [], AOper.mk (some 18) (.call 93 [.tmp 16, .tmp 17]) none [3, 4], AOper.mk (some 19) (.call 92 [.tmp 14, .tmp 18]) none [1, 5, 5], AOper.mk (some 20) (.bslice 1 [.int .i64 0] [(0, .tmp 19)] 1) none [6]]
def l71r4b : List AOper :=
  [AOper.mk (some 21) (.append 1 (.tmp 13) (.tmp 20)) none [0, 7, 6], AOper.mk (some 3) (.mv (.tmp 21)) none [8, 8, 0, 1, 2, 3, 4, 5, 6, 7, 8]]
def l71r4 : List AOper := l71r4a ++ l71r4b
def l71r5 : List AOper :=
  [AOper.mk (some 11) (.mv (.tmp 4)) none [], AOper.mk (some 12) (.bin .add (.tmp 11) (.const (.int .i64 1))) none [0], AOper.mk (some 4) (.mv (.tmp 12)) none [1, 0, 1]]
def l71r6 : List AOper :=
  [AOper.mk (some 22) (.mv (.tmp 3)) none [], AOper.mk (some 2) (.mv (.tmp 22)) none [0, 0]]
def l71 : AFn :=
  (AFn.mk 23 1 (ACode.seq (ACode.reg l71r0) (ACode.seq (ACode.reg l71r1) (ACode.seq (ACode.seq (ACode.reg l71r2) (ACode.block 0 (ACode.loop (ACode.seq (ACode.seq (ACode.reg l71r3) (ACode.cond (.tmp 10) ACode.skip (ACode.exit 0))) (ACode.seq (ACode.block 1 (ACode.draw l71r4)) (ACode.reg l71r5)))))) (ACode.seq (ACode.reg l71r6) ACode.ret)))) [ARes.tmp 2])
theorem l71_eq : lowFn Try.prog 71 = some l71 := by kernel_rfl
def l79r0 : List AOper :=
  [AOper.mk (some 4) (.mv (.const (.bool false))) none []]
def l79r1 : List AOper :=
  [AOper.mk (some 7) (.mv (.tmp 0)) none [], AOper.mk (some 8) (.len (.tmp 7)) none [0], AOper.mk (some 9) (.mv (.tmp 1)) none [], AOper.mk (some 10) (.bin .neq (.tmp 8) (.tmp 9)) none [1, 2]]
def l79r2 : List AOper :=
  [AOper.mk (some 4) (.mv (.const (.bool false))) none []]
def l79r3 : List AOper :=
  [AOper.mk (some 11) (.mv (.tmp 0)) none [], AOper.mk (some 12) (.len (.tmp 11)) none [0], AOper.mk (some 13) (.mv (.const (.int .i64 0))) none []]
def l79r4 : List AOper :=
  [AOper.mk (some 14) (.bin .lss (.tmp 13) (.tmp 12)) none []]
def l79r5 : List AOper :=
  [AOper.mk (some 15) (.idxA 1 (.tmp 11) (.tmp 13)) none [], AOper.mk (some 16) (.load false 1 (.tmp 15)) none [0], AOper.mk (some 6) (.mv (.tmp 16)) none [1, 0, 1]]
def l79r6 : List AOper :=
  [AOper.mk (some 17) (.mv (.tmp 6)) none [], AOper.mk (some 18) (.call 95 [.tmp 17, .const (.int .i64 60)]) none [0], AOper.mk (some 19) (.un .not (.tmp 18)) none [1]]
def l79r7 : List AOper :=
  [AOper.mk (some 4) (.mv (.const (.bool false))) none []]
def l79r8 : List AOper :=
  [AOper.mk (some 20) (.bin .add (.tmp 13) (.const (.int .i64 1))) none [], AOper.mk (some 13) (.mv (.tmp 20)) none [0]]
def l79r9 : List AOper :=
  [AOper.mk (some 4) (.mv (.const (.bool true))) none []]
def l79 : AFn :=
  (AFn.mk 21 2 (ACode.seq (ACode.reg l79r0) (ACode.seq (ACode.seq (ACode.reg l79r1) (ACode.cond (.tmp 10) (ACode.seq (ACode.reg l79r2) ACode.ret) ACode.skip)) (ACode.seq (ACode.seq (ACode.reg l79r3) (ACode.block 0 (ACode.loop (ACode.seq (ACode.reg l79r4) (ACode.seq (ACode.cond (.tmp 14) ACode.skip (ACode.exit 0)) (ACode.seq (ACode.block 1 (ACode.seq (ACode.reg l79r5) (ACode.seq (ACode.reg l79r6) (ACode.cond (.tmp 19) (ACode.seq (ACode.reg l79r7) ACode.ret) ACode.skip)))) (ACode.reg l79r8))))))) (ACode.seq (ACode.reg l79r9) ACode.ret)))) [ARes.tmp 4])
theorem l79_eq : lowFn Try.prog 79 = some l79 := by kernel_rfl
def l80r0 : List AOper :=
  [AOper.mk (some 1) (.box (.tmp 0)) none [], AOper.mk (some 2) (.mv (.const (.int .i64 0))) none [], AOper.mk (some 3) (.mv (.const (.int .i64 0))) none [1]]
def l80r1 : List AOper :=
  [AOper.mk (some 9) (.load true 3 (.tmp 1)) none [], AOper.mk (some 10) (.call 58 [.tmp 9]) none [0], AOper.mk (some 11) (.bin .eql (.tmp 10) (.const (.int .i64 0))) none [1]]
def l80r2 : List AOper :=
  [AOper.mk (some 2) (.mv (.const (.int .i64 (-1)))) none [], AOper.mk (some 3) (.mv (.const (.int .i64 (-1)))) none [0, 0]]
def l80r3a : List AOper :=
  [AOper.mk (some 12) (.fld 0 (.tmp 1)) none [], AOper.mk (some 13) (.load false 1 (.tmp 12)) none [0], AOper.mk (some 14) (.fld 0 (.tmp 1)) none [], AOper.mk (some 15) (.load false 1 (.tmp 14)) none [2], AOper.mk (some 4) (.mv (.tmp 13)) none [1, 0, 1]]
def l80r3b : List AOper :=
  [AOper.mk (some 5) (.mv (.tmp 15)) none [3, 4, 0, 1, 2, 3, 4]]
def l80r3 : List AOper := l80r3a ++ l80r3b
def l80r4 : List AOper :=
  [AOper.mk (some 16) (.fld 2 (.tmp 1)) none [], AOper.mk (some 17) (.load false 1 (.tmp 16)) none [0], AOper.mk (some 18) (.len (.tmp 17)) none [1], AOper.mk (some 19) (.mv (.const (.int .i64 0))) none []]
def l80r5 : List AOper :=
  [AOper.mk (some 20) (.bin .lss (.tmp 19) (.tmp 18)) none []]
def l80r6 : List AOper :=
  [AOper.mk (some 21) (.mv (.tmp 19)) none [], AOper.mk (some 22) (.idxA 1 (.tmp 17) (.tmp 19)) none [], AOper.mk (some 23) (.load false 1 (.tmp 22)) none [1], AOper.mk (some 6) (.mv (.tmp 21)) none [0, 0, 1, 2], AOper.mk (some 7) (.mv (.tmp 23)) none [2, 3, 0, 1, 2, 3]]
def l80r7 : List AOper :=
  [AOper.mk (some 24) (.fld 1 (.tmp 1)) none [], AOper.mk (some 25) (.load false 1 (.tmp 24)) none [0], AOper.mk (some 26) (.mv (.tmp 6)) none [], AOper.mk (some 27) (.idxA 1 (.tmp 25) (.tmp 26)) none [1, 2], AOper.mk (some 28) (.load false 1 (.tmp 27)) none [3], AOper.mk (some 29) (.bin .sub (.tmp 28) (.const (.int .i64 1))) none [4], AOper.mk (some 30) (.mv (.tmp 7)) none [], AOper.mk (some 31) (.bin .mul (.tmp 29) (.tmp 30)) none [5, 6], AOper.mk (some 8) (.mv (.tmp 31)) none [7, 0, 1, 2, 3, 4, 5, 6, 7]]
def l80r8 : List AOper :=
  [AOper.mk (some 32) (.mv (.tmp 4)) none [], AOper.mk (some 33) (.mv (.tmp 8)) none [], AOper.mk (some 34) (.minmax false (.tmp 33) (.const (.int .i64 0))) none [1], AOper.mk (some 35) (.bin .add (.tmp 32) (.tmp 34)) none [0, 2], AOper.mk (some 4) (.mv (.tmp 35)) none [3, 0, 1, 2, 3]]
def l80r9 : List AOper :=
  [AOper.mk (some 36) (.mv (.tmp 5)) none [], AOper.mk (some 37) (.mv (.tmp 8)) none [], AOper.mk (some 38) (.minmax true (.tmp 37) (.const (.int .i64 0))) none [1], AOper.mk (some 39) (.bin .add (.tmp 36) (.tmp 38)) none [0, 2], AOper.mk (some 5) (.mv (.tmp 39)) none [3, 0, 1, 2, 3]]
def l80r10 : List AOper :=
  [AOper.mk (some 40) (.bin .add (.tmp 19) (.const (.int .i64 1))) none [], AOper.mk (some 19) (.mv (.tmp 40)) none [0]]
def l80r11 : List AOper :=
  [AOper.mk (some 41) (.mv (.tmp 4)) none [], AOper.mk (some 42) (.mv (.tmp 5)) none [], AOper.mk (some 2) (.mv (.tmp 41)) none [0, 0], AOper.mk (some 3) (.mv (.tmp 42)) none [1, 2, 0, 1, 2]]
def l80 : AFn :=
  (AFn.mk 43 1 (ACode.seq (ACode.reg l80r0) (ACode.seq (ACode.seq (ACode.reg l80r1) (ACode.cond (.tmp 11) (ACode.seq (ACode.reg l80r2) ACode.ret) ACode.skip)) (ACode.seq (ACode.draw l80r3) (ACode.seq (ACode.seq (ACode.reg l80r4) (ACode.block 0 (ACode.loop (ACode.seq (ACode.reg l80r5) (ACode.seq (ACode.cond (.tmp 20) ACode.skip (ACode.exit 0)) (ACode.seq (ACode.block 1 (ACode.seq (ACode.reg l80r6) (ACode.seq (ACode.reg l80r7) (ACode.seq (ACode.reg l80r8) (ACode.reg l80r9))))) (ACode.reg l80r10))))))) (ACode.seq (ACode.reg l80r11) ACode.ret))))) [ARes.tmp 2, ARes.tmp 3])
theorem l80_eq : lowFn Try.prog 80 = some l80 := by kernel_rfl
def l82r0 : List AOper :=
  [AOper.mk (some 2) (.box (.tmp 0)) none [], AOper.mk (some 3) (.box (.tmp 1)) none [], AOper.mk (some 4) (.mv (.const (.int .i64 0))) none []]
def l82r1a : List AOper :=
  [AOper.mk (some 5) (.fld 0 (.tmp 2)) none [], AOper.mk (some 6) (.load false 1 (.tmp 5)) none [0], AOper.mk (some 7) (.load true 4 (.tmp 3)) none [], AOper.mk (some 8) (.fld 2 (.tmp 2)) none [], AOper.mk (some 9) (.load false 1 (.tmp 8)) none [3], AOper.mk (some 10) (.call 98 [.tmp 7, .tmp 9]) none [2, 4]]
def l82r1b : List AOper :=
  [AOper.mk (some 11) (.bin .add (.tmp 6) (.tmp 10)) none [1, 5], AOper.mk (some 4) (.mv (.tmp 11)) none [6, 5, 0, 1, 2, 3, 4, 5, 6]]
def l82r1 : List AOper := l82r1a ++ l82r1b
def l82 : AFn :=
  (AFn.mk 12 2 (ACode.seq (ACode.reg l82r0) (ACode.seq (ACode.draw l82r1) ACode.ret)) [ARes.tmp 4])
theorem l82_eq : lowFn Try.prog 82 = some l82 := by kernel_rfl
def l83r0 : List AOper :=
  [AOper.mk (some 2) (.mv (.const (.slice none 0 0))) none []]
def l83r1 : List AOper :=
  [AOper.mk (some 3) (.bslice 1 [.int .i64 0] [] 0) none [], AOper.mk (some 4) (.mv (.tmp 0)) none [], AOper.mk (some 5) (.append 1 (.tmp 3) (.tmp 4)) none [0, 1], AOper.mk (some 2) (.mv (.tmp 5)) none [2, 2, 0, 1, 2]]
def l83 : AFn :=
  (AFn.mk 6 1 (ACode.seq (ACode.reg l83r0) (ACode.seq (ACode.reg l83r1) ACode.ret)) [ARes.tmp 2])
theorem l83_eq : lowFn Try.prog 83 = some l83 := by kernel_rfl
def l84r0 : List AOper :=
  [AOper.mk (some 4) (.mv (.const (.int .i64 0))) none []]
def l84r1 : List AOper :=
  [AOper.mk (some 5) (.mv (.const (.int .i64 0))) none []]
def l84r2 : List AOper :=
  [AOper.mk (some 6) (.mv (.const (.int .i64 0))) none []]
def l84r3 : List AOper :=
  [AOper.mk (some 7) (.mv (.tmp 6)) none [], AOper.mk (some 8) (.mv (.tmp 0)) none [], AOper.mk (some 9) (.len (.tmp 8)) none [1], AOper.mk (some 10) (.bin .lss (.tmp 7) (.tmp 9)) none [0, 2]]
def l84r4a : List AOper :=
  [AOper.mk (some 13) (.mv (.tmp 5)) none [], AOper.mk (some 14) (.mv (.tmp 0)) none [], AOper.mk (some 15) (.mv (.tmp 6)) none [], AOper.mk (some 16) (.idxA 1 (.tmp 14) (.tmp 15)) none [1, 2], AOper.mk (some 17) (.load false 1 (.tmp 16)) none [3], AOper.mk (some 18) (.bin .mul (.tmp 13) (.tmp 17)) none [0, 4], AOper.mk (some 19) (.mv (.tmp 1)) none [], AOper.mk (some 20) (.mv (.tmp 6)) none [], AOper.mk (some 21) (.idxA 1 (.tmp 19) (.tmp 20)) none [6, 7], AOper.mk (some 22) (.load false 1 (.tmp 21)) none [8]]
def l84r4b : List AOper :=
  [AOper.mk (some 23) (.bin .add (.tmp 18) (.tmp 22)) none [5, 9], AOper.mk (some 5) (.mv (.tmp 23)) none [10, 0, 1, 2, 3, 4, 5, 6, 7, 8, 9, 10]]
def l84r4 : List AOper := l84r4a ++ l84r4b
def l84r5 : List AOper :=
  [AOper.mk (some 11) (.mv (.tmp 6)) none [], AOper.mk (some 12) (.bin .add (.tmp 11) (.const (.int .i64 1))) none [0], AOper.mk (some 6) (.mv (.tmp 12)) none [1, 0, 1]]
def l84r6 : List AOper :=
  [AOper.mk (some 24) (.mv (.tmp 5)) none [], AOper.mk (some 4) (.mv (.tmp 24)) none [0, 0]]
def l84 : AFn :=
  (AFn.mk 25 2 (ACode.seq (ACode.reg l84r0) (ACode.seq (ACode.reg l84r1) (ACode.seq (ACode.seq (ACode.reg l84r2) (ACode.block 0 (ACode.loop (ACode.seq (ACode.seq (ACode.reg l84r3) (ACode.cond (.tmp 10) ACode.skip (ACode.exit 0))) (ACode.seq (ACode.block 1 (ACode.draw l84r4)) (ACode.reg l84r5)))))) (ACode.seq (ACode.reg l84r6) ACode.ret)))) [ARes.tmp 4])
theorem l84_eq : lowFn Try.prog 84 = some l84 := by kernel_rfl
def l85r0 : List AOper :=
  [AOper.mk (some 4) (.mv (.const (.bool false))) none []]
def l85r1 : List AOper :=
  [AOper.mk (some 6) (.mv (.tmp 0)) none [], AOper.mk (some 7) (.len (.tmp 6)) none [0], AOper.mk (some 8) (.mv (.tmp 1)) none [], AOper.mk (some 9) (.len (.tmp 8)) none [2], AOper.mk (some 10) (.bin .neq (.tmp 7) (.tmp 9)) none [1, 3]]
def l85r2 : List AOper :=
  [AOper.mk (some 4) (.mv (.const (.bool false))) none []]
def l85r3 : List AOper :=
  [AOper.mk (some 5) (.mv (.const (.int .i64 0))) none []]
def l85r4 : List AOper :=
  [AOper.mk (some 11) (.mv (.tmp 5)) none [], AOper.mk (some 12) (.mv (.tmp 0)) none [], AOper.mk (some 13) (.len (.tmp 12)) none [1], AOper.mk (some 14) (.bin .lss (.tmp 11) (.tmp 13)) none [0, 2]]
def l85r5a : List AOper :=
  [AOper.mk (some 17) (.mv (.tmp 0)) none [], AOper.mk (some 18) (.mv (.tmp 5)) none [], AOper.mk (some 19) (.idxA 1 (.tmp 17) (.tmp 18)) none [0, 1], AOper.mk (some 20) (.load false 1 (.tmp 19)) none [2], AOper.mk (some 21) (.mv (.tmp 1)) none [], AOper.mk (some 22) (.mv (.tmp 5)) none [], AOper.mk (some 23) (.idxA 1 (.tmp 21) (.tmp 22)) none [4, 5], AOper.mk (some 24) (.load false 1 (.tmp 23)) none [6]]
def l85r5b : List AOper :=
  [AOper.mk (some 25) (.bin .neq (.tmp 20) (.tmp 24)) none [3, 7]]
def l85r5 : List AOper := l85r5a ++ l85r5b
def l85r6 : List AOper :=
  [AOper.mk (some 4) (.mv (.const (.bool false))) none []]
def l85r7 : List AOper :=
  [AOper.mk (some 15) (.mv (.tmp 5)) none [], AOper.mk (some 16) (.bin .add (.tmp 15) (.const (.int .i64 1))) none [0], AOper.mk (some 5) (.mv (.tmp 16)) none [1, 0, 1]]
def l85r8 : List AOper :=
  [AOper.mk (some 4) (.mv (.const (.bool true))) none []]
def l85 : AFn :=
  (AFn.mk 26 2 (ACode.seq (ACode.reg l85r0) (ACode.seq (ACode.seq (ACode.reg l85r1) (ACode.cond (.tmp 10) (ACode.seq (ACode.reg l85r2) ACode.ret) ACode.skip)) (ACode.seq (ACode.seq (ACode.reg l85r3) (ACode.block 0 (ACode.loop (ACode.seq (ACode.seq (ACode.reg l85r4) (ACode.cond (.tmp 14) ACode.skip (ACode.exit 0))) (ACode.seq (ACode.block 1 (ACode.seq (ACode.draw l85r5) (ACode.cond (.tmp 25) (ACode.seq (ACode.reg l85r6) ACode.ret) ACode.skip))) (ACode.reg l85r7)))))) (ACode.seq (ACode.reg l85r8) ACode.ret)))) [ARes.tmp 4])
theorem l85_eq : lowFn Try.prog 85 = some l85 := by kernel_rfl
def l86r0 : List AOper :=
  [AOper.mk (some 2) (.mv (.const (.slice none 0 0))) none []]
def l86r1 : List AOper :=
  [AOper.mk (some 5) (.mv (.tmp 0)) none [], AOper.mk (some 6) (.call 56 [.tmp 5]) none [0], AOper.mk (some 7) (.un .not (.tmp 6)) none [1]]
def l86r2 : List AOper :=
  [AOper.mk (some 2) (.mv (.const (.slice none 0 0))) none []]
def l86r3 : List AOper :=
  [AOper.mk (some 8) (.mv (.tmp 0)) none [], AOper.mk (some 9) (.len (.tmp 8)) none [0], AOper.mk (some 10) (.mkslice 1 [.int .i64 0] (.tmp 9) (.tmp 9)) none [1, 1], AOper.mk (some 3) (.mv (.tmp 10)) none [2, 0, 1, 2]]
def l86r4 : List AOper :=
  [AOper.mk (some 11) (.mv (.tmp 3)) none [], AOper.mk (some 12) (.len (.tmp 11)) none [0], AOper.mk (some 13) (.mv (.const (.int .i64 0))) none []]
def l86r5 : List AOper :=
  [AOper.mk (some 14) (.bin .lss (.tmp 13) (.tmp 12)) none []]
def l86r6 : List AOper :=
  [AOper.mk (some 15) (.mv (.tmp 13)) none [], AOper.mk (some 4) (.mv (.tmp 15)) none [0, 0]]
def l86r7 : List AOper :=
  [AOper.mk (some 16) (.mv (.tmp 3)) none [], AOper.mk (some 17) (.mv (.tmp 4)) none [], AOper.mk (some 18) (.mv (.tmp 0)) none [], AOper.mk (some 19) (.mv (.tmp 4)) none [], AOper.mk (some 20) (.bin .add (.tmp 19) (.const (.int .i64 1))) none [3], AOper.mk (some 21) (.slice 1 (.tmp 18) (some (.tmp 20)) none) none [2, 4], AOper.mk (some 22) (.call 57 [.tmp 21]) none [5], AOper.mk (some 23) (.idxA 1 (.tmp 16) (.tmp 17)) none [0, 1, 0, 1, 2, 3, 4, 5, 6], AOper.mk none (.store 1 (.tmp 23) (.tmp 22)) none [7, 6, 6, 0, 1, 2, 3, 4, 5, 6]]
def l86r8 : List AOper :=
  [AOper.mk (some 24) (.bin .add (.tmp 13) (.const (.int .i64 1))) none [], AOper.mk (some 13) (.mv (.tmp 24)) none [0]]
def l86r9 : List AOper :=
  [AOper.mk (some 25) (.mv (.tmp 3)) none [], AOper.mk (some 2) (.mv (.tmp 25)) none [0, 0]]
def l86 : AFn :=
  (AFn.mk 26 1 (ACode.seq (ACode.reg l86r0) (ACode.seq (ACode.seq (ACode.reg l86r1) (ACode.cond (.tmp 7) (ACode.seq (ACode.reg l86r2) ACode.ret) ACode.skip)) (ACode.seq (ACode.reg l86r3) (ACode.seq (ACode.seq (ACode.reg l86r4) (ACode.block 0 (ACode.loop (ACode.seq (ACode.reg l86r5) (ACode.seq (ACode.cond (.tmp 14) ACode.skip (ACode.exit 0)) (ACode.seq (ACode.block 1 (ACode.seq (ACode.reg l86r6) (ACode.reg l86r7))) (ACode.reg l86r8))))))) (ACode.seq (ACode.reg l86r9) ACode.ret))))) [ARes.tmp 2])
theorem l86_eq : lowFn Try.prog 86 = some l86 := by kernel_rfl
def l87r0 : List AOper :=
  [AOper.mk (some 4) (.alloc [.int .i64 0, .int .i64 0, .int .i64 0, .int .i64 0]) none []]
def l87r1 : List AOper :=
  [AOper.mk (some 5) (.alloc [.int .i64 0, .int .i64 0, .int .i64 0, .int .i64 0]) none []]
def l87r2 : List AOper :=
  [AOper.mk (some 7) (.mv (.tmp 0)) none [], AOper.mk (some 8) (.len (.tmp 7)) none [0], AOper.mk (some 9) (.bin .sub (.tmp 8) (.const (.int .i64 1))) none [1], AOper.mk (some 6) (.mv (.tmp 9)) none [2, 0, 1, 2]]
def l87r3 : List AOper :=
  [AOper.mk (some 10) (.mv (.tmp 6)) none [], AOper.mk (some 11) (.bin .geq (.tmp 10) (.const (.int .i64 0))) none [0]]
def l87r4 : List AOper :=
  [AOper.mk (some 14) (.mv (.tmp 6)) none [], AOper.mk (some 15) (.mv (.tmp 1)) none [], AOper.mk (some 16) (.mv (.tmp 0)) none [], AOper.mk (some 17) (.mv (.tmp 6)) none [], AOper.mk (some 18) (.idxA 1 (.tmp 16) (.tmp 17)) none [2, 3], AOper.mk (some 19) (.load false 1 (.tmp 18)) none [4], AOper.mk (some 20) (.bin .rem (.tmp 15) (.tmp 19)) none [1, 5], AOper.mk (some 21) (.idxP 1 4 (.tmp 5) (.tmp 14)) none [0, 0, 1, 2, 3, 4, 5, 6], AOper.mk none (.store 1 (.tmp 21) (.tmp 20)) none [7, 6, 0, 1, 2, 3, 4, 5, 6]]
def l87r5 : List AOper :=
  [AOper.mk (some 22) (.mv (.tmp 1)) none [], AOper.mk (some 23) (.mv (.tmp 0)) none [], AOper.mk (some 24) (.mv (.tmp 6)) none [], AOper.mk (some 25) (.idxA 1 (.tmp 23) (.tmp 24)) none [1, 2], AOper.mk (some 26) (.load false 1 (.tmp 25)) none [3], AOper.mk (some 27) (.bin .quo (.tmp 22) (.tmp 26)) none [0, 4], AOper.mk (some 1) (.mv (.tmp 27)) none [5, 0, 1, 2, 3, 4, 5]]
def l87r6 : List AOper :=
  [AOper.mk (some 12) (.mv (.tmp 6)) none [], AOper.mk (some 13) (.bin .sub (.tmp 12) (.const (.int .i64 1))) none [0], AOper.mk (some 6) (.mv (.tmp 13)) none [1, 0, 1]]
def l87r7 : List AOper :=
  [AOper.mk (some 28) (.load true 4 (.tmp 5)) none [], AOper.mk none (.store 4 (.tmp 4) (.tmp 28)) none [0, 0]]
def l87 : AFn :=
  (AFn.mk 29 2 (ACode.seq (ACode.reg l87r0) (ACode.seq (ACode.reg l87r1) (ACode.seq (ACode.seq (ACode.reg l87r2) (ACode.block 0 (ACode.loop (ACode.seq (ACode.seq (ACode.reg l87r3) (ACode.cond (.tmp 11) ACode.skip (ACode.exit 0))) (ACode.seq (ACode.block 1 (ACode.seq (ACode.reg l87r4) (ACode.reg l87r5))) (ACode.reg l87r6)))))) (ACode.seq (ACode.reg l87r7) ACode.ret)))) [ARes.cell 4 true 4])
theorem l87_eq : lowFn Try.prog 87 = some l87 := by kernel_rfl
def l92r0 : List AOper :=
  [AOper.mk (some 2) (.box (.tmp 0)) none [], AOper.mk (some 4) (.mv (.const (.int .i64 0))) none []]
def l92r1 : List AOper :=
  [AOper.mk (some 7) (.fld 0 (.tmp 2)) none [], AOper.mk (some 8) (.load false 1 (.tmp 7)) none [0], AOper.mk (some 5) (.mv (.tmp 8)) none [1, 0, 1]]
def l92r2 : List AOper :=
  [AOper.mk (some 6) (.mv (.const (.int .i64 0))) none []]
def l92r3 : List AOper :=
  [AOper.mk (some 9) (.mv (.tmp 6)) none [], AOper.mk (some 10) (.mv (.tmp 1)) none [], AOper.mk (some 11) (.len (.tmp 10)) none [1], AOper.mk (some 12) (.bin .lss (.tmp 9) (.tmp 11)) none [0, 2]]
def l92r4a : List AOper :=
  [AOper.mk (some 15) (.mv (.tmp 5)) none [], AOper.mk (some 16) (.mv (.tmp 1)) none [], AOper.mk (some 17) (.mv (.tmp 6)) none [], AOper.mk (some 18) (.idxA 1 (.tmp 16) (.tmp 17)) none [1, 2], AOper.mk (some 19) (.load false 1 (.tmp 18)) none [3], AOper.mk (some 20) (.fld 2 (.tmp 2)) none [], AOper.mk (some 21) (.load false 1 (.tmp 20)) none [5], AOper.mk (some 22) (.mv (.tmp 6)) none [], AOper.mk (some 23) (.idxA 1 (.tmp 21) (.tmp 22)) none [6, 7], AOper.mk (some 24) (.load false 1 (.tmp 23)) none [8], AOper.mk (some 25) (.bin .mul (.tmp 19) (.tmp 24)) none [4, 9]]
def l92r4b : List AOper :=
  [AOper.mk (some 26) (.bin .add (.tmp 15) (.tmp 25)) none [0, 10], AOper.mk (some 5) (.mv (.tmp 26)) none [11, 0, 1, 2, 3, 4, 5, 6, 7, 8, 9, 10, 11]]
def l92r4 : List AOper := l92r4a ++ l92r4b
def l92r5 : List AOper :=
  [AOper.mk (some 13) (.mv (.tmp 6)) none [], AOper.mk (some 14) (.bin .add (.tmp 13) (.const (.int .i64 1))) none [0], AOper.mk (some 6) (.mv (.tmp 14)) none [1, 0, 1]]
def l92r6 : List AOper :=
  [AOper.mk (some 27) (.mv (.tmp 5)) none [], AOper.mk (some 4) (.mv (.tmp 27)) none [0, 0]]
def l92 : AFn :=
  (AFn.mk 28 2 (ACode.seq (ACode.reg l92r0) (ACode.seq (ACode.reg l92r1) (ACode.seq (ACode.seq (ACode.reg l92r2) (ACode.block 0 (ACode.loop (ACode.seq (ACode.seq (ACode.reg l92r3) (ACode.cond (.tmp 12) ACode.skip (ACode.exit 0))) (ACode.seq (ACode.block 1 (ACode.draw l92r4)) (ACode.reg l92r5)))))) (ACode.seq (ACode.reg l92r6) ACode.ret)))) [ARes.tmp 4])
theorem l92_eq : lowFn Try.prog 92 = some l92 := by kernel_rfl
def l93r0 : List AOper :=
  [AOper.mk (some 4) (.mv (.const (.slice none 0 0))) none []]
def l93r1 : List AOper :=
  [AOper.mk (some 7) (.mv (.tmp 0)) none [], AOper.mk (some 8) (.len (.tmp 7)) none [0], AOper.mk (some 9) (.mkslice 1 [.int .i64 0] (.tmp 8) (.tmp 8)) none [1, 1], AOper.mk (some 5) (.mv (.tmp 9)) none [2, 0, 1, 2]]
def l93r2 : List AOper :=
  [AOper.mk (some 10) (.mv (.tmp 0)) none [], AOper.mk (some 11) (.len (.tmp 10)) none [0], AOper.mk (some 12) (.bin .sub (.tmp 11) (.const (.int .i64 1))) none [1], AOper.mk (some 6) (.mv (.tmp 12)) none [2, 0, 1, 2]]
def l93r3 : List AOper :=
  [AOper.mk (some 13) (.mv (.tmp 6)) none [], AOper.mk (some 14) (.bin .geq (.tmp 13) (.const (.int .i64 0))) none [0]]
def l93r4 : List AOper :=
  [AOper.mk (some 17) (.mv (.tmp 5)) none [], AOper.mk (some 18) (.mv (.tmp 6)) none [], AOper.mk (some 19) (.mv (.tmp 1)) none [], AOper.mk (some 20) (.mv (.tmp 0)) none [], AOper.mk (some 21) (.mv (.tmp 6)) none [], AOper.mk (some 22) (.idxA 1 (.tmp 20) (.tmp 21)) none [3, 4], AOper.mk (some 23) (.load false 1 (.tmp 22)) none [5], AOper.mk (some 24) (.bin .rem (.tmp 19) (.tmp 23)) none [2, 6], AOper.mk (some 25) (.idxA 1 (.tmp 17) (.tmp 18)) none [0, 1, 0, 1, 2, 3, 4, 5, 6, 7], AOper.mk none (.store 1 (.tmp 25) (.tmp 24)) none [8, 7, 0, 1, 2, 3, 4, 5, 6, 7]]
def l93r5 : List AOper :=
  [AOper.mk (some 26) (.mv (.tmp 1)) none [], AOper.mk (some 27) (.mv (.tmp 0)) none [], AOper.mk (some 28) (.mv (.tmp 6)) none [], AOper.mk (some 29) (.idxA 1 (.tmp 27) (.tmp 28)) none [1, 2], AOper.mk (some 30) (.load false 1 (.tmp 29)) none [3], AOper.mk (some 31) (.bin .quo (.tmp 26) (.tmp 30)) none [0, 4], AOper.mk (some 1) (.mv (.tmp 31)) none [5, 0, 1, 2, 3, 4, 5]]
def l93r6 : List AOper :=
  [AOper.mk (some 15) (.mv (.tmp 6)) none [], AOper.mk (some 16) (.bin .sub (.tmp 15) (.const (.int .i64 1))) none [0], AOper.mk (some 6) (.mv (.tmp 16)) none [1, 0, 1]]
def l93r7 : List AOper :=
  [AOper.mk (some 32) (.mv (.tmp 5)) none [], AOper.mk (some 4) (.mv (.tmp 32)) none [0, 0]]
def l93 : AFn :=
  (AFn.mk 33 2 (ACode.seq (ACode.reg l93r0) (ACode.seq (ACode.reg l93r1) (ACode.seq (ACode.seq (ACode.reg l93r2) (ACode.block 0 (ACode.loop (ACode.seq (ACode.seq (ACode.reg l93r3) (ACode.cond (.tmp 14) ACode.skip (ACode.exit 0))) (ACode.seq (ACode.block 1 (ACode.seq (ACode.reg l93r4) (ACode.reg l93r5))) (ACode.reg l93r6)))))) (ACode.seq (ACode.reg l93r7) ACode.ret)))) [ARes.tmp 4])
theorem l93_eq : lowFn Try.prog 93 = some l93 := by kernel_rfl
def l95r0 : List AOper :=
  [AOper.mk (some 4) (.mv (.const (.bool false))) none []]
def l95r1 : List AOper :=
  [AOper.mk (some 5) (.mv (.tmp 1)) none [], AOper.mk (some 6) (.un .neg (.tmp 5)) none [0], AOper.mk (some 7) (.mv (.tmp 0)) none [], AOper.mk (some 8) (.bin .leq (.tmp 6) (.tmp 7)) none [1, 2], AOper.mk (some 9) (.mv (.tmp 8)) none [3], AOper.mk (some 10) (.mv (.tmp 0)) (some (9, true)) [4], AOper.mk (some 11) (.mv (.tmp 1)) (some (9, true)) [4], AOper.mk (some 12) (.bin .leq (.tmp 10) (.tmp 11)) (some (9, true)) [5, 6, 4], AOper.mk (some 13) (.pick (.tmp 9) (.tmp 12) (.const (.bool false))) none [4, 7], AOper.mk (some 4) (.mv (.tmp 13)) none [8, 4, 0, 1, 2, 3, 4, 5, 6, 7, 8]]
def l95 : AFn :=
  (AFn.mk 14 2 (ACode.seq (ACode.reg l95r0) (ACode.seq (ACode.reg l95r1) ACode.ret)) [ARes.tmp 4])
theorem l95_eq : lowFn Try.prog 95 = some l95 := by kernel_rfl
def l98r0 : List AOper :=
  [AOper.mk (some 2) (.box (.tmp 0)) none [], AOper.mk (some 4) (.mv (.const (.int .i64 0))) none []]
def l98r1 : List AOper :=
  [AOper.mk (some 5) (.mv (.const (.int .i64 0))) none []]
def l98r2 : List AOper :=
  [AOper.mk (some 8) (.mv (.tmp 1)) none [], AOper.mk (some 9) (.len (.tmp 8)) none [0], AOper.mk (some 10) (.mv (.const (.int .i64 0))) none []]
def l98r3 : List AOper :=
  [AOper.mk (some 11) (.bin .lss (.tmp 10) (.tmp 9)) none []]
def l98r4 : List AOper :=
  [AOper.mk (some 12) (.mv (.tmp 10)) none [], AOper.mk (some 13) (.idxA 1 (.tmp 8) (.tmp 10)) none [], AOper.mk (some 14) (.load false 1 (.tmp 13)) none [1], AOper.mk (some 6) (.mv (.tmp 12)) none [0, 0, 1, 2], AOper.mk (some 7) (.mv (.tmp 14)) none [2, 3, 0, 1, 2, 3]]
def l98r5 : List AOper :=
  [AOper.mk (some 15) (.mv (.tmp 5)) none [], AOper.mk (some 16) (.mv (.tmp 6)) none [], AOper.mk (some 17) (.idxP 1 4 (.tmp 2) (.tmp 16)) none [1], AOper.mk (some 18) (.load false 1 (.tmp 17)) none [2], AOper.mk (some 19) (.mv (.tmp 7)) none [], AOper.mk (some 20) (.bin .mul (.tmp 18) (.tmp 19)) none [3, 4], AOper.mk (some 21) (.bin .add (.tmp 15) (.tmp 20)) none [0, 5], AOper.mk (some 5) (.mv (.tmp 21)) none [6, 0, 1, 2, 3, 4, 5, 6]]
def l98r6 : List AOper :=
  [AOper.mk (some 22) (.bin .add (.tmp 10) (.const (.int .i64 1))) none [], AOper.mk (some 10) (.mv (.tmp 22)) none [0]]
def l98r7 : List AOper :=
  [AOper.mk (some 23) (.mv (.tmp 5)) none [], AOper.mk (some 4) (.mv (.tmp 23)) none [0, 0]]
def l98 : AFn :=
  (AFn.mk 24 2 (ACode.seq (ACode.reg l98r0) (ACode.seq (ACode.reg l98r1) (ACode.seq (ACode.seq (ACode.reg l98r2) (ACode.block 0 (ACode.loop (ACode.seq (ACode.reg l98r3) (ACode.seq (ACode.cond (.tmp 11) ACode.skip (ACode.exit 0)) (ACode.seq (ACode.block 1 (ACode.seq (ACode.reg l98r4) (ACode.reg l98r5))) (ACode.reg l98r6))))))) (ACode.seq (ACode.reg l98r7) ACode.ret)))) [ARes.tmp 4])
theorem l98_eq : lowFn Try.prog 98 = some l98 := by kernel_rfl
end Go.Proofs.Ytfkaejajkkbpmaa
