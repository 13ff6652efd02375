import Derived.Test.YtfkaejajkkbpmaaCW3
import Derived.Test.YtfkaejajkkbpmaaProg
import Derived.KernelRfl
set_option maxRecDepth 100000
namespace Go.Proofs.Ytfkaejajkkbpmaa
open Vw Go
def l3r0 : List AOper :=
  [AOper.mk (some 3) (.box (.tmp 0)) none [], AOper.mk (some 5) (.box (.tmp 2)) none [], AOper.mk (some 6) (.mv (.const (.bool false))) none []]
def l3r1 : List AOper :=
  [AOper.mk (some 7) (.mv (.const (.int .i64 1048576))) none []]
def l3r2 : List AOper :=
  [AOper.mk (some 18) (.load true 3 (.tmp 3)) none [], AOper.mk (some 19) (.mv (.tmp 7)) none [], AOper.mk (some 20) (.call 10 [.tmp 18, .tmp 19]) none [0, 1], AOper.mk (some 7) (.mv (.tmp 20)) none [2, 2, 0, 1, 2]]
def l3r3 : List AOper :=
  [AOper.mk (some 21) (.mv (.tmp 7)) none [], AOper.mk (some 22) (.bin .lss (.tmp 21) (.const (.int .i64 0))) none [0]]
def l3r4 : List AOper :=
  [AOper.mk (some 6) (.mv (.const (.bool true))) none []]
def l3r5a : List AOper :=
  [AOper.mk (some 24) (.load true 3 (.tmp 3)) none [], AOper.mk (some 25) (.call 12 [.tmp 24]) none [0], AOper.mk (some 26) (.mv (.tmp 1)) none [], AOper.mk (some 27) (.load true 5 (.tmp 5)) none [], AOper.mk (some 28) (.call 13 [.tmp 27]) none [3, 1], AOper.mk (some 29) (.call 11 [.tmp 25, .tmp 26, .tmp 28]) none [1, 2, 4, 4], AOper.mk (some 23) (.mv (.tmp 29)) none [5], AOper.mk (some 30) (.extract (.tmp 23) 0) none [6], AOper.mk (some 31) (.extract (.tmp 23) 1) none [6], AOper.mk (some 8) (.alloc [.int .i64 0, .slice none 0 0, .slice none 0 0]) none [], AOper.mk none (.store 3 (.tmp 8) (.tmp 30)) none [9, 7, 5, 0, 1, 2, 3, 4, 5, 6, 7, 9]]
def l3r5b : List AOper :=
  [AOper.mk (some 9) (.mv (.tmp 31)) none [8, 10, 0, 1, 2, 3, 4, 5, 6, 7, 8, 9, 10]]
def l3r5 : List AOper := l3r5a ++ l3r5b
def l3r6 : List AOper :=
  [AOper.mk (some 32) (.load true 3 (.tmp 3)) none [], AOper.mk (some 33) (.call 12 [.tmp 32]) none [0], AOper.mk (some 10) (.alloc [.int .i64 0, .slice none 0 0, .slice none 0 0]) none [], AOper.mk none (.store 3 (.tmp 10) (.tmp 33)) none [2, 1, 1, 0, 1, 2]]
def l3r7a : List AOper :=
  [AOper.mk (some 35) (.load true 3 (.tmp 10)) none [], AOper.mk (some 36) (.mv (.tmp 1)) none [], AOper.mk (some 37) (.load true 5 (.tmp 5)) none [], AOper.mk (some 38) (.call 13 [.tmp 37]) none [2], AOper.mk (some 39) (.call 14 [.tmp 35, .tmp 36, .tmp 38]) none [0, 1, 3, 3], AOper.mk (some 34) (.mv (.tmp 39)) none [4], AOper.mk (some 40) (.extract (.tmp 34) 0) none [5], AOper.mk (some 41) (.extract (.tmp 34) 1) none [5], AOper.mk (some 11) (.alloc [.int .i64 0, .slice none 0 0, .slice none 0 0]) none [], AOper.mk none (.store 3 (.tmp 11) (.tmp 40)) none [8, 6, 4, 0, 1, 2, 3, 4, 5, 6, 8]]
def l3r7b : List AOper :=
  [AOper.mk (some 12) (.mv (.tmp 41)) none [7, 9, 0, 1, 2, 3, 4, 5, 6, 7, 8, 9]]
def l3r7 : List AOper := l3r7a ++ l3r7b
def l3r8 : List AOper :=
  [AOper.mk (some 42) (.load true 3 (.tmp 11)) none [], AOper.mk (some 43) (.load true 3 (.tmp 8)) none [], AOper.mk (some 44) (.call 15 [.tmp 42, .tmp 43]) none [0, 1], AOper.mk (some 45) (.un .not (.tmp 44)) none [2], AOper.mk (some 46) (.mv (.tmp 45)) none [3, 2], AOper.mk (some 47) (.mv (.tmp 12)) (some (46, false)) [4], AOper.mk (some 48) (.mv (.tmp 9)) (some (46, false)) [4], AOper.mk (some 49) (.binB .neq (.tmp 47) (.tmp 48)) (some (46, false)) [5, 6, 4], AOper.mk (some 50) (.pick (.tmp 46) (.const (.bool true)) (.tmp 49)) none [4, 7]]
def l3r9 : List AOper :=
  [AOper.mk (some 6) (.mv (.const (.bool false))) none []]
def l3r10a : List AOper :=
  [AOper.mk (some 51) (.load true 3 (.tmp 10)) none [], AOper.mk (some 52) (.load true 3 (.tmp 3)) none [], AOper.mk (some 53) (.call 12 [.tmp 52]) none [1]]
def l3r10b : List AOper :=
  [AOper.mk (some 54) (.call 15 [.tmp 51, .tmp 53]) none [0, 2, 2], AOper.mk (some 55) (.un .not (.tmp 54)) none [3]]
def l3r10 : List AOper := l3r10a ++ l3r10b
def l3r11 : List AOper :=
  [AOper.mk (some 6) (.mv (.const (.bool false))) none []]
def l3r12 : List AOper :=
  [AOper.mk (some 13) (.mv (.const (.int .i64 1))) none []]
def l3r13 : List AOper :=
  [AOper.mk (some 56) (.load true 3 (.tmp 10)) none [], AOper.mk (some 57) (.mv (.tmp 13)) none [], AOper.mk (some 58) (.call 16 [.tmp 56, .tmp 57]) none [0, 1], AOper.mk (some 13) (.mv (.tmp 58)) none [2, 2, 0, 1, 2]]
def l3r14 : List AOper :=
  [AOper.mk (some 59) (.mv (.tmp 13)) none [], AOper.mk (some 60) (.bin .lss (.tmp 59) (.const (.int .i64 0))) none [0], AOper.mk (some 61) (.mv (.tmp 60)) none [1], AOper.mk (some 62) (.load true 3 (.tmp 11)) (some (61, false)) [2], AOper.mk (some 63) (.load true 3 (.tmp 8)) (some (61, false)) [2], AOper.mk (some 64) (.call 15 [.tmp 62, .tmp 63]) (some (61, false)) [3, 4, 2, 2], AOper.mk (some 65) (.un .not (.tmp 64)) (some (61, false)) [5, 2], AOper.mk (some 66) (.pick (.tmp 61) (.const (.bool true)) (.tmp 65)) none [2, 6], AOper.mk (some 67) (.mv (.tmp 66)) none [7, 5], AOper.mk (some 68) (.mv (.tmp 12)) (some (67, false)) [8], AOper.mk (some 69) (.mv (.tmp 9)) (some (67, false)) [8], AOper.mk (some 70) (.binB .neq (.tmp 68) (.tmp 69)) (some (67, false)) [9, 10, 8], AOper.mk (some 71) (.pick (.tmp 67) (.const (.bool true)) (.tmp 70)) none [8, 11]]
def l3r15 : List AOper :=
  [AOper.mk (some 6) (.mv (.const (.bool false))) none []]
def l3r16 : List AOper :=
  [AOper.mk (some 14) (.mv (.const (.int .i64 1))) none []]
def l3r17 : List AOper :=
  [AOper.mk (some 72) (.load true 3 (.tmp 11)) none [], AOper.mk (some 73) (.mv (.tmp 14)) none [], AOper.mk (some 74) (.call 16 [.tmp 72, .tmp 73]) none [0, 1], AOper.mk (some 14) (.mv (.tmp 74)) none [2, 2, 0, 1, 2]]
def l3r18 : List AOper :=
  [AOper.mk (some 15) (.mv (.const (.int .i64 1))) none []]
def l3r19 : List AOper :=
  [AOper.mk (some 75) (.load true 3 (.tmp 11)) none [], AOper.mk (some 76) (.mv (.tmp 15)) none [], AOper.mk (some 77) (.call 17 [.tmp 75, .tmp 76]) none [0, 1], AOper.mk (some 15) (.mv (.tmp 77)) none [2, 2, 0, 1, 2]]
def l3r20 : List AOper :=
  [AOper.mk (some 78) (.mv (.tmp 15)) none [], AOper.mk (some 79) (.bin .lss (.tmp 78) (.const (.int .i64 0))) none [0]]
def l3r21 : List AOper :=
  [AOper.mk (some 6) (.mv (.const (.bool false))) none []]
def l3r22 : List AOper :=
  [AOper.mk (some 80) (.mv (.tmp 15)) none [], AOper.mk (some 81) (.mv (.tmp 14)) none [], AOper.mk (some 82) (.bin .neq (.tmp 80) (.tmp 81)) none [0, 1]]
def l3r23 : List AOper :=
  [AOper.mk (some 6) (.mv (.const (.bool false))) none []]
def l3r24a : List AOper :=
  [AOper.mk (some 84) (.load true 3 (.tmp 3)) none [], AOper.mk (some 85) (.call 12 [.tmp 84]) none [0], AOper.mk (some 86) (.mv (.tmp 1)) none [], AOper.mk (some 87) (.load true 5 (.tmp 5)) none [], AOper.mk (some 88) (.call 13 [.tmp 87]) none [3, 1], AOper.mk (some 89) (.call 14 [.tmp 85, .tmp 86, .tmp 88]) none [1, 2, 4, 4], AOper.mk (some 83) (.mv (.tmp 89)) none [5], AOper.mk (some 90) (.extract (.tmp 83) 0) none [6], AOper.mk (some 91) (.extract (.tmp 83) 1) none [6], AOper.mk (some 16) (.alloc [.int .i64 0, .slice none 0 0, .slice none 0 0]) none [], AOper.mk none (.store 3 (.tmp 16) (.tmp 90)) none [9, 7, 5, 0, 1, 2, 3, 4, 5, 6, 7, 9]]
def l3r24b : List AOper :=
  [AOper.mk (some 17) (.mv (.tmp 91)) none [8, 10, 0, 1, 2, 3, 4, 5, 6, 7, 8, 9, 10]]
def l3r24 : List AOper := l3r24a ++ l3r24b
def l3r25 : List AOper :=
  [AOper.mk (some 92) (.load true 3 (.tmp 16)) none [], AOper.mk (some 93) (.load true 3 (.tmp 8)) none [], AOper.mk (some 94) (.call 15 [.tmp 92, .tmp 93]) none [0, 1], AOper.mk (some 95) (.un .not (.tmp 94)) none [2], AOper.mk (some 96) (.mv (.tmp 95)) none [3, 2], AOper.mk (some 97) (.mv (.tmp 17)) (some (96, false)) [4], AOper.mk (some 98) (.mv (.tmp 9)) (some (96, false)) [4], AOper.mk (some 99) (.binB .neq (.tmp 97) (.tmp 98)) (some (96, false)) [5, 6, 4], AOper.mk (some 100) (.pick (.tmp 96) (.const (.bool true)) (.tmp 99)) none [4, 7]]
def l3r26 : List AOper :=
  [AOper.mk (some 6) (.mv (.const (.bool false))) none []]
def l3r27 : List AOper :=
  [AOper.mk (some 15) (.mv (.const (.int .i64 1))) none []]
def l3r28 : List AOper :=
  [AOper.mk (some 101) (.load true 3 (.tmp 11)) none [], AOper.mk (some 102) (.mv (.tmp 15)) none [], AOper.mk (some 103) (.call 17 [.tmp 101, .tmp 102]) none [0, 1], AOper.mk (some 15) (.mv (.tmp 103)) none [2, 2, 0, 1, 2]]
def l3r29 : List AOper :=
  [AOper.mk (some 104) (.mv (.tmp 15)) none [], AOper.mk (some 105) (.bin .lss (.tmp 104) (.const (.int .i64 0))) none [0]]
def l3r30 : List AOper :=
  [AOper.mk (some 6) (.mv (.const (.bool false))) none []]
def l3r31 : List AOper :=
  [AOper.mk (some 106) (.mv (.tmp 15)) none [], AOper.mk (some 107) (.mv (.tmp 14)) none [], AOper.mk (some 108) (.bin .neq (.tmp 106) (.tmp 107)) none [0, 1]]
def l3r32 : List AOper :=
  [AOper.mk (some 6) (.mv (.const (.bool false))) none []]
def l3r33 : List AOper :=
  [AOper.mk (some 6) (.mv (.const (.bool true))) none []]
def l3 : AFn :=
  (AFn.mk 109 3 (ACode.seq (ACode.reg l3r0) (ACode.seq (ACode.reg l3r1) (ACode.seq (ACode.reg l3r2) (ACode.seq (ACode.seq (ACode.reg l3r3) (ACode.cond (.tmp 22) (ACode.seq (ACode.reg l3r4) ACode.ret) ACode.skip)) (ACode.seq (ACode.draw l3r5) (ACode.seq (ACode.reg l3r6) (ACode.seq (ACode.draw l3r7) (ACode.seq (ACode.seq (ACode.reg l3r8) (ACode.cond (.tmp 50) (ACode.seq (ACode.reg l3r9) ACode.ret) ACode.skip)) (ACode.seq (ACode.seq (ACode.draw l3r10) (ACode.cond (.tmp 55) (ACode.seq (ACode.reg l3r11) ACode.ret) ACode.skip)) (ACode.seq (ACode.reg l3r12) (ACode.seq (ACode.reg l3r13) (ACode.seq (ACode.seq (ACode.reg l3r14) (ACode.cond (.tmp 71) (ACode.seq (ACode.reg l3r15) ACode.ret) ACode.skip)) (ACode.seq (ACode.reg l3r16) (ACode.seq (ACode.reg l3r17) (ACode.seq (ACode.reg l3r18) (ACode.seq (ACode.reg l3r19) (ACode.seq (ACode.seq (ACode.reg l3r20) (ACode.cond (.tmp 79) (ACode.seq (ACode.reg l3r21) ACode.ret) ACode.skip)) (ACode.seq (ACode.seq (ACode.reg l3r22) (ACode.cond (.tmp 82) (ACode.seq (ACode.reg l3r23) ACode.ret) ACode.skip)) (ACode.seq (ACode.draw l3r24) (ACode.seq (ACode.seq (ACode.reg l3r25) (ACode.cond (.tmp 100) (ACode.seq (ACode.reg l3r26) ACode.ret) ACode.skip)) (ACode.seq (ACode.reg l3r27) (ACode.seq (ACode.reg l3r28) (ACode.seq (ACode.seq (ACode.reg l3r29) (ACode.cond (.tmp 105) (ACode.seq (ACode.reg l3r30) ACode.ret) ACode.skip)) (ACode.seq (ACode.seq (ACode.reg l3r31) (ACode.cond (.tmp 108) (ACode.seq (ACode.reg l3r32) ACode.ret) ACode.skip)) (ACode.seq (ACode.reg l3r33) ACode.ret))))))))))))))))))))))))) [ARes.tmp 6])
theorem l3_eq : lowFn Try.prog 3 = some l3 := by kernel_rfl
def l10r0 : List AOper :=
  [AOper.mk (some 2) (.box (.tmp 0)) none [], AOper.mk (some 4) (.mv (.const (.int .i64 0))) none []]
def l10r1 : List AOper :=
  [AOper.mk (some 5) (.fld 1 (.tmp 2)) none [], AOper.mk (some 6) (.load false 1 (.tmp 5)) none [0], AOper.mk (some 7) (.mv (.tmp 1)) none [], AOper.mk (some 8) (.call 33 [.tmp 6, .tmp 7]) none [1, 2], AOper.mk (some 1) (.mv (.tmp 8)) none [3, 3, 0, 1, 2, 3]]
def l10r2 : List AOper :=
  [AOper.mk (some 9) (.mv (.tmp 1)) none [], AOper.mk (some 10) (.bin .lss (.tmp 9) (.const (.int .i64 0))) none [0]]
def l10r3 : List AOper :=
  [AOper.mk (some 4) (.mv (.const (.int .i64 (-1)))) none []]
def l10r4 : List AOper :=
  [AOper.mk (some 11) (.fld 2 (.tmp 2)) none [], AOper.mk (some 12) (.load false 1 (.tmp 11)) none [0], AOper.mk (some 13) (.mv (.tmp 1)) none [], AOper.mk (some 14) (.call 33 [.tmp 12, .tmp 13]) none [1, 2], AOper.mk (some 1) (.mv (.tmp 14)) none [3, 3, 0, 1, 2, 3]]
def l10r5 : List AOper :=
  [AOper.mk (some 15) (.mv (.tmp 1)) none [], AOper.mk (some 16) (.bin .lss (.tmp 15) (.const (.int .i64 0))) none [0]]
def l10r6 : List AOper :=
  [AOper.mk (some 4) (.mv (.const (.int .i64 (-1)))) none []]
def l10r7 : List AOper :=
  [AOper.mk (some 17) (.mv (.tmp 1)) none [], AOper.mk (some 4) (.mv (.tmp 17)) none [0, 0]]
def l10 : AFn :=
  (AFn.mk 18 2 (ACode.seq (ACode.reg l10r0) (ACode.seq (ACode.reg l10r1) (ACode.seq (ACode.seq (ACode.reg l10r2) (ACode.cond (.tmp 10) (ACode.seq (ACode.reg l10r3) ACode.ret) ACode.skip)) (ACode.seq (ACode.reg l10r4) (ACode.seq (ACode.seq (ACode.reg l10r5) (ACode.cond (.tmp 16) (ACode.seq (ACode.reg l10r6) ACode.ret) ACode.skip)) (ACode.seq (ACode.reg l10r7) ACode.ret)))))) [ARes.tmp 4])
theorem l10_eq : lowFn Try.prog 10 = some l10 := by kernel_rfl
def l11r0 : List AOper :=
  [AOper.mk (some 3) (.box (.tmp 0)) none [], AOper.mk (some 5) (.box (.tmp 2)) none [], AOper.mk (some 6) (.alloc [.int .i64 0, .slice none 0 0, .slice none 0 0]) none [], AOper.mk (some 7) (.mv (.const (.bool false))) none []]
def l11r1 : List AOper :=
  [AOper.mk (some 8) (.load true 3 (.tmp 3)) none [], AOper.mk (some 9) (.call 34 [.tmp 8]) none [0], AOper.mk (some 10) (.un .not (.tmp 9)) none [1], AOper.mk (some 11) (.mv (.tmp 10)) none [2, 1], AOper.mk (some 12) (.load true 3 (.tmp 3)) (some (11, false)) [3], AOper.mk (some 13) (.mv (.tmp 1)) (some (11, false)) [3], AOper.mk (some 14) (.call 35 [.tmp 12, .tmp 13]) (some (11, false)) [4, 5, 3, 3], AOper.mk (some 15) (.un .not (.tmp 14)) (some (11, false)) [6, 3], AOper.mk (some 16) (.pick (.tmp 11) (.const (.bool true)) (.tmp 15)) none [3, 7], AOper.mk (some 17) (.mv (.tmp 16)) none [8, 6], AOper.mk (some 18) (.load true 5 (.tmp 5)) (some (17, false)) [9], AOper.mk (some 19) (.call 36 [.tmp 18]) (some (17, false)) [10, 9, 9], AOper.mk (some 20) (.un .not (.tmp 19)) (some (17, false)) [11, 9], AOper.mk (some 21) (.pick (.tmp 17) (.const (.bool true)) (.tmp 20)) none [9, 12]]
def l11r2 : List AOper :=
  [AOper.mk (some 22) (.build [.int .i64 0, .slice none 0 0, .slice none 0 0] []) none [], AOper.mk none (.store 3 (.tmp 6) (.tmp 22)) none [0, 0], AOper.mk (some 7) (.mv (.const (.bool false))) none [1, 0, 1]]
def l11r3 : List AOper :=
  [AOper.mk (some 23) (.load true 3 (.tmp 3)) none [], AOper.mk (some 24) (.mv (.tmp 1)) none [], AOper.mk (some 25) (.load true 5 (.tmp 5)) none [], AOper.mk (some 26) (.call 38 [.tmp 23, .tmp 24, .tmp 25]) none [0, 1, 2], AOper.mk (some 27) (.call 37 [.tmp 26]) none [3, 3], AOper.mk (some 28) (.extract (.tmp 27) 0) none [4], AOper.mk (some 29) (.extract (.tmp 27) 1) none [4], AOper.mk none (.store 3 (.tmp 6) (.tmp 28)) none [5, 4, 0, 1, 2, 3, 4, 5, 6], AOper.mk (some 7) (.mv (.tmp 29)) none [6, 7, 0, 1, 2, 3, 4, 5, 6, 7]]
def l11 : AFn :=
  (AFn.mk 30 3 (ACode.seq (ACode.reg l11r0) (ACode.seq (ACode.seq (ACode.reg l11r1) (ACode.cond (.tmp 21) (ACode.seq (ACode.reg l11r2) ACode.ret) ACode.skip)) (ACode.seq (ACode.reg l11r3) ACode.ret))) [ARes.cell 6 true 3, ARes.tmp 7])
theorem l11_eq : lowFn Try.prog 11 = some l11 := by kernel_rfl
def l12r0 : List AOper :=
  [AOper.mk (some 1) (.box (.tmp 0)) none [], AOper.mk (some 2) (.alloc [.int .i64 0, .slice none 0 0, .slice none 0 0]) none []]
def l12r1 : List AOper :=
  [AOper.mk (some 3) (.alloc [.int .i64 0, .slice none 0 0, .slice none 0 0]) none []]
def l12r2 : List AOper :=
  [AOper.mk (some 4) (.fld 0 (.tmp 1)) none [], AOper.mk (some 5) (.load false 1 (.tmp 4)) none [0], AOper.mk (some 6) (.fld 0 (.tmp 3)) none [0, 1], AOper.mk none (.store 1 (.tmp 6) (.tmp 5)) none [2, 1, 0, 1]]
def l12r3 : List AOper :=
  [AOper.mk (some 7) (.fld 1 (.tmp 1)) none [], AOper.mk (some 8) (.load false 1 (.tmp 7)) none [0], AOper.mk (some 9) (.call 21 [.tmp 8]) none [1], AOper.mk (some 10) (.fld 1 (.tmp 3)) none [0, 1, 2], AOper.mk none (.store 1 (.tmp 10) (.tmp 9)) none [3, 2, 2, 0, 1, 2]]
def l12r4 : List AOper :=
  [AOper.mk (some 11) (.fld 2 (.tmp 1)) none [], AOper.mk (some 12) (.load false 1 (.tmp 11)) none [0], AOper.mk (some 13) (.call 21 [.tmp 12]) none [1], AOper.mk (some 14) (.fld 2 (.tmp 3)) none [0, 1, 2], AOper.mk none (.store 1 (.tmp 14) (.tmp 13)) none [3, 2, 2, 0, 1, 2]]
def l12r5 : List AOper :=
  [AOper.mk (some 15) (.load true 3 (.tmp 3)) none [], AOper.mk none (.store 3 (.tmp 2) (.tmp 15)) none [0, 0]]
def l12 : AFn :=
  (AFn.mk 16 1 (ACode.seq (ACode.reg l12r0) (ACode.seq (ACode.reg l12r1) (ACode.seq (ACode.reg l12r2) (ACode.seq (ACode.reg l12r3) (ACode.seq (ACode.reg l12r4) (ACode.seq (ACode.reg l12r5) ACode.ret)))))) [ARes.cell 2 true 3])
theorem l12_eq : lowFn Try.prog 12 = some l12 := by kernel_rfl
def l13r0 : List AOper :=
  [AOper.mk (some 1) (.box (.tmp 0)) none [], AOper.mk (some 2) (.alloc [.int .i64 0, .int .i64 0, .int .i64 0, .bool false, .bool false]) none []]
def l13r1 : List AOper :=
  [AOper.mk (some 3) (.alloc [.int .i64 0, .int .i64 0, .int .i64 0, .bool false, .bool false]) none []]
def l13r2 : List AOper :=
  [AOper.mk (some 4) (.fld 0 (.tmp 1)) none [], AOper.mk (some 5) (.load false 1 (.tmp 4)) none [0], AOper.mk (some 6) (.fld 0 (.tmp 3)) none [0, 1], AOper.mk none (.store 1 (.tmp 6) (.tmp 5)) none [2, 1, 0, 1]]
def l13r3 : List AOper :=
  [AOper.mk (some 7) (.fld 1 (.tmp 1)) none [], AOper.mk (some 8) (.load false 1 (.tmp 7)) none [0], AOper.mk (some 9) (.fld 1 (.tmp 3)) none [0, 1], AOper.mk none (.store 1 (.tmp 9) (.tmp 8)) none [2, 1, 0, 1]]
def l13r4 : List AOper :=
  [AOper.mk (some 10) (.fld 2 (.tmp 1)) none [], AOper.mk (some 11) (.load false 1 (.tmp 10)) none [0], AOper.mk (some 12) (.fld 2 (.tmp 3)) none [0, 1], AOper.mk none (.store 1 (.tmp 12) (.tmp 11)) none [2, 1, 0, 1]]
def l13r5 : List AOper :=
  [AOper.mk (some 13) (.fld 3 (.tmp 1)) none [], AOper.mk (some 14) (.load false 1 (.tmp 13)) none [0], AOper.mk (some 15) (.fld 3 (.tmp 3)) none [0, 1], AOper.mk none (.store 1 (.tmp 15) (.tmp 14)) none [2, 1, 0, 1]]
def l13r6 : List AOper :=
  [AOper.mk (some 16) (.fld 4 (.tmp 1)) none [], AOper.mk (some 17) (.load false 1 (.tmp 16)) none [0], AOper.mk (some 18) (.fld 4 (.tmp 3)) none [0, 1], AOper.mk none (.store 1 (.tmp 18) (.tmp 17)) none [2, 1, 0, 1]]
def l13r7 : List AOper :=
  [AOper.mk (some 19) (.load true 5 (.tmp 3)) none [], AOper.mk none (.store 5 (.tmp 2) (.tmp 19)) none [0, 0]]
def l13 : AFn :=
  (AFn.mk 20 1 (ACode.seq (ACode.reg l13r0) (ACode.seq (ACode.reg l13r1) (ACode.seq (ACode.reg l13r2) (ACode.seq (ACode.reg l13r3) (ACode.seq (ACode.reg l13r4) (ACode.seq (ACode.reg l13r5) (ACode.seq (ACode.reg l13r6) (ACode.seq (ACode.reg l13r7) ACode.ret)))))))) [ARes.cell 2 true 5])
theorem l13_eq : lowFn Try.prog 13 = some l13 := by kernel_rfl
def l14r0 : List AOper :=
  [AOper.mk (some 3) (.box (.tmp 0)) none [], AOper.mk (some 5) (.box (.tmp 2)) none [], AOper.mk (some 6) (.alloc [.int .i64 0, .slice none 0 0, .slice none 0 0]) none [], AOper.mk (some 7) (.mv (.const (.bool false))) none []]
def l14r1 : List AOper :=
  [AOper.mk (some 10) (.load true 3 (.tmp 3)) none [], AOper.mk (some 11) (.mv (.tmp 1)) none [], AOper.mk (some 12) (.call 39 [.tmp 10, .tmp 11]) none [0, 1], AOper.mk (some 13) (.un .not (.tmp 12)) none [2], AOper.mk (some 14) (.mv (.tmp 13)) none [3, 2], AOper.mk (some 15) (.load true 5 (.tmp 5)) (some (14, false)) [4], AOper.mk (some 16) (.call 40 [.tmp 15]) (some (14, false)) [5, 4, 4], AOper.mk (some 17) (.un .not (.tmp 16)) (some (14, false)) [6, 4], AOper.mk (some 18) (.pick (.tmp 14) (.const (.bool true)) (.tmp 17)) none [4, 7]]
def l14r2 : List AOper :=
  [AOper.mk (some 19) (.build [.int .i64 0, .slice none 0 0, .slice none 0 0] []) none [], AOper.mk none (.store 3 (.tmp 6) (.tmp 19)) none [0, 0], AOper.mk (some 7) (.mv (.const (.bool false))) none [1, 0, 1]]
def l14r3a : List AOper :=
  [AOper.mk (some 20) (.load true 5 (.tmp 5)) none [], AOper.mk (some 21) (.fld 1 (.tmp 3)) none [], AOper.mk (some 22) (.load false 1 (.tmp 21)) none [1], AOper.mk (some 23) (.mv (.tmp 1)) none [], AOper.mk (some 24) (.idxA 1 (.tmp 22) (.tmp 23)) none [2, 3], AOper.mk (some 25) (.load false 1 (.tmp 24)) none [4], AOper.mk (some 26) (.call 41 [.tmp 20, .tmp 25]) none [0, 5], AOper.mk (some 8) (.alloc [.int .i64 0, .int .i64 0, .int .i64 0]) none []]
def l14r3b : List AOper :=
  [AOper.mk none (.store 3 (.tmp 8) (.tmp 26)) none [7, 6, 6, 0, 1, 2, 3, 4, 5, 6, 7]]
def l14r3 : List AOper := l14r3a ++ l14r3b
def l14r4 : List AOper :=
  [AOper.mk (some 27) (.load true 3 (.tmp 3)) none [], AOper.mk (some 28) (.call 42 [.tmp 27]) none [0], AOper.mk (some 9) (.alloc [.int .i64 0, .slice none 0 0, .slice none 0 0, .int .i64 0, .int .i64 0, .int .i64 0, .int .i64 0, .slice none 0 0]) none [], AOper.mk none (.store 8 (.tmp 9) (.tmp 28)) none [2, 1, 1, 0, 1, 2]]
def l14r5 : List AOper :=
  [AOper.mk (some 29) (.mv (.tmp 1)) none [], AOper.mk (some 30) (.fld 0 (.tmp 8)) none [], AOper.mk (some 31) (.load false 1 (.tmp 30)) none [1], AOper.mk (some 32) (.fld 3 (.tmp 9)) none [], AOper.mk (some 33) (.idxP 1 4 (.tmp 32) (.tmp 29)) none [3, 0, 0, 1, 2], AOper.mk none (.store 1 (.tmp 33) (.tmp 31)) none [4, 2, 0, 1, 2]]
def l14r6a : List AOper :=
  [AOper.mk (some 34) (.fld 7 (.tmp 9)) none [], AOper.mk (some 35) (.load false 1 (.tmp 34)) none [0], AOper.mk (some 36) (.mv (.tmp 1)) none [], AOper.mk (some 37) (.load true 3 (.tmp 8)) none [], AOper.mk (some 38) (.call 44 [.tmp 37]) none [3], AOper.mk (some 39) (.fld 2 (.tmp 3)) none [], AOper.mk (some 40) (.load false 1 (.tmp 39)) none [5], AOper.mk (some 41) (.mv (.tmp 1)) none [], AOper.mk (some 42) (.idxA 1 (.tmp 40) (.tmp 41)) none [6, 7], AOper.mk (some 43) (.load false 1 (.tmp 42)) none [8], AOper.mk (some 44) (.fld 2 (.tmp 8)) none [], AOper.mk (some 45) (.load false 1 (.tmp 44)) none [10], AOper.mk (some 46) (.bin .mul (.tmp 43) (.tmp 45)) none [9, 11], AOper.mk (some 47) (.call 43 [.tmp 38, .tmp 46]) none [4, 12, 4]]
def l14r6b : List AOper :=
  [AOper.mk (some 48) (.idxA 2 (.tmp 35) (.tmp 36)) none [1, 2, 0, 1, 2, 3, 4, 5, 6, 7, 8, 9, 10, 11, 12, 13], AOper.mk none (.store 2 (.tmp 48) (.tmp 47)) none [14, 13, 13, 0, 1, 2, 3, 4, 5, 6, 7, 8, 9, 10, 11, 12, 13]]
def l14r6 : List AOper := l14r6a ++ l14r6b
def l14r7 : List AOper :=
  [AOper.mk (some 49) (.load true 8 (.tmp 9)) none [], AOper.mk (some 50) (.call 45 [.tmp 49]) none [0], AOper.mk none (.store 3 (.tmp 6) (.tmp 50)) none [1, 1, 0, 1], AOper.mk (some 7) (.mv (.const (.bool true))) none [2, 0, 1, 2]]
def l14 : AFn :=
  (AFn.mk 51 3 (ACode.seq (ACode.reg l14r0) (ACode.seq (ACode.seq (ACode.reg l14r1) (ACode.cond (.tmp 18) (ACode.seq (ACode.reg l14r2) ACode.ret) ACode.skip)) (ACode.seq (ACode.draw l14r3) (ACode.seq (ACode.reg l14r4) (ACode.seq (ACode.reg l14r5) (ACode.seq (ACode.draw l14r6) (ACode.seq (ACode.reg l14r7) ACode.ret))))))) [ARes.cell 6 true 3, ARes.tmp 7])
theorem l14_eq : lowFn Try.prog 14 = some l14 := by kernel_rfl
def l15r0 : List AOper :=
  [AOper.mk (some 2) (.box (.tmp 0)) none [], AOper.mk (some 3) (.box (.tmp 1)) none [], AOper.mk (some 4) (.mv (.const (.bool false))) none []]
def l15r1 : List AOper :=
  [AOper.mk (some 5) (.fld 0 (.tmp 2)) none [], AOper.mk (some 6) (.load false 1 (.tmp 5)) none [0], AOper.mk (some 7) (.fld 0 (.tmp 3)) none [], AOper.mk (some 8) (.load false 1 (.tmp 7)) none [2], AOper.mk (some 9) (.bin .neq (.tmp 6) (.tmp 8)) none [1, 3]]
def l15r2 : List AOper :=
  [AOper.mk (some 4) (.mv (.const (.bool false))) none []]
def l15r3 : List AOper :=
  [AOper.mk (some 10) (.fld 1 (.tmp 2)) none [], AOper.mk (some 11) (.load false 1 (.tmp 10)) none [0], AOper.mk (some 12) (.fld 1 (.tmp 3)) none [], AOper.mk (some 13) (.load false 1 (.tmp 12)) none [2], AOper.mk (some 14) (.call 23 [.tmp 11, .tmp 13]) none [1, 3], AOper.mk (some 15) (.un .not (.tmp 14)) none [4]]
def l15r4 : List AOper :=
  [AOper.mk (some 4) (.mv (.const (.bool false))) none []]
def l15r5 : List AOper :=
  [AOper.mk (some 16) (.fld 2 (.tmp 2)) none [], AOper.mk (some 17) (.load false 1 (.tmp 16)) none [0], AOper.mk (some 18) (.fld 2 (.tmp 3)) none [], AOper.mk (some 19) (.load false 1 (.tmp 18)) none [2], AOper.mk (some 20) (.call 23 [.tmp 17, .tmp 19]) none [1, 3], AOper.mk (some 21) (.un .not (.tmp 20)) none [4]]
def l15r6 : List AOper :=
  [AOper.mk (some 4) (.mv (.const (.bool false))) none []]
def l15r7 : List AOper :=
  [AOper.mk (some 4) (.mv (.const (.bool true))) none []]
def l15 : AFn :=
  (AFn.mk 22 2 (ACode.seq (ACode.reg l15r0) (ACode.seq (ACode.seq (ACode.reg l15r1) (ACode.cond (.tmp 9) (ACode.seq (ACode.reg l15r2) ACode.ret) ACode.skip)) (ACode.seq (ACode.seq (ACode.reg l15r3) (ACode.cond (.tmp 15) (ACode.seq (ACode.reg l15r4) ACode.ret) ACode.skip)) (ACode.seq (ACode.seq (ACode.reg l15r5) (ACode.cond (.tmp 21) (ACode.seq (ACode.reg l15r6) ACode.ret) ACode.skip)) (ACode.seq (ACode.reg l15r7) ACode.ret))))) [ARes.tmp 4])
theorem l15_eq : lowFn Try.prog 15 = some l15 := by kernel_rfl
def l16r0 : List AOper :=
  [AOper.mk (some 2) (.box (.tmp 0)) none [], AOper.mk (some 4) (.mv (.const (.int .i64 0))) none []]
def l16r1 : List AOper :=
  [AOper.mk (some 5) (.fld 1 (.tmp 2)) none [], AOper.mk (some 6) (.load false 1 (.tmp 5)) none [0], AOper.mk (some 7) (.mv (.tmp 1)) none [], AOper.mk (some 8) (.call 24 [.tmp 6, .tmp 7]) none [1, 2], AOper.mk (some 1) (.mv (.tmp 8)) none [3, 3, 0, 1, 2, 3]]
def l16r2 : List AOper :=
  [AOper.mk (some 9) (.fld 2 (.tmp 2)) none [], AOper.mk (some 10) (.load false 1 (.tmp 9)) none [0], AOper.mk (some 11) (.mv (.tmp 1)) none [], AOper.mk (some 12) (.call 24 [.tmp 10, .tmp 11]) none [1, 2], AOper.mk (some 1) (.mv (.tmp 12)) none [3, 3, 0, 1, 2, 3]]
def l16r3 : List AOper :=
  [AOper.mk (some 13) (.mv (.tmp 1)) none [], AOper.mk (some 4) (.mv (.tmp 13)) none [0, 0]]
def l16 : AFn :=
  (AFn.mk 14 2 (ACode.seq (ACode.reg l16r0) (ACode.seq (ACode.reg l16r1) (ACode.seq (ACode.reg l16r2) (ACode.seq (ACode.reg l16r3) ACode.ret)))) [ARes.tmp 4])
theorem l16_eq : lowFn Try.prog 16 = some l16 := by kernel_rfl
def l17r0 : List AOper :=
  [AOper.mk (some 2) (.box (.tmp 0)) none [], AOper.mk (some 4) (.mv (.const (.int .i64 0))) none []]
def l17r1 : List AOper :=
  [AOper.mk (some 5) (.fld 1 (.tmp 2)) none [], AOper.mk (some 6) (.load false 1 (.tmp 5)) none [0], AOper.mk (some 7) (.mv (.tmp 1)) none [], AOper.mk (some 8) (.call 46 [.tmp 6, .tmp 7]) none [1, 2], AOper.mk (some 1) (.mv (.tmp 8)) none [3, 3, 0, 1, 2, 3]]
def l17r2 : List AOper :=
  [AOper.mk (some 9) (.mv (.tmp 1)) none [], AOper.mk (some 10) (.bin .lss (.tmp 9) (.const (.int .i64 0))) none [0]]
def l17r3 : List AOper :=
  [AOper.mk (some 4) (.mv (.const (.int .i64 (-1)))) none []]
def l17r4 : List AOper :=
  [AOper.mk (some 11) (.fld 2 (.tmp 2)) none [], AOper.mk (some 12) (.load false 1 (.tmp 11)) none [0], AOper.mk (some 13) (.mv (.tmp 1)) none [], AOper.mk (some 14) (.call 46 [.tmp 12, .tmp 13]) none [1, 2], AOper.mk (some 1) (.mv (.tmp 14)) none [3, 3, 0, 1, 2, 3]]
def l17r5 : List AOper :=
  [AOper.mk (some 15) (.mv (.tmp 1)) none [], AOper.mk (some 16) (.bin .lss (.tmp 15) (.const (.int .i64 0))) none [0]]
def l17r6 : List AOper :=
  [AOper.mk (some 4) (.mv (.const (.int .i64 (-1)))) none []]
def l17r7 : List AOper :=
  [AOper.mk (some 17) (.mv (.tmp 1)) none [], AOper.mk (some 4) (.mv (.tmp 17)) none [0, 0]]
def l17 : AFn :=
  (AFn.mk 18 2 (ACode.seq (ACode.reg l17r0) (ACode.seq (ACode.reg l17r1) (ACode.seq (ACode.seq (ACode.reg l17r2) (ACode.cond (.tmp 10) (ACode.seq (ACode.reg l17r3) ACode.ret) ACode.skip)) (ACode.seq (ACode.reg l17r4) (ACode.seq (ACode.seq (ACode.reg l17r5) (ACode.cond (.tmp 16) (ACode.seq (ACode.reg l17r6) ACode.ret) ACode.skip)) (ACode.seq (ACode.reg l17r7) ACode.ret)))))) [ARes.tmp 4])
theorem l17_eq : lowFn Try.prog 17 = some l17 := by kernel_rfl
def l21r0 : List AOper :=
  [AOper.mk (some 2) (.mv (.const (.slice none 0 0))) none []]
def l21r1 : List AOper :=
  [AOper.mk (some 5) (.mv (.tmp 0)) none [], AOper.mk (some 6) (.len (.tmp 5)) none [0], AOper.mk (some 7) (.mkslice 1 [.int .i64 0] (.tmp 6) (.tmp 6)) none [1, 1], AOper.mk (some 3) (.mv (.tmp 7)) none [2, 0, 1, 2]]
def l21r2 : List AOper :=
  [AOper.mk (some 4) (.mv (.const (.int .i64 0))) none []]
def l21r3 : List AOper :=
  [AOper.mk (some 8) (.mv (.tmp 4)) none [], AOper.mk (some 9) (.mv (.tmp 0)) none [], AOper.mk (some 10) (.len (.tmp 9)) none [1], AOper.mk (some 11) (.bin .lss (.tmp 8) (.tmp 10)) none [0, 2]]
def l21r4 : List AOper :=
  [AOper.mk (some 14) (.mv (.tmp 3)) none [], AOper.mk (some 15) (.mv (.tmp 4)) none [], AOper.mk (some 16) (.mv (.tmp 0)) none [], AOper.mk (some 17) (.mv (.tmp 4)) none [], AOper.mk (some 18) (.idxA 1 (.tmp 16) (.tmp 17)) none [2, 3], AOper.mk (some 19) (.load false 1 (.tmp 18)) none [4], AOper.mk (some 20) (.idxA 1 (.tmp 14) (.tmp 15)) none [0, 1, 0, 1, 2, 3, 4, 5], AOper.mk none (.store 1 (.tmp 20) (.tmp 19)) none [6, 5, 0, 1, 2, 3, 4, 5]]
def l21r5 : List AOper :=
  [AOper.mk (some 12) (.mv (.tmp 4)) none [], AOper.mk (some 13) (.bin .add (.tmp 12) (.const (.int .i64 1))) none [0], AOper.mk (some 4) (.mv (.tmp 13)) none [1, 0, 1]]
def l21r6 : List AOper :=
  [AOper.mk (some 21) (.mv (.tmp 3)) none [], AOper.mk (some 2) (.mv (.tmp 21)) none [0, 0]]
def l21 : AFn :=
  (AFn.mk 22 1 (ACode.seq (ACode.reg l21r0) (ACode.seq (ACode.reg l21r1) (ACode.seq (ACode.seq (ACode.reg l21r2) (ACode.block 0 (ACode.loop (ACode.seq (ACode.seq (ACode.reg l21r3) (ACode.cond (.tmp 11) ACode.skip (ACode.exit 0))) (ACode.seq (ACode.block 1 (ACode.reg l21r4)) (ACode.reg l21r5)))))) (ACode.seq (ACode.reg l21r6) ACode.ret)))) [ARes.tmp 2])
theorem l21_eq : lowFn Try.prog 21 = some l21 := by kernel_rfl
def l23r0 : List AOper :=
  [AOper.mk (some 4) (.mv (.const (.bool false))) none []]
def l23r1 : List AOper :=
  [AOper.mk (some 6) (.mv (.tmp 0)) none [], AOper.mk (some 7) (.len (.tmp 6)) none [0], AOper.mk (some 8) (.mv (.tmp 1)) none [], AOper.mk (some 9) (.len (.tmp 8)) none [2], AOper.mk (some 10) (.bin .neq (.tmp 7) (.tmp 9)) none [1, 3]]
def l23r2 : List AOper :=
  [AOper.mk (some 4) (.mv (.const (.bool false))) none []]
def l23r3 : List AOper :=
  [AOper.mk (some 5) (.mv (.const (.int .i64 0))) none []]
def l23r4 : List AOper :=
  [AOper.mk (some 11) (.mv (.tmp 5)) none [], AOper.mk (some 12) (.mv (.tmp 0)) none [], AOper.mk (some 13) (.len (.tmp 12)) none [1], AOper.mk (some 14) (.bin .lss (.tmp 11) (.tmp 13)) none [0, 2]]
def l23r5a : List AOper :=
  [AOper.mk (some 17) (.mv (.tmp 0)) none [], AOper.mk (some 18) (.mv (.tmp 5)) none [], AOper.mk (some 19) (.idxA 1 (.tmp 17) (.tmp 18)) none [0, 1], AOper.mk (some 20) (.load false 1 (.tmp 19)) none [2], AOper.mk (some 21) (.mv (.tmp 1)) none [], AOper.mk (some 22) (.mv (.tmp 5)) none [], AOper.mk (some 23) (.idxA 1 (.tmp 21) (.tmp 22)) none [4, 5], AOper.mk (some 24) (.load false 1 (.tmp 23)) none [6]]
def l23r5b : List AOper :=
  [AOper.mk (some 25) (.bin .neq (.tmp 20) (.tmp 24)) none [3, 7]]
def l23r5 : List AOper := l23r5a ++ l23r5b
def l23r6 : List AOper :=
  [AOper.mk (some 4) (.mv (.const (.bool false))) none []]
def l23r7 : List AOper :=
  [AOper.mk (some 15) (.mv (.tmp 5)) none [], AOper.mk (some 16) (.bin .add (.tmp 15) (.const (.int .i64 1))) none [0], AOper.mk (some 5) (.mv (.tmp 16)) none [1, 0, 1]]
def l23r8 : List AOper :=
  [AOper.mk (some 4) (.mv (.const (.bool true))) none []]
def l23 : AFn :=
  (AFn.mk 26 2 (ACode.seq (ACode.reg l23r0) (ACode.seq (ACode.seq (ACode.reg l23r1) (ACode.cond (.tmp 10) (ACode.seq (ACode.reg l23r2) ACode.ret) ACode.skip)) (ACode.seq (ACode.seq (ACode.reg l23r3) (ACode.block 0 (ACode.loop (ACode.seq (ACode.seq (ACode.reg l23r4) (ACode.cond (.tmp 14) ACode.skip (ACode.exit 0))) (ACode.seq (ACode.block 1 (ACode.seq (ACode.draw l23r5) (ACode.cond (.tmp 25) (ACode.seq (ACode.reg l23r6) ACode.ret) ACode.skip))) (ACode.reg l23r7)))))) (ACode.seq (ACode.reg l23r8) ACode.ret)))) [ARes.tmp 4])
theorem l23_eq : lowFn Try.prog 23 = some l23 := by kernel_rfl
def l24r0 : List AOper :=
  [AOper.mk (some 4) (.mv (.const (.int .i64 0))) none []]
def l24r1 : List AOper :=
  [AOper.mk (some 5) (.mv (.const (.int .i64 0))) none []]
def l24r2 : List AOper :=
  [AOper.mk (some 6) (.mv (.tmp 5)) none [], AOper.mk (some 7) (.mv (.tmp 0)) none [], AOper.mk (some 8) (.len (.tmp 7)) none [1], AOper.mk (some 9) (.bin .lss (.tmp 6) (.tmp 8)) none [0, 2]]
def l24r3 : List AOper :=
  [AOper.mk (some 12) (.mv (.tmp 0)) none [], AOper.mk (some 13) (.mv (.tmp 5)) none [], AOper.mk (some 14) (.mv (.tmp 1)) none [], AOper.mk (some 15) (.idxA 1 (.tmp 12) (.tmp 13)) none [0, 1, 0, 1, 2], AOper.mk none (.store 1 (.tmp 15) (.tmp 14)) none [3, 2, 0, 1, 2]]
def l24r4 : List AOper :=
  [AOper.mk (some 16) (.mv (.tmp 1)) none [], AOper.mk (some 17) (.bin .add (.tmp 16) (.const (.int .i64 1))) none [0], AOper.mk (some 1) (.mv (.tmp 17)) none [1, 0, 1]]
def l24r5 : List AOper :=
  [AOper.mk (some 10) (.mv (.tmp 5)) none [], AOper.mk (some 11) (.bin .add (.tmp 10) (.const (.int .i64 1))) none [0], AOper.mk (some 5) (.mv (.tmp 11)) none [1, 0, 1]]
def l24r6 : List AOper :=
  [AOper.mk (some 18) (.mv (.tmp 1)) none [], AOper.mk (some 4) (.mv (.tmp 18)) none [0, 0]]
def l24 : AFn :=
  (AFn.mk 19 2 (ACode.seq (ACode.reg l24r0) (ACode.seq (ACode.seq (ACode.reg l24r1) (ACode.block 0 (ACode.loop (ACode.seq (ACode.seq (ACode.reg l24r2) (ACode.cond (.tmp 9) ACode.skip (ACode.exit 0))) (ACode.seq (ACode.block 1 (ACode.seq (ACode.reg l24r3) (ACode.reg l24r4))) (ACode.reg l24r5)))))) (ACode.seq (ACode.reg l24r6) ACode.ret))) [ARes.tmp 4])
theorem l24_eq : lowFn Try.prog 24 = some l24 := by kernel_rfl
def l33r0 : List AOper :=
  [AOper.mk (some 4) (.mv (.const (.int .i64 0))) none []]
def l33r1 : List AOper :=
  [AOper.mk (some 5) (.mv (.tmp 1)) none [], AOper.mk (some 6) (.mv (.tmp 0)) none [], AOper.mk (some 7) (.len (.tmp 6)) none [1], AOper.mk (some 8) (.bin .sub (.tmp 5) (.tmp 7)) none [0, 2], AOper.mk (some 1) (.mv (.tmp 8)) none [3, 0, 1, 2, 3]]
def l33r2 : List AOper :=
  [AOper.mk (some 9) (.mv (.tmp 1)) none [], AOper.mk (some 10) (.bin .lss (.tmp 9) (.const (.int .i64 0))) none [0]]
def l33r3 : List AOper :=
  [AOper.mk (some 4) (.mv (.const (.int .i64 (-1)))) none []]
def l33r4 : List AOper :=
  [AOper.mk (some 11) (.mv (.tmp 1)) none [], AOper.mk (some 4) (.mv (.tmp 11)) none [0, 0]]
def l33 : AFn :=
  (AFn.mk 12 2 (ACode.seq (ACode.reg l33r0) (ACode.seq (ACode.reg l33r1) (ACode.seq (ACode.seq (ACode.reg l33r2) (ACode.cond (.tmp 10) (ACode.seq (ACode.reg l33r3) ACode.ret) ACode.skip)) (ACode.seq (ACode.reg l33r4) ACode.ret)))) [ARes.tmp 4])
theorem l33_eq : lowFn Try.prog 33 = some l33 := by kernel_rfl
def l34r0 : List AOper :=
  [AOper.mk (some 1) (.box (.tmp 0)) none [], AOper.mk (some 2) (.mv (.const (.bool false))) none []]
def l34r1 : List AOper :=
  [AOper.mk (some 3) (.fld 1 (.tmp 1)) none [], AOper.mk (some 4) (.load false 1 (.tmp 3)) none [0], AOper.mk (some 5) (.call 54 [.tmp 4]) none [1], AOper.mk (some 6) (.mv (.tmp 5)) none [2, 2], AOper.mk (some 7) (.fld 2 (.tmp 1)) (some (6, true)) [3], AOper.mk (some 8) (.load false 1 (.tmp 7)) (some (6, true)) [4, 3], AOper.mk (some 9) (.len (.tmp 8)) (some (6, true)) [5, 3], AOper.mk (some 10) (.fld 1 (.tmp 1)) (some (6, true)) [3], AOper.mk (some 11) (.load false 1 (.tmp 10)) (some (6, true)) [7, 3], AOper.mk (some 12) (.len (.tmp 11)) (some (6, true)) [8, 3], AOper.mk (some 13) (.bin .eql (.tmp 9) (.tmp 12)) (some (6, true)) [6, 9, 3], AOper.mk (some 14) (.pick (.tmp 6) (.tmp 13) (.const (.bool false))) none [3, 10], AOper.mk (some 15) (.mv (.tmp 14)) none [11, 3], AOper.mk (some 16) (.fld 2 (.tmp 1)) (some (15, true)) [12], AOper.mk (some 17) (.load false 1 (.tmp 16)) (some (15, true)) [13, 12], AOper.mk (some 18) (.call 69 [.tmp 17, .const (.int .i64 (-60)), .const (.int .i64 60)]) (some (15, true)) [14, 12, 12], AOper.mk (some 19) (.pick (.tmp 15) (.tmp 18) (.const (.bool false))) none [12, 15], AOper.mk (some 20) (.mv (.tmp 19)) none [16, 15], AOper.mk (some 21) (.fld 0 (.tmp 1)) (some (20, true)) [17], AOper.mk (some 22) (.load false 1 (.tmp 21)) (some (20, true)) [18, 17], AOper.mk (some 23) (.call 52 [.tmp 22, .const (.int .i64 0), .const (.int .i64 60)]) (some (20, true)) [19, 17, 17], AOper.mk (some 24) (.pick (.tmp 20) (.tmp 23) (.const (.bool false))) none [17, 20], AOper.mk (some 25) (.mv (.tmp 24)) none [21, 20], AOper.mk (some 26) (.fld 1 (.tmp 1)) (some (25, true)) [22], AOper.mk (some 27) (.load false 1 (.tmp 26)) (some (25, true)) [23, 22], AOper.mk (some 28) (.call 70 [.tmp 27]) (some (25, true)) [24, 22, 22], AOper.mk (some 29) (.bin .eql (.tmp 28) (.const (.int .i64 0))) (some (25, true)) [25, 22], AOper.mk (some 30) (.mv (.tmp 29)) (some (25, true)) [26, 25, 22], AOper.mk (some 31) (.load true 3 (.tmp 1)) (some (30, false)) [27], AOper.mk (some 32) (.call 71 [.tmp 31]) (some (30, false)) [28, 27, 27], AOper.mk (some 33) (.call 69 [.tmp 32, .const (.int .i64 0), .const (.int .i64 59)]) (some (30, false)) [29, 29, 27], AOper.mk (some 34) (.pick (.tmp 30) (.const (.bool true)) (.tmp 33)) (some (25, true)) [27, 30, 22], AOper.mk (some 35) (.pick (.tmp 25) (.tmp 34) (.const (.bool false))) none [22, 31], AOper.mk (some 2) (.mv (.tmp 35)) none [32, 30, 0, 1, 2, 3, 4, 5, 6, 7, 8, 9, 10, 11, 12, 13, 14, 15, 16, 17, 18, 19, 20, 21, 22, 23, 24, 25, 26, 27, 28, 29, 30, 31, 32]]
def l34 : AFn :=
  (AFn.mk 36 1 (ACode.seq (ACode.reg l34r0) (ACode.seq (ACode.reg l34r1) ACode.ret)) [ARes.tmp 2])
theorem l34_eq : lowFn Try.prog 34 = some l34 := by kernel_rfl
def l35r0 : List AOper :=
  [AOper.mk (some 2) (.box (.tmp 0)) none [], AOper.mk (some 4) (.mv (.const (.bool false))) none []]
def l35r1 : List AOper :=
  [AOper.mk (some 5) (.mv (.tmp 1)) none [], AOper.mk (some 6) (.fld 1 (.tmp 2)) none [], AOper.mk (some 7) (.load false 1 (.tmp 6)) none [1], AOper.mk (some 8) (.len (.tmp 7)) none [2], AOper.mk (some 9) (.bin .sub (.tmp 8) (.const (.int .i64 1))) none [3], AOper.mk (some 10) (.call 52 [.tmp 5, .const (.int .i64 0), .tmp 9]) none [0, 4], AOper.mk (some 4) (.mv (.tmp 10)) none [5, 5, 0, 1, 2, 3, 4, 5]]
def l35 : AFn :=
  (AFn.mk 11 2 (ACode.seq (ACode.reg l35r0) (ACode.seq (ACode.reg l35r1) ACode.ret)) [ARes.tmp 4])
theorem l35_eq : lowFn Try.prog 35 = some l35 := by kernel_rfl
def l36r0 : List AOper :=
  [AOper.mk (some 1) (.box (.tmp 0)) none [], AOper.mk (some 2) (.mv (.const (.bool false))) none []]
def l36r1 : List AOper :=
  [AOper.mk (some 3) (.fld 0 (.tmp 1)) none [], AOper.mk (some 4) (.load false 1 (.tmp 3)) none [0], AOper.mk (some 5) (.call 52 [.tmp 4, .const (.int .i64 (-100)), .const (.int .i64 100)]) none [1], AOper.mk (some 6) (.mv (.tmp 5)) none [2, 2], AOper.mk (some 7) (.fld 1 (.tmp 1)) (some (6, true)) [3], AOper.mk (some 8) (.load false 1 (.tmp 7)) (some (6, true)) [4, 3], AOper.mk (some 9) (.call 52 [.tmp 8, .const (.int .i64 (-100)), .const (.int .i64 100)]) (some (6, true)) [5, 3, 3], AOper.mk (some 10) (.pick (.tmp 6) (.tmp 9) (.const (.bool false))) none [3, 6], AOper.mk (some 11) (.mv (.tmp 10)) none [7, 6], AOper.mk (some 12) (.fld 2 (.tmp 1)) (some (11, true)) [8], AOper.mk (some 13) (.load false 1 (.tmp 12)) (some (11, true)) [9, 8], AOper.mk (some 14) (.call 52 [.tmp 13, .const (.int .i64 (-200)), .const (.int .i64 200)]) (some (11, true)) [10, 8, 8], AOper.mk (some 15) (.pick (.tmp 11) (.tmp 14) (.const (.bool false))) none [8, 11], AOper.mk (some 16) (.mv (.tmp 15)) none [12, 11], AOper.mk (some 17) (.fld 2 (.tmp 1)) (some (16, true)) [13], AOper.mk (some 18) (.load false 1 (.tmp 17)) (some (16, true)) [14, 13], AOper.mk (some 19) (.bin .neq (.tmp 18) (.const (.int .i64 0))) (some (16, true)) [15, 13], AOper.mk (some 20) (.pick (.tmp 16) (.tmp 19) (.const (.bool false))) none [13, 16], AOper.mk (some 21) (.mv (.tmp 20)) none [17, 13], AOper.mk (some 22) (.fld 3 (.tmp 1)) (some (21, true)) [18], AOper.mk (some 23) (.load false 1 (.tmp 22)) (some (21, true)) [19, 18], AOper.mk (some 24) (.mv (.tmp 23)) (some (21, true)) [20, 18, 18], AOper.mk (some 25) (.fld 0 (.tmp 1)) (some (24, false)) [21], AOper.mk (some 26) (.load false 1 (.tmp 25)) (some (24, false)) [22, 21], AOper.mk (some 27) (.bin .eql (.tmp 26) (.const (.int .i64 0))) (some (24, false)) [23, 21], AOper.mk (some 28) (.pick (.tmp 24) (.const (.bool true)) (.tmp 27)) (some (21, true)) [21, 24, 18], AOper.mk (some 29) (.pick (.tmp 21) (.tmp 28) (.const (.bool false))) none [18, 25], AOper.mk (some 30) (.mv (.tmp 29)) none [26, 21], AOper.mk (some 31) (.fld 4 (.tmp 1)) (some (30, true)) [27], AOper.mk (some 32) (.load false 1 (.tmp 31)) (some (30, true)) [28, 27], AOper.mk (some 33) (.mv (.tmp 32)) (some (30, true)) [29, 27, 27], AOper.mk (some 34) (.fld 1 (.tmp 1)) (some (33, false)) [30], AOper.mk (some 35) (.load false 1 (.tmp 34)) (some (33, false)) [31, 30], AOper.mk (some 36) (.bin .eql (.tmp 35) (.const (.int .i64 0))) (some (33, false)) [32, 30], AOper.mk (some 37) (.pick (.tmp 33) (.const (.bool true)) (.tmp 36)) (some (30, true)) [30, 33, 27], AOper.mk (some 38) (.pick (.tmp 30) (.tmp 37) (.const (.bool false))) none [27, 34], AOper.mk (some 2) (.mv (.tmp 38)) none [35, 30, 0, 1, 2, 3, 4, 5, 6, 7, 8, 9, 10, 11, 12, 13, 14, 15, 16, 17, 18, 19, 20, 21, 22, 23, 24, 25, 26, 27, 28, 29, 30, 31, 32, 33, 34, 35]]
def l36 : AFn :=
  (AFn.mk 39 1 (ACode.seq (ACode.reg l36r0) (ACode.seq (ACode.reg l36r1) ACode.ret)) [ARes.tmp 2])
theorem l36_eq : lowFn Try.prog 36 = some l36 := by kernel_rfl
def l37r0 : List AOper :=
  [AOper.mk (some 1) (.box (.tmp 0)) none [], AOper.mk (some 2) (.alloc [.int .i64 0, .slice none 0 0, .slice none 0 0]) none [], AOper.mk (some 3) (.mv (.const (.bool false))) none []]
def l37r1 : List AOper :=
  [AOper.mk (some 4) (.load true 3 (.tmp 1)) none [], AOper.mk (some 5) (.call 34 [.tmp 4]) none [0], AOper.mk (some 6) (.un .not (.tmp 5)) none [1]]
def l37r2 : List AOper :=
  [AOper.mk (some 7) (.build [.int .i64 0, .slice none 0 0, .slice none 0 0] []) none [], AOper.mk none (.store 3 (.tmp 2) (.tmp 7)) none [0, 0], AOper.mk (some 3) (.mv (.const (.bool false))) none [1, 0, 1]]
def l37r3 : List AOper :=
  [AOper.mk (some 8) (.load true 3 (.tmp 1)) none [], AOper.mk (some 9) (.call 53 [.tmp 8]) none [0], AOper.mk none (.store 3 (.tmp 2) (.tmp 9)) none [1, 1, 0, 1], AOper.mk (some 3) (.mv (.const (.bool true))) none [2, 0, 1, 2]]
def l37 : AFn :=
  (AFn.mk 10 1 (ACode.seq (ACode.reg l37r0) (ACode.seq (ACode.seq (ACode.reg l37r1) (ACode.cond (.tmp 6) (ACode.seq (ACode.reg l37r2) ACode.ret) ACode.skip)) (ACode.seq (ACode.reg l37r3) ACode.ret))) [ARes.cell 2 true 3, ARes.tmp 3])
theorem l37_eq : lowFn Try.prog 37 = some l37 := by kernel_rfl
def l38r0 : List AOper :=
  [AOper.mk (some 3) (.box (.tmp 0)) none [], AOper.mk (some 5) (.box (.tmp 2)) none [], AOper.mk (some 6) (.alloc [.int .i64 0, .slice none 0 0, .slice none 0 0]) none []]
def l38r1 : List AOper :=
  [AOper.mk (some 10) (.load true 3 (.tmp 3)) none [], AOper.mk (some 11) (.call 53 [.tmp 10]) none [0], AOper.mk (some 7) (.alloc [.int .i64 0, .slice none 0 0, .slice none 0 0]) none [], AOper.mk none (.store 3 (.tmp 7) (.tmp 11)) none [2, 1, 1, 0, 1, 2]]
def l38r2a : List AOper :=
  [AOper.mk (some 12) (.fld 1 (.tmp 3)) none [], AOper.mk (some 13) (.load false 1 (.tmp 12)) none [0], AOper.mk (some 14) (.mv (.tmp 1)) none [], AOper.mk (some 15) (.idxA 1 (.tmp 13) (.tmp 14)) none [1, 2], AOper.mk (some 16) (.load false 1 (.tmp 15)) none [3], AOper.mk (some 17) (.load true 5 (.tmp 5)) none [], AOper.mk (some 18) (.call 73 [.tmp 16, .tmp 17]) none [4, 5], AOper.mk (some 19) (.call 72 [.tmp 18]) none [6, 6], AOper.mk (some 8) (.alloc [.int .i64 0, .int .i64 0, .int .i64 0]) none []]
def l38r2b : List AOper :=
  [AOper.mk none (.store 3 (.tmp 8) (.tmp 19)) none [8, 7, 7, 0, 1, 2, 3, 4, 5, 6, 7, 8]]
def l38r2 : List AOper := l38r2a ++ l38r2b
def l38r3 : List AOper :=
  [AOper.mk (some 20) (.load true 3 (.tmp 8)) none [], AOper.mk (some 21) (.call 74 [.tmp 20]) none [0], AOper.mk (some 9) (.mv (.tmp 21)) none [1, 1, 0, 1]]
def l38r4 : List AOper :=
  [AOper.mk (some 22) (.fld 1 (.tmp 7)) none [], AOper.mk (some 23) (.load false 1 (.tmp 22)) none [0], AOper.mk (some 24) (.mv (.tmp 1)) none [], AOper.mk (some 25) (.mv (.tmp 9)) none [], AOper.mk (some 26) (.len (.tmp 25)) none [3], AOper.mk (some 27) (.idxA 1 (.tmp 23) (.tmp 24)) none [1, 2, 0, 1, 2, 3, 4], AOper.mk none (.store 1 (.tmp 27) (.tmp 26)) none [5, 4, 0, 1, 2, 3, 4]]
def l38r5a : List AOper :=
  [AOper.mk (some 28) (.fld 0 (.tmp 3)) none [], AOper.mk (some 29) (.load false 1 (.tmp 28)) none [0], AOper.mk (some 30) (.fld 0 (.tmp 8)) none [], AOper.mk (some 31) (.load false 1 (.tmp 30)) none [2], AOper.mk (some 32) (.fld 2 (.tmp 3)) none [], AOper.mk (some 33) (.load false 1 (.tmp 32)) none [4], AOper.mk (some 34) (.mv (.tmp 1)) none [], AOper.mk (some 35) (.idxA 1 (.tmp 33) (.tmp 34)) none [5, 6], AOper.mk (some 36) (.load false 1 (.tmp 35)) none [7], AOper.mk (some 37) (.bin .mul (.tmp 31) (.tmp 36)) none [3, 8]]
def l38r5b : List AOper :=
  [AOper.mk (some 38) (.bin .add (.tmp 29) (.tmp 37)) none [1, 9], AOper.mk (some 39) (.fld 0 (.tmp 7)) none [0, 1, 2, 3, 4, 5, 6, 7, 8, 9, 10], AOper.mk none (.store 1 (.tmp 39) (.tmp 38)) none [11, 10, 0, 1, 2, 3, 4, 5, 6, 7, 8, 9, 10]]
def l38r5 : List AOper := l38r5a ++ l38r5b
def l38r6a : List AOper :=
  [AOper.mk (some 40) (.fld 2 (.tmp 7)) none [], AOper.mk (some 41) (.load false 1 (.tmp 40)) none [0], AOper.mk (some 42) (.mv (.tmp 1)) none [], AOper.mk (some 43) (.fld 2 (.tmp 8)) none [], AOper.mk (some 44) (.load false 1 (.tmp 43)) none [3], AOper.mk (some 45) (.fld 2 (.tmp 3)) none [], AOper.mk (some 46) (.load false 1 (.tmp 45)) none [5], AOper.mk (some 47) (.mv (.tmp 1)) none [], AOper.mk (some 48) (.idxA 1 (.tmp 46) (.tmp 47)) none [6, 7], AOper.mk (some 49) (.load false 1 (.tmp 48)) none [8], AOper.mk (some 50) (.bin .mul (.tmp 44) (.tmp 49)) none [4, 9]]
def l38r6b : List AOper :=
  [AOper.mk (some 51) (.idxA 1 (.tmp 41) (.tmp 42)) none [1, 2, 0, 1, 2, 3, 4, 5, 6, 7, 8, 9, 10], AOper.mk none (.store 1 (.tmp 51) (.tmp 50)) none [11, 10, 0, 1, 2, 3, 4, 5, 6, 7, 8, 9, 10]]
def l38r6 : List AOper := l38r6a ++ l38r6b
def l38r7 : List AOper :=
  [AOper.mk (some 52) (.mv (.tmp 9)) none [], AOper.mk (some 53) (.len (.tmp 52)) none [0], AOper.mk (some 54) (.bin .leq (.tmp 53) (.const (.int .i64 1))) none [1]]
def l38r8 : List AOper :=
  [AOper.mk (some 55) (.fld 2 (.tmp 7)) none [], AOper.mk (some 56) (.load false 1 (.tmp 55)) none [0], AOper.mk (some 57) (.mv (.tmp 1)) none [], AOper.mk (some 58) (.idxA 1 (.tmp 56) (.tmp 57)) none [1, 2, 0, 1, 2], AOper.mk none (.store 1 (.tmp 58) (.const (.int .i64 0))) none [3, 0, 1, 2]]
def l38r9 : List AOper :=
  [AOper.mk (some 59) (.load true 3 (.tmp 7)) none [], AOper.mk (some 60) (.call 63 [.tmp 59]) none [0], AOper.mk none (.store 3 (.tmp 6) (.tmp 60)) none [1, 1, 0, 1]]
def l38 : AFn :=
  (AFn.mk 61 3 (ACode.seq (ACode.reg l38r0) (ACode.seq (ACode.reg l38r1) (ACode.seq (ACode.draw l38r2) (ACode.seq (ACode.reg l38r3) (ACode.seq (ACode.reg l38r4) (ACode.seq (ACode.draw l38r5) (ACode.seq (ACode.draw l38r6) (ACode.seq (ACode.seq (ACode.reg l38r7) (ACode.cond (.tmp 54) (ACode.reg l38r8) ACode.skip)) (ACode.seq (ACode.reg l38r9) ACode.ret))))))))) [ARes.cell 6 true 3])
theorem l38_eq : lowFn Try.prog 38 = some l38 := by kernel_rfl
def l39r0 : List AOper :=
  [AOper.mk (some 2) (.box (.tmp 0)) none [], AOper.mk (some 4) (.mv (.const (.bool false))) none []]
def l39r1 : List AOper :=
  [AOper.mk (some 5) (.load true 3 (.tmp 2)) none [], AOper.mk (some 6) (.call 49 [.tmp 5]) none [0], AOper.mk (some 7) (.mv (.tmp 6)) none [1, 1], AOper.mk (some 8) (.mv (.tmp 1)) (some (7, true)) [2], AOper.mk (some 9) (.fld 1 (.tmp 2)) (some (7, true)) [2], AOper.mk (some 10) (.load false 1 (.tmp 9)) (some (7, true)) [4, 2], AOper.mk (some 11) (.len (.tmp 10)) (some (7, true)) [5, 2], AOper.mk (some 12) (.bin .sub (.tmp 11) (.const (.int .i64 1))) (some (7, true)) [6, 2], AOper.mk (some 13) (.call 67 [.tmp 8, .tmp 12]) (some (7, true)) [3, 7, 2, 2], AOper.mk (some 14) (.pick (.tmp 7) (.tmp 13) (.const (.bool false))) none [2, 8], AOper.mk (some 4) (.mv (.tmp 14)) none [9, 8, 0, 1, 2, 3, 4, 5, 6, 7, 8, 9]]
def l39 : AFn :=
  (AFn.mk 15 2 (ACode.seq (ACode.reg l39r0) (ACode.seq (ACode.reg l39r1) ACode.ret)) [ARes.tmp 4])
theorem l39_eq : lowFn Try.prog 39 = some l39 := by kernel_rfl
def l40r0 : List AOper :=
  [AOper.mk (some 1) (.box (.tmp 0)) none [], AOper.mk (some 2) (.mv (.const (.bool false))) none []]
def l40r1 : List AOper :=
  [AOper.mk (some 3) (.fld 0 (.tmp 1)) none [], AOper.mk (some 4) (.load false 1 (.tmp 3)) none [0], AOper.mk (some 5) (.fld 3 (.tmp 1)) none [], AOper.mk (some 6) (.load false 1 (.tmp 5)) none [2], AOper.mk (some 7) (.call 75 [.tmp 4, .tmp 6]) none [1, 3], AOper.mk (some 8) (.mv (.tmp 7)) none [4, 4], AOper.mk (some 9) (.fld 1 (.tmp 1)) (some (8, true)) [5], AOper.mk (some 10) (.load false 1 (.tmp 9)) (some (8, true)) [6, 5], AOper.mk (some 11) (.fld 4 (.tmp 1)) (some (8, true)) [5], AOper.mk (some 12) (.load false 1 (.tmp 11)) (some (8, true)) [8, 5], AOper.mk (some 13) (.call 75 [.tmp 10, .tmp 12]) (some (8, true)) [7, 9, 5, 5], AOper.mk (some 14) (.pick (.tmp 8) (.tmp 13) (.const (.bool false))) none [5, 10], AOper.mk (some 15) (.mv (.tmp 14)) none [11, 10], AOper.mk (some 16) (.fld 2 (.tmp 1)) (some (15, true)) [12], AOper.mk (some 17) (.load false 1 (.tmp 16)) (some (15, true)) [13, 12], AOper.mk (some 18) (.call 76 [.tmp 17]) (some (15, true)) [14, 12, 12], AOper.mk (some 19) (.pick (.tmp 15) (.tmp 18) (.const (.bool false))) none [12, 15], AOper.mk (some 2) (.mv (.tmp 19)) none [16, 15, 0, 1, 2, 3, 4, 5, 6, 7, 8, 9, 10, 11, 12, 13, 14, 15, 16]]
def l40 : AFn :=
  (AFn.mk 20 1 (ACode.seq (ACode.reg l40r0) (ACode.seq (ACode.reg l40r1) ACode.ret)) [ARes.tmp 2])
theorem l40_eq : lowFn Try.prog 40 = some l40 := by kernel_rfl
def l41r0 : List AOper :=
  [AOper.mk (some 2) (.box (.tmp 0)) none [], AOper.mk (some 4) (.alloc [.int .i64 0, .int .i64 0, .int .i64 0]) none []]
def l41r1 : List AOper :=
  [AOper.mk (some 8) (.mv (.tmp 1)) none [], AOper.mk (some 5) (.mv (.const (.int .i64 0))) none [], AOper.mk (some 6) (.mv (.tmp 8)) none [0, 1, 0, 1]]
def l41r2 : List AOper :=
  [AOper.mk (some 9) (.mv (.tmp 5)) none [], AOper.mk (some 10) (.mv (.tmp 6)) none [], AOper.mk (some 11) (.fld 2 (.tmp 2)) none [], AOper.mk (some 12) (.load false 1 (.tmp 11)) none [2], AOper.mk (some 13) (.build [.int .i64 0, .int .i64 0, .int .i64 0] [(0, 1, .tmp 9), (1, 1, .tmp 10), (2, 1, .tmp 12)]) none [0, 1, 3], AOper.mk (some 7) (.alloc [.int .i64 0, .int .i64 0, .int .i64 0]) none [], AOper.mk none (.store 3 (.tmp 7) (.tmp 13)) none [5, 4, 0, 1, 2, 3, 4, 5]]
def l41r3 : List AOper :=
  [AOper.mk (some 14) (.fld 2 (.tmp 2)) none [], AOper.mk (some 15) (.load false 1 (.tmp 14)) none [0], AOper.mk (some 16) (.bin .lss (.tmp 15) (.const (.int .i64 0))) none [1]]
def l41r4 : List AOper :=
  [AOper.mk (some 17) (.mv (.tmp 1)) none [], AOper.mk (some 18) (.bin .sub (.tmp 17) (.const (.int .i64 1))) none [0], AOper.mk (some 5) (.mv (.const (.int .i64 (-1)))) none [], AOper.mk (some 6) (.mv (.tmp 18)) none [1, 2, 0, 1, 2]]
def l41r5 : List AOper :=
  [AOper.mk (some 19) (.mv (.tmp 6)) none [], AOper.mk (some 20) (.mv (.tmp 5)) none [], AOper.mk (some 21) (.fld 0 (.tmp 7)) none [0], AOper.mk none (.store 1 (.tmp 21) (.tmp 19)) none [2, 0, 0], AOper.mk (some 22) (.fld 1 (.tmp 7)) none [0, 1, 2, 3], AOper.mk none (.store 1 (.tmp 22) (.tmp 20)) none [4, 1, 3, 0, 1, 2, 3]]
def l41r6 : List AOper :=
  [AOper.mk (some 23) (.fld 3 (.tmp 2)) none [], AOper.mk (some 24) (.load false 1 (.tmp 23)) none [0]]
def l41r7 : List AOper :=
  [AOper.mk (some 25) (.fld 0 (.tmp 2)) none [], AOper.mk (some 26) (.load false 1 (.tmp 25)) none [0], AOper.mk (some 27) (.mv (.tmp 1)) none [], AOper.mk (some 28) (.mv (.tmp 5)) none [], AOper.mk (some 29) (.mv (.tmp 6)) none [], AOper.mk (some 30) (.call 77 [.tmp 26, .tmp 27, .tmp 28, .tmp 29]) none [1, 2, 3, 4], AOper.mk (some 31) (.fld 0 (.tmp 7)) none [0, 1, 2, 3, 4, 5], AOper.mk none (.store 1 (.tmp 31) (.tmp 30)) none [6, 5, 5, 0, 1, 2, 3, 4, 5]]
def l41r8 : List AOper :=
  [AOper.mk (some 32) (.fld 4 (.tmp 2)) none [], AOper.mk (some 33) (.load false 1 (.tmp 32)) none [0]]
def l41r9 : List AOper :=
  [AOper.mk (some 34) (.fld 1 (.tmp 2)) none [], AOper.mk (some 35) (.load false 1 (.tmp 34)) none [0], AOper.mk (some 36) (.mv (.tmp 1)) none [], AOper.mk (some 37) (.mv (.tmp 5)) none [], AOper.mk (some 38) (.mv (.tmp 6)) none [], AOper.mk (some 39) (.call 77 [.tmp 35, .tmp 36, .tmp 37, .tmp 38]) none [1, 2, 3, 4], AOper.mk (some 40) (.fld 1 (.tmp 7)) none [0, 1, 2, 3, 4, 5], AOper.mk none (.store 1 (.tmp 40) (.tmp 39)) none [6, 5, 5, 0, 1, 2, 3, 4, 5]]
def l41r10 : List AOper :=
  [AOper.mk (some 41) (.load true 3 (.tmp 7)) none [], AOper.mk none (.store 3 (.tmp 4) (.tmp 41)) none [0, 0]]
def l41 : AFn :=
  (AFn.mk 42 2 (ACode.seq (ACode.reg l41r0) (ACode.seq (ACode.reg l41r1) (ACode.seq (ACode.reg l41r2) (ACode.seq (ACode.seq (ACode.reg l41r3) (ACode.cond (.tmp 16) (ACode.seq (ACode.reg l41r4) (ACode.reg l41r5)) ACode.skip)) (ACode.seq (ACode.seq (ACode.reg l41r6) (ACode.cond (.tmp 24) (ACode.reg l41r7) ACode.skip)) (ACode.seq (ACode.seq (ACode.reg l41r8) (ACode.cond (.tmp 33) (ACode.reg l41r9) ACode.skip)) (ACode.seq (ACode.reg l41r10) ACode.ret))))))) [ARes.cell 4 true 3])
theorem l41_eq : lowFn Try.prog 41 = some l41 := by kernel_rfl
def l42r0 : List AOper :=
  [AOper.mk (some 1) (.box (.tmp 0)) none [], AOper.mk (some 2) (.alloc [.int .i64 0, .slice none 0 0, .slice none 0 0, .int .i64 0, .int .i64 0, .int .i64 0, .int .i64 0, .slice none 0 0]) none []]
def l42r1 : List AOper :=
  [AOper.mk (some 6) (.load true 3 (.tmp 1)) none [], AOper.mk (some 7) (.build [.int .i64 0, .slice none 0 0, .slice none 0 0, .int .i64 0, .int .i64 0, .int .i64 0, .int .i64 0, .slice none 0 0] [(0, 3, .tmp 6)]) none [0], AOper.mk (some 3) (.alloc [.int .i64 0, .slice none 0 0, .slice none 0 0, .int .i64 0, .int .i64 0, .int .i64 0, .int .i64 0, .slice none 0 0]) none [], AOper.mk none (.store 8 (.tmp 3) (.tmp 7)) none [2, 1, 0, 1, 2]]
def l42r2 : List AOper :=
  [AOper.mk (some 8) (.fld 1 (.tmp 1)) none [], AOper.mk (some 9) (.load false 1 (.tmp 8)) none [0], AOper.mk (some 10) (.len (.tmp 9)) none [1], AOper.mk (some 11) (.mv (.const (.int .i64 0))) none []]
def l42r3 : List AOper :=
  [AOper.mk (some 12) (.bin .lss (.tmp 11) (.tmp 10)) none []]
def l42r4 : List AOper :=
  [AOper.mk (some 13) (.mv (.tmp 11)) none [], AOper.mk (some 14) (.idxA 1 (.tmp 9) (.tmp 11)) none [], AOper.mk (some 15) (.load false 1 (.tmp 14)) none [1], AOper.mk (some 4) (.mv (.tmp 13)) none [0, 0, 1, 2], AOper.mk (some 5) (.mv (.tmp 15)) none [2, 3, 0, 1, 2, 3]]
def l42r5a : List AOper :=
  [AOper.mk (some 16) (.fld 7 (.tmp 3)) none [], AOper.mk (some 17) (.load false 1 (.tmp 16)) none [0], AOper.mk (some 18) (.mv (.tmp 5)) none [], AOper.mk (some 19) (.fld 2 (.tmp 1)) none [], AOper.mk (some 20) (.load false 1 (.tmp 19)) none [3], AOper.mk (some 21) (.mv (.tmp 4)) none [], AOper.mk (some 22) (.idxA 1 (.tmp 20) (.tmp 21)) none [4, 5], AOper.mk (some 23) (.load false 1 (.tmp 22)) none [6], AOper.mk (some 24) (.build [.int .i64 0, .int .i64 0] [(0, 1, .tmp 18), (1, 1, .tmp 23)]) none [2, 7], AOper.mk (some 25) (.bslice 2 [.int .i64 0, .int .i64 0] [(0, .tmp 24)] 1) none [8]]
def l42r5b : List AOper :=
  [AOper.mk (some 26) (.append 2 (.tmp 17) (.tmp 25)) none [1, 9], AOper.mk (some 27) (.fld 7 (.tmp 3)) none [0, 1, 2, 3, 4, 5, 6, 7, 8, 9, 10], AOper.mk none (.store 1 (.tmp 27) (.tmp 26)) none [11, 10, 10, 0, 1, 2, 3, 4, 5, 6, 7, 8, 9, 10]]
def l42r5 : List AOper := l42r5a ++ l42r5b
def l42r6 : List AOper :=
  [AOper.mk (some 28) (.bin .add (.tmp 11) (.const (.int .i64 1))) none [], AOper.mk (some 11) (.mv (.tmp 28)) none [0]]
def l42r7 : List AOper :=
  [AOper.mk (some 29) (.load true 8 (.tmp 3)) none [], AOper.mk none (.store 8 (.tmp 2) (.tmp 29)) none [0, 0]]
def l42 : AFn :=
  (AFn.mk 30 1 (ACode.seq (ACode.reg l42r0) (ACode.seq (ACode.reg l42r1) (ACode.seq (ACode.seq (ACode.reg l42r2) (ACode.block 0 (ACode.loop (ACode.seq (ACode.reg l42r3) (ACode.seq (ACode.cond (.tmp 12) ACode.skip (ACode.exit 0)) (ACode.seq (ACode.block 1 (ACode.seq (ACode.reg l42r4) (ACode.draw l42r5))) (ACode.reg l42r6))))))) (ACode.seq (ACode.reg l42r7) ACode.ret)))) [ARes.cell 2 true 8])
theorem l42_eq : lowFn Try.prog 42 = some l42 := by kernel_rfl
def l43r0 : List AOper :=
  [AOper.mk (some 4) (.alloc [.int .i64 0, .int .i64 0]) none []]
def l43r1 : List AOper :=
  [AOper.mk (some 5) (.mv (.tmp 0)) none [], AOper.mk (some 6) (.bin .lss (.tmp 5) (.const (.int .i64 2))) none [0]]
def l43r2 : List AOper :=
  [AOper.mk (some 7) (.mv (.tmp 0)) none [], AOper.mk (some 8) (.build [.int .i64 0, .int .i64 0] [(0, 1, .tmp 7)]) none [0], AOper.mk none (.store 2 (.tmp 4) (.tmp 8)) none [1, 0, 1]]
def l43r3 : List AOper :=
  [AOper.mk (some 9) (.mv (.tmp 0)) none [], AOper.mk (some 10) (.mv (.tmp 1)) none [], AOper.mk (some 11) (.build [.int .i64 0, .int .i64 0] [(0, 1, .tmp 9), (1, 1, .tmp 10)]) none [0, 1], AOper.mk none (.store 2 (.tmp 4) (.tmp 11)) none [2, 0, 1, 2]]
def l43 : AFn :=
  (AFn.mk 12 2 (ACode.seq (ACode.reg l43r0) (ACode.seq (ACode.seq (ACode.reg l43r1) (ACode.cond (.tmp 6) (ACode.seq (ACode.reg l43r2) ACode.ret) ACode.skip)) (ACode.seq (ACode.reg l43r3) ACode.ret))) [ARes.cell 4 true 2])
theorem l43_eq : lowFn Try.prog 43 = some l43 := by kernel_rfl
def l44r0 : List AOper :=
  [AOper.mk (some 1) (.box (.tmp 0)) none [], AOper.mk (some 2) (.mv (.const (.int .i64 0))) none []]
def l44r1a : List AOper :=
  [AOper.mk (some 5) (.fld 1 (.tmp 1)) none [], AOper.mk (some 6) (.load false 1 (.tmp 5)) none [0], AOper.mk (some 7) (.fld 0 (.tmp 1)) none [], AOper.mk (some 8) (.load false 1 (.tmp 7)) none [2], AOper.mk (some 9) (.bin .sub (.tmp 6) (.tmp 8)) none [1, 3], AOper.mk (some 10) (.fld 2 (.tmp 1)) none [], AOper.mk (some 11) (.load false 1 (.tmp 10)) none [5], AOper.mk (some 3) (.mv (.tmp 9)) none [4, 0, 1, 2, 3, 4]]
def l44r1b : List AOper :=
  [AOper.mk (some 4) (.mv (.tmp 11)) none [6, 7, 0, 1, 2, 3, 4, 5, 6, 7]]
def l44r1 : List AOper := l44r1a ++ l44r1b
def l44r2 : List AOper :=
  [AOper.mk (some 12) (.mv (.tmp 4)) none [], AOper.mk (some 13) (.bin .lss (.tmp 12) (.const (.int .i64 0))) none [0]]
def l44r3 : List AOper :=
  [AOper.mk (some 14) (.mv (.tmp 3)) none [], AOper.mk (some 15) (.un .neg (.tmp 14)) none [0], AOper.mk (some 16) (.mv (.tmp 4)) none [], AOper.mk (some 17) (.un .neg (.tmp 16)) none [2], AOper.mk (some 3) (.mv (.tmp 15)) none [1, 0, 1], AOper.mk (some 4) (.mv (.tmp 17)) none [3, 4, 0, 1, 2, 3, 4]]
def l44r4 : List AOper :=
  [AOper.mk (some 18) (.mv (.tmp 3)) none [], AOper.mk (some 19) (.bin .leq (.tmp 18) (.const (.int .i64 0))) none [0]]
def l44r5 : List AOper :=
  [AOper.mk (some 2) (.mv (.const (.int .i64 0))) none []]
def l44r6 : List AOper :=
  [AOper.mk (some 20) (.mv (.tmp 3)) none [], AOper.mk (some 21) (.mv (.tmp 4)) none [], AOper.mk (some 22) (.bin .add (.tmp 20) (.tmp 21)) none [0, 1], AOper.mk (some 23) (.bin .sub (.tmp 22) (.const (.int .i64 1))) none [2], AOper.mk (some 24) (.mv (.tmp 4)) none [], AOper.mk (some 25) (.bin .quo (.tmp 23) (.tmp 24)) none [3, 4], AOper.mk (some 2) (.mv (.tmp 25)) none [5, 0, 1, 2, 3, 4, 5]]
def l44 : AFn :=
  (AFn.mk 26 1 (ACode.seq (ACode.reg l44r0) (ACode.seq (ACode.draw l44r1) (ACode.seq (ACode.seq (ACode.reg l44r2) (ACode.cond (.tmp 13) (ACode.reg l44r3) ACode.skip)) (ACode.seq (ACode.seq (ACode.reg l44r4) (ACode.cond (.tmp 19) (ACode.seq (ACode.reg l44r5) ACode.ret) ACode.skip)) (ACode.seq (ACode.reg l44r6) ACode.ret))))) [ARes.tmp 2])
theorem l44_eq : lowFn Try.prog 44 = some l44 := by kernel_rfl
def l45r0 : List AOper :=
  [AOper.mk (some 1) (.box (.tmp 0)) none [], AOper.mk (some 2) (.alloc [.int .i64 0, .slice none 0 0, .slice none 0 0]) none []]
def l45r1 : List AOper :=
  [AOper.mk (some 4) (.load true 8 (.tmp 1)) none [], AOper.mk (some 5) (.call 51 [.tmp 4]) none [0], AOper.mk (some 3) (.alloc [.int .i64 0, .slice none 0 0, .slice none 0 0]) none [], AOper.mk none (.store 3 (.tmp 3) (.tmp 5)) none [2, 1, 1, 0, 1, 2]]
def l45r2 : List AOper :=
  [AOper.mk (some 6) (.load true 3 (.tmp 3)) none [], AOper.mk (some 7) (.call 58 [.tmp 6]) none [0], AOper.mk (some 8) (.bin .eql (.tmp 7) (.const (.int .i64 0))) none [1]]
def l45r3a : List AOper :=
  [AOper.mk (some 9) (.fld 1 (.tmp 3)) none [], AOper.mk (some 10) (.load false 1 (.tmp 9)) none [0], AOper.mk (some 11) (.len (.tmp 10)) none [1], AOper.mk (some 12) (.mkslice 1 [.int .i64 0] (.tmp 11) (.tmp 11)) none [2, 2], AOper.mk (some 13) (.fld 0 (.tmp 3)) none [0, 1], AOper.mk none (.store 1 (.tmp 13) (.const (.int .i64 0))) none [4, 0, 1]]
def l45r3b : List AOper :=
  [AOper.mk (some 14) (.fld 2 (.tmp 3)) none [0, 1, 2, 3, 4, 5], AOper.mk none (.store 1 (.tmp 14) (.tmp 12)) none [6, 3, 5, 0, 1, 2, 3, 4, 5]]
def l45r3 : List AOper := l45r3a ++ l45r3b
def l45r4 : List AOper :=
  [AOper.mk (some 15) (.load true 3 (.tmp 3)) none [], AOper.mk none (.store 3 (.tmp 2) (.tmp 15)) none [0, 0]]
def l45 : AFn :=
  (AFn.mk 16 1 (ACode.seq (ACode.reg l45r0) (ACode.seq (ACode.reg l45r1) (ACode.seq (ACode.seq (ACode.reg l45r2) (ACode.cond (.tmp 8) (ACode.draw l45r3) ACode.skip)) (ACode.seq (ACode.reg l45r4) ACode.ret)))) [ARes.cell 2 true 3])
theorem l45_eq : lowFn Try.prog 45 = some l45 := by kernel_rfl
def l46r0 : List AOper :=
  [AOper.mk (some 4) (.mv (.const (.int .i64 0))) none []]
def l46r1 : List AOper :=
  [AOper.mk (some 5) (.mv (.const (.int .i64 0))) none []]
def l46r2 : List AOper :=
  [AOper.mk (some 6) (.mv (.tmp 5)) none [], AOper.mk (some 7) (.mv (.tmp 0)) none [], AOper.mk (some 8) (.len (.tmp 7)) none [1], AOper.mk (some 9) (.bin .lss (.tmp 6) (.tmp 8)) none [0, 2]]
def l46r3 : List AOper :=
  [AOper.mk (some 12) (.mv (.tmp 0)) none [], AOper.mk (some 13) (.mv (.tmp 5)) none [], AOper.mk (some 14) (.idxA 1 (.tmp 12) (.tmp 13)) none [0, 1], AOper.mk (some 15) (.load false 1 (.tmp 14)) none [2], AOper.mk (some 16) (.mv (.tmp 1)) none [], AOper.mk (some 17) (.bin .neq (.tmp 15) (.tmp 16)) none [3, 4]]
def l46r4 : List AOper :=
  [AOper.mk (some 4) (.mv (.const (.int .i64 (-1)))) none []]
def l46r5 : List AOper :=
  [AOper.mk (some 18) (.mv (.tmp 1)) none [], AOper.mk (some 19) (.bin .add (.tmp 18) (.const (.int .i64 1))) none [0], AOper.mk (some 1) (.mv (.tmp 19)) none [1, 0, 1]]
def l46r6 : List AOper :=
  [AOper.mk (some 10) (.mv (.tmp 5)) none [], AOper.mk (some 11) (.bin .add (.tmp 10) (.const (.int .i64 1))) none [0], AOper.mk (some 5) (.mv (.tmp 11)) none [1, 0, 1]]
def l46r7 : List AOper :=
  [AOper.mk (some 20) (.mv (.tmp 1)) none [], AOper.mk (some 4) (.mv (.tmp 20)) none [0, 0]]
def l46 : AFn :=
  (AFn.mk 21 2 (ACode.seq (ACode.reg l46r0) (ACode.seq (ACode.seq (ACode.reg l46r1) (ACode.block 0 (ACode.loop (ACode.seq (ACode.seq (ACode.reg l46r2) (ACode.cond (.tmp 9) ACode.skip (ACode.exit 0))) (ACode.seq (ACode.block 1 (ACode.seq (ACode.seq (ACode.reg l46r3) (ACode.cond (.tmp 17) (ACode.seq (ACode.reg l46r4) ACode.ret) ACode.skip)) (ACode.reg l46r5))) (ACode.reg l46r6)))))) (ACode.seq (ACode.reg l46r7) ACode.ret))) [ARes.tmp 4])
theorem l46_eq : lowFn Try.prog 46 = some l46 := by kernel_rfl
def l49r0 : List AOper :=
  [AOper.mk (some 1) (.box (.tmp 0)) none [], AOper.mk (some 2) (.mv (.const (.bool false))) none []]
def l49r1 : List AOper :=
  [AOper.mk (some 5) (.fld 1 (.tmp 1)) none [], AOper.mk (some 6) (.load false 1 (.tmp 5)) none [0], AOper.mk (some 7) (.call 56 [.tmp 6]) none [1], AOper.mk (some 8) (.un .not (.tmp 7)) none [2], AOper.mk (some 9) (.mv (.tmp 8)) none [3, 2], AOper.mk (some 10) (.fld 2 (.tmp 1)) (some (9, false)) [4], AOper.mk (some 11) (.load false 1 (.tmp 10)) (some (9, false)) [5, 4], AOper.mk (some 12) (.fld 1 (.tmp 1)) (some (9, false)) [4], AOper.mk (some 13) (.load false 1 (.tmp 12)) (some (9, false)) [7, 4], AOper.mk (some 14) (.len (.tmp 13)) (some (9, false)) [8, 4], AOper.mk (some 15) (.call 79 [.tmp 11, .tmp 14]) (some (9, false)) [6, 9, 4, 4], AOper.mk (some 16) (.un .not (.tmp 15)) (some (9, false)) [10, 4], AOper.mk (some 17) (.pick (.tmp 9) (.const (.bool true)) (.tmp 16)) none [4, 11], AOper.mk (some 18) (.mv (.tmp 17)) none [12, 10], AOper.mk (some 19) (.fld 0 (.tmp 1)) (some (18, false)) [13], AOper.mk (some 20) (.load false 1 (.tmp 19)) (some (18, false)) [14, 13], AOper.mk (some 21) (.call 67 [.tmp 20, .const (.int .i64 60)]) (some (18, false)) [15, 13, 13], AOper.mk (some 22) (.un .not (.tmp 21)) (some (18, false)) [16, 13], AOper.mk (some 23) (.pick (.tmp 18) (.const (.bool true)) (.tmp 22)) none [13, 17]]
def l49r2 : List AOper :=
  [AOper.mk (some 2) (.mv (.const (.bool false))) none []]
def l49r3 : List AOper :=
  [AOper.mk (some 25) (.load true 3 (.tmp 1)) none [], AOper.mk (some 26) (.call 80 [.tmp 25]) none [0], AOper.mk (some 24) (.mv (.tmp 26)) none [1], AOper.mk (some 27) (.extract (.tmp 24) 0) none [2], AOper.mk (some 28) (.extract (.tmp 24) 1) none [2], AOper.mk (some 3) (.mv (.tmp 27)) none [3, 1, 0, 1, 2, 3], AOper.mk (some 4) (.mv (.tmp 28)) none [4, 5, 0, 1, 2, 3, 4, 5]]
def l49r4 : List AOper :=
  [AOper.mk (some 29) (.load true 3 (.tmp 1)) none [], AOper.mk (some 30) (.call 58 [.tmp 29]) none [0], AOper.mk (some 31) (.bin .eql (.tmp 30) (.const (.int .i64 0))) none [1], AOper.mk (some 32) (.mv (.tmp 31)) none [2, 1], AOper.mk (some 33) (.mv (.tmp 3)) (some (32, false)) [3], AOper.mk (some 34) (.bin .geq (.tmp 33) (.const (.int .i64 0))) (some (32, false)) [4, 3], AOper.mk (some 35) (.mv (.tmp 34)) (some (32, false)) [5, 3, 3], AOper.mk (some 36) (.mv (.tmp 4)) (some (35, true)) [6], AOper.mk (some 37) (.bin .lss (.tmp 36) (.const (.int .i64 60))) (some (35, true)) [7, 6], AOper.mk (some 38) (.pick (.tmp 35) (.tmp 37) (.const (.bool false))) (some (32, false)) [6, 8, 3], AOper.mk (some 39) (.pick (.tmp 32) (.const (.bool true)) (.tmp 38)) none [3, 9], AOper.mk (some 2) (.mv (.tmp 39)) none [10, 6, 0, 1, 2, 3, 4, 5, 6, 7, 8, 9, 10]]
def l49 : AFn :=
  (AFn.mk 40 1 (ACode.seq (ACode.reg l49r0) (ACode.seq (ACode.seq (ACode.reg l49r1) (ACode.cond (.tmp 23) (ACode.seq (ACode.reg l49r2) ACode.ret) ACode.skip)) (ACode.seq (ACode.reg l49r3) (ACode.seq (ACode.reg l49r4) ACode.ret)))) [ARes.tmp 2])
theorem l49_eq : lowFn Try.prog 49 = some l49 := by kernel_rfl
def l51r0 : List AOper :=
  [AOper.mk (some 1) (.box (.tmp 0)) none [], AOper.mk (some 2) (.alloc [.int .i64 0, .slice none 0 0, .slice none 0 0]) none []]
def l51r1 : List AOper :=
  [AOper.mk (some 6) (.fld 0 (.tmp 1)) none [], AOper.mk (some 7) (.load true 3 (.tmp 6)) none [0], AOper.mk (some 8) (.fld 3 (.tmp 1)) none [], AOper.mk (some 9) (.load true 4 (.tmp 8)) none [2], AOper.mk (some 10) (.call 82 [.tmp 7, .tmp 9]) none [1, 3], AOper.mk (some 11) (.build [.int .i64 0, .slice none 0 0, .slice none 0 0] [(0, 1, .tmp 10)]) none [4], AOper.mk (some 3) (.alloc [.int .i64 0, .slice none 0 0, .slice none 0 0]) none [], AOper.mk none (.store 3 (.tmp 3) (.tmp 11)) none [6, 5, 4, 0, 1, 2, 3, 4, 5, 6]]
def l51r2 : List AOper :=
  [AOper.mk (some 12) (.fld 7 (.tmp 1)) none [], AOper.mk (some 13) (.load false 1 (.tmp 12)) none [0], AOper.mk (some 14) (.len (.tmp 13)) none [1], AOper.mk (some 15) (.mv (.const (.int .i64 0))) none []]
def l51r3 : List AOper :=
  [AOper.mk (some 16) (.bin .lss (.tmp 15) (.tmp 14)) none []]
def l51r4 : List AOper :=
  [AOper.mk (some 17) (.idxA 2 (.tmp 13) (.tmp 15)) none [], AOper.mk (some 18) (.load true 2 (.tmp 17)) none [0], AOper.mk (some 5) (.alloc [.int .i64 0, .int .i64 0]) none [], AOper.mk none (.store 2 (.tmp 5) (.tmp 18)) none [2, 1, 0, 1, 2]]
def l51r5 : List AOper :=
  [AOper.mk (some 19) (.fld 1 (.tmp 3)) none [], AOper.mk (some 20) (.load false 1 (.tmp 19)) none [0], AOper.mk (some 21) (.fld 0 (.tmp 5)) none [], AOper.mk (some 22) (.load false 1 (.tmp 21)) none [2], AOper.mk (some 23) (.bslice 1 [.int .i64 0] [(0, .tmp 22)] 1) none [3], AOper.mk (some 24) (.append 1 (.tmp 20) (.tmp 23)) none [1, 4], AOper.mk (some 25) (.fld 1 (.tmp 3)) none [0, 1, 2, 3, 4, 5], AOper.mk none (.store 1 (.tmp 25) (.tmp 24)) none [6, 5, 5, 0, 1, 2, 3, 4, 5]]
def l51r6 : List AOper :=
  [AOper.mk (some 26) (.fld 2 (.tmp 3)) none [], AOper.mk (some 27) (.load false 1 (.tmp 26)) none [0], AOper.mk (some 28) (.fld 1 (.tmp 5)) none [], AOper.mk (some 29) (.load false 1 (.tmp 28)) none [2], AOper.mk (some 30) (.bslice 1 [.int .i64 0] [(0, .tmp 29)] 1) none [3], AOper.mk (some 31) (.append 1 (.tmp 27) (.tmp 30)) none [1, 4], AOper.mk (some 32) (.fld 2 (.tmp 3)) none [0, 1, 2, 3, 4, 5], AOper.mk none (.store 1 (.tmp 32) (.tmp 31)) none [6, 5, 5, 0, 1, 2, 3, 4, 5]]
def l51r7 : List AOper :=
  [AOper.mk (some 33) (.bin .add (.tmp 15) (.const (.int .i64 1))) none [], AOper.mk (some 15) (.mv (.tmp 33)) none [0]]
def l51r8 : List AOper :=
  [AOper.mk (some 34) (.load true 3 (.tmp 3)) none [], AOper.mk none (.store 3 (.tmp 2) (.tmp 34)) none [0, 0]]
def l51 : AFn :=
  (AFn.mk 35 1 (ACode.seq (ACode.reg l51r0) (ACode.seq (ACode.reg l51r1) (ACode.seq (ACode.seq (ACode.reg l51r2) (ACode.block 0 (ACode.loop (ACode.seq (ACode.reg l51r3) (ACode.seq (ACode.cond (.tmp 16) ACode.skip (ACode.exit 0)) (ACode.seq (ACode.block 1 (ACode.seq (ACode.reg l51r4) (ACode.seq (ACode.reg l51r5) (ACode.reg l51r6)))) (ACode.reg l51r7))))))) (ACode.seq (ACode.reg l51r8) ACode.ret)))) [ARes.cell 2 true 3])
theorem l51_eq : lowFn Try.prog 51 = some l51 := by kernel_rfl
def l52r0 : List AOper :=
  [AOper.mk (some 6) (.mv (.const (.bool false))) none []]
def l52r1 : List AOper :=
  [AOper.mk (some 7) (.mv (.tmp 1)) none [], AOper.mk (some 8) (.mv (.tmp 0)) none [], AOper.mk (some 9) (.bin .leq (.tmp 7) (.tmp 8)) none [0, 1], AOper.mk (some 10) (.mv (.tmp 9)) none [2], AOper.mk (some 11) (.mv (.tmp 0)) (some (10, true)) [3], AOper.mk (some 12) (.mv (.tmp 2)) (some (10, true)) [3], AOper.mk (some 13) (.bin .leq (.tmp 11) (.tmp 12)) (some (10, true)) [4, 5, 3], AOper.mk (some 14) (.pick (.tmp 10) (.tmp 13) (.const (.bool false))) none [3, 6], AOper.mk (some 6) (.mv (.tmp 14)) none [7, 3, 0, 1, 2, 3, 4, 5, 6, 7]]
def l52 : AFn :=
  (AFn.mk 15 3 (ACode.seq (ACode.reg l52r0) (ACode.seq (ACode.reg l52r1) ACode.ret)) [ARes.tmp 6])
theorem l52_eq : lowFn Try.prog 52 = some l52 := by kernel_rfl
def l53r0 : List AOper :=
  [AOper.mk (some 1) (.box (.tmp 0)) none [], AOper.mk (some 2) (.alloc [.int .i64 0, .slice none 0 0, .slice none 0 0]) none []]
def l53r1a : List AOper :=
  [AOper.mk (some 3) (.fld 0 (.tmp 1)) none [], AOper.mk (some 4) (.load false 1 (.tmp 3)) none [0], AOper.mk (some 5) (.fld 1 (.tmp 1)) none [], AOper.mk (some 6) (.load false 1 (.tmp 5)) none [2], AOper.mk (some 7) (.call 83 [.tmp 6]) none [3], AOper.mk (some 8) (.fld 2 (.tmp 1)) none [], AOper.mk (some 9) (.load false 1 (.tmp 8)) none [5], AOper.mk (some 10) (.call 83 [.tmp 9]) none [6, 4]]
def l53r1b : List AOper :=
  [AOper.mk (some 11) (.build [.int .i64 0, .slice none 0 0, .slice none 0 0] [(0, 1, .tmp 4), (1, 1, .tmp 7), (2, 1, .tmp 10)]) none [1, 4, 7], AOper.mk none (.store 3 (.tmp 2) (.tmp 11)) none [8, 7, 0, 1, 2, 3, 4, 5, 6, 7, 8]]
def l53r1 : List AOper := l53r1a ++ l53r1b
def l53 : AFn :=
  (AFn.mk 12 1 (ACode.seq (ACode.reg l53r0) (ACode.seq (ACode.draw l53r1) ACode.ret)) [ARes.cell 2 true 3])
theorem l53_eq : lowFn Try.prog 53 = some l53 := by kernel_rfl
def l54r0 : List AOper :=
  [AOper.mk (some 2) (.mv (.const (.bool false))) none []]
def l54r1 : List AOper :=
  [AOper.mk (some 3) (.mv (.tmp 0)) none [], AOper.mk (some 4) (.len (.tmp 3)) none [0], AOper.mk (some 5) (.bin .leq (.tmp 4) (.const (.int .i64 4))) none [1], AOper.mk (some 6) (.mv (.tmp 5)) none [2], AOper.mk (some 7) (.mv (.tmp 0)) (some (6, true)) [3], AOper.mk (some 8) (.call 69 [.tmp 7, .const (.int .i64 0), .const (.int .i64 60)]) (some (6, true)) [4, 3, 3], AOper.mk (some 9) (.pick (.tmp 6) (.tmp 8) (.const (.bool false))) none [3, 5], AOper.mk (some 10) (.mv (.tmp 9)) none [6, 5], AOper.mk (some 11) (.mv (.tmp 0)) (some (10, true)) [7], AOper.mk (some 12) (.call 70 [.tmp 11]) (some (10, true)) [8, 7, 7], AOper.mk (some 13) (.bin .leq (.tmp 12) (.const (.int .i64 60))) (some (10, true)) [9, 7], AOper.mk (some 14) (.pick (.tmp 10) (.tmp 13) (.const (.bool false))) none [7, 10], AOper.mk (some 2) (.mv (.tmp 14)) none [11, 9, 0, 1, 2, 3, 4, 5, 6, 7, 8, 9, 10, 11]]
def l54 : AFn :=
  (AFn.mk 15 1 (ACode.seq (ACode.reg l54r0) (ACode.seq (ACode.reg l54r1) ACode.ret)) [ARes.tmp 2])
theorem l54_eq : lowFn Try.prog 54 = some l54 := by kernel_rfl
def l56r0 : List AOper :=
  [AOper.mk (some 2) (.mv (.const (.bool false))) none []]
def l56r1 : List AOper :=
  [AOper.mk (some 5) (.mv (.tmp 0)) none [], AOper.mk (some 6) (.len (.tmp 5)) none [0], AOper.mk (some 7) (.bin .gtr (.tmp 6) (.const (.int .i64 4))) none [1]]
def l56r2 : List AOper :=
  [AOper.mk (some 2) (.mv (.const (.bool false))) none []]
def l56r3 : List AOper :=
  [AOper.mk (some 8) (.mv (.tmp 0)) none [], AOper.mk (some 9) (.len (.tmp 8)) none [0], AOper.mk (some 10) (.mv (.const (.int .i64 0))) none []]
def l56r4 : List AOper :=
  [AOper.mk (some 11) (.bin .lss (.tmp 10) (.tmp 9)) none []]
def l56r5 : List AOper :=
  [AOper.mk (some 12) (.idxA 1 (.tmp 8) (.tmp 10)) none [], AOper.mk (some 13) (.load false 1 (.tmp 12)) none [0], AOper.mk (some 4) (.mv (.tmp 13)) none [1, 0, 1]]
def l56r6 : List AOper :=
  [AOper.mk (some 14) (.mv (.tmp 4)) none [], AOper.mk (some 15) (.call 67 [.tmp 14, .const (.int .i64 60)]) none [0], AOper.mk (some 16) (.un .not (.tmp 15)) none [1]]
def l56r7 : List AOper :=
  [AOper.mk (some 2) (.mv (.const (.bool false))) none []]
def l56r8 : List AOper :=
  [AOper.mk (some 17) (.bin .add (.tmp 10) (.const (.int .i64 1))) none [], AOper.mk (some 10) (.mv (.tmp 17)) none [0]]
def l56r9 : List AOper :=
  [AOper.mk (some 18) (.mv (.tmp 0)) none [], AOper.mk (some 19) (.call 57 [.tmp 18]) none [0], AOper.mk (some 20) (.bin .leq (.tmp 19) (.const (.int .i64 60))) none [1], AOper.mk (some 2) (.mv (.tmp 20)) none [2, 1, 0, 1, 2]]
def l56 : AFn :=
  (AFn.mk 21 1 (ACode.seq (ACode.reg l56r0) (ACode.seq (ACode.seq (ACode.reg l56r1) (ACode.cond (.tmp 7) (ACode.seq (ACode.reg l56r2) ACode.ret) ACode.skip)) (ACode.seq (ACode.seq (ACode.reg l56r3) (ACode.block 0 (ACode.loop (ACode.seq (ACode.reg l56r4) (ACode.seq (ACode.cond (.tmp 11) ACode.skip (ACode.exit 0)) (ACode.seq (ACode.block 1 (ACode.seq (ACode.reg l56r5) (ACode.seq (ACode.reg l56r6) (ACode.cond (.tmp 16) (ACode.seq (ACode.reg l56r7) ACode.ret) ACode.skip)))) (ACode.reg l56r8))))))) (ACode.seq (ACode.reg l56r9) ACode.ret)))) [ARes.tmp 2])
theorem l56_eq : lowFn Try.prog 56 = some l56 := by kernel_rfl
def l57r0 : List AOper :=
  [AOper.mk (some 2) (.mv (.const (.int .i64 0))) none []]
def l57r1 : List AOper :=
  [AOper.mk (some 3) (.mv (.const (.int .i64 1))) none []]
def l57r2 : List AOper :=
  [AOper.mk (some 6) (.mv (.tmp 0)) none [], AOper.mk (some 7) (.len (.tmp 6)) none [0], AOper.mk (some 8) (.mv (.const (.int .i64 0))) none []]
def l57r3 : List AOper :=
  [AOper.mk (some 9) (.bin .lss (.tmp 8) (.tmp 7)) none []]
def l57r4 : List AOper :=
  [AOper.mk (some 10) (.idxA 1 (.tmp 6) (.tmp 8)) none [], AOper.mk (some 11) (.load false 1 (.tmp 10)) none [0], AOper.mk (some 5) (.mv (.tmp 11)) none [1, 0, 1]]
def l57r5 : List AOper :=
  [AOper.mk (some 12) (.mv (.tmp 3)) none [], AOper.mk (some 13) (.mv (.tmp 5)) none [], AOper.mk (some 14) (.bin .mul (.tmp 12) (.tmp 13)) none [0, 1], AOper.mk (some 3) (.mv (.tmp 14)) none [2, 0, 1, 2]]
def l57r6 : List AOper :=
  [AOper.mk (some 15) (.bin .add (.tmp 8) (.const (.int .i64 1))) none [], AOper.mk (some 8) (.mv (.tmp 15)) none [0]]
def l57r7 : List AOper :=
  [AOper.mk (some 16) (.mv (.tmp 3)) none [], AOper.mk (some 2) (.mv (.tmp 16)) none [0, 0]]
def l57 : AFn :=
  (AFn.mk 17 1 (ACode.seq (ACode.reg l57r0) (ACode.seq (ACode.reg l57r1) (ACode.seq (ACode.seq (ACode.reg l57r2) (ACode.block 0 (ACode.loop (ACode.seq (ACode.reg l57r3) (ACode.seq (ACode.cond (.tmp 9) ACode.skip (ACode.exit 0)) (ACode.seq (ACode.block 1 (ACode.seq (ACode.reg l57r4) (ACode.reg l57r5))) (ACode.reg l57r6))))))) (ACode.seq (ACode.reg l57r7) ACode.ret)))) [ARes.tmp 2])
theorem l57_eq : lowFn Try.prog 57 = some l57 := by kernel_rfl
def l58r0 : List AOper :=
  [AOper.mk (some 1) (.box (.tmp 0)) none [], AOper.mk (some 2) (.mv (.const (.int .i64 0))) none []]
def l58r1 : List AOper :=
  [AOper.mk (some 3) (.fld 1 (.tmp 1)) none [], AOper.mk (some 4) (.load false 1 (.tmp 3)) none [0], AOper.mk (some 5) (.call 57 [.tmp 4]) none [1], AOper.mk (some 2) (.mv (.tmp 5)) none [2, 2, 0, 1, 2]]
def l58 : AFn :=
  (AFn.mk 6 1 (ACode.seq (ACode.reg l58r0) (ACode.seq (ACode.reg l58r1) ACode.ret)) [ARes.tmp 2])
theorem l58_eq : lowFn Try.prog 58 = some l58 := by kernel_rfl
def l63r0 : List AOper :=
  [AOper.mk (some 1) (.box (.tmp 0)) none [], AOper.mk (some 2) (.alloc [.int .i64 0, .slice none 0 0, .slice none 0 0]) none []]
def l63r1 : List AOper :=
  [AOper.mk (some 3) (.fld 1 (.tmp 1)) none [], AOper.mk (some 4) (.load false 1 (.tmp 3)) none [0], AOper.mk (some 5) (.call 70 [.tmp 4]) none [1], AOper.mk (some 6) (.bin .eql (.tmp 5) (.const (.int .i64 0))) none [2]]
def l63r2a : List AOper :=
  [AOper.mk (some 7) (.fld 1 (.tmp 1)) none [], AOper.mk (some 8) (.load false 1 (.tmp 7)) none [0], AOper.mk (some 9) (.fld 1 (.tmp 1)) none [], AOper.mk (some 10) (.load false 1 (.tmp 9)) none [2], AOper.mk (some 11) (.len (.tmp 10)) none [3], AOper.mk (some 12) (.mkslice 1 [.int .i64 0] (.tmp 11) (.tmp 11)) none [4, 4]]
def l63r2b : List AOper :=
  [AOper.mk (some 13) (.build [.int .i64 0, .slice none 0 0, .slice none 0 0] [(1, 1, .tmp 8), (2, 1, .tmp 12)]) none [1, 5], AOper.mk none (.store 3 (.tmp 2) (.tmp 13)) none [6, 0, 1, 2, 3, 4, 5, 6]]
def l63r2 : List AOper := l63r2a ++ l63r2b
def l63r3 : List AOper :=
  [AOper.mk (some 14) (.load true 3 (.tmp 1)) none [], AOper.mk none (.store 3 (.tmp 2) (.tmp 14)) none [0, 0]]
def l63 : AFn :=
  (AFn.mk 15 1 (ACode.seq (ACode.reg l63r0) (ACode.seq (ACode.seq (ACode.reg l63r1) (ACode.cond (.tmp 6) (ACode.seq (ACode.draw l63r2) ACode.ret) ACode.skip)) (ACode.seq (ACode.reg l63r3) ACode.ret))) [ARes.cell 2 true 3])
theorem l63_eq : lowFn Try.prog 63 = some l63 := by kernel_rfl
def l67r0 : List AOper :=
  [AOper.mk (some 4) (.mv (.const (.bool false))) none []]
def l67r1 : List AOper :=
  [AOper.mk (some 5) (.mv (.tmp 0)) none [], AOper.mk (some 6) (.bin .leq (.const (.int .i64 0)) (.tmp 5)) none [0], AOper.mk (some 7) (.mv (.tmp 6)) none [1], AOper.mk (some 8) (.mv (.tmp 0)) (some (7, true)) [2], AOper.mk (some 9) (.mv (.tmp 1)) (some (7, true)) [2], AOper.mk (some 10) (.bin .leq (.tmp 8) (.tmp 9)) (some (7, true)) [3, 4, 2], AOper.mk (some 11) (.pick (.tmp 7) (.tmp 10) (.const (.bool false))) none [2, 5], AOper.mk (some 4) (.mv (.tmp 11)) none [6, 2, 0, 1, 2, 3, 4, 5, 6]]
def l67 : AFn :=
  (AFn.mk 12 2 (ACode.seq (ACode.reg l67r0) (ACode.seq (ACode.reg l67r1) ACode.ret)) [ARes.tmp 4])
theorem l67_eq : lowFn Try.prog 67 = some l67 := by kernel_rfl
def l69r0 : List AOper :=
  [AOper.mk (some 6) (.mv (.const (.bool false))) none []]
def l69r1 : List AOper :=
  [AOper.mk (some 7) (.mv (.const (.int .i64 0))) none []]
def l69r2 : List AOper :=
  [AOper.mk (some 8) (.mv (.tmp 7)) none [], AOper.mk (some 9) (.mv (.tmp 0)) none [], AOper.mk (some 10) (.len (.tmp 9)) none [1], AOper.mk (some 11) (.bin .lss (.tmp 8) (.tmp 10)) none [0, 2]]
def l69r3 : List AOper :=
  [AOper.mk (some 14) (.mv (.tmp 0)) none [], AOper.mk (some 15) (.mv (.tmp 7)) none [], AOper.mk (some 16) (.idxA 1 (.tmp 14) (.tmp 15)) none [0, 1], AOper.mk (some 17) (.load false 1 (.tmp 16)) none [2], AOper.mk (some 18) (.mv (.tmp 1)) none [], AOper.mk (some 19) (.mv (.tmp 2)) none [], AOper.mk (some 20) (.call 52 [.tmp 17, .tmp 18, .tmp 19]) none [3, 4, 5], AOper.mk (some 21) (.un .not (.tmp 20)) none [6]]
def l69r4 : List AOper :=
  [AOper.mk (some 6) (.mv (.const (.bool false))) none []]
def l69r5 : List AOper :=
  [AOper.mk (some 12) (.mv (.tmp 7)) none [], AOper.mk (some 13) (.bin .add (.tmp 12) (.const (.int .i64 1))) none [0], AOper.mk (some 7) (.mv (.tmp 13)) none [1, 0, 1]]
def l69r6 : List AOper :=
  [AOper.mk (some 6) (.mv (.const (.bool true))) none []]
def l69 : AFn :=
  (AFn.mk 22 3 (ACode.seq (ACode.reg l69r0) (ACode.seq (ACode.seq (ACode.reg l69r1) (ACode.block 0 (ACode.loop (ACode.seq (ACode.seq (ACode.reg l69r2) (ACode.cond (.tmp 11) ACode.skip (ACode.exit 0))) (ACode.seq (ACode.block 1 (ACode.seq (ACode.reg l69r3) (ACode.cond (.tmp 21) (ACode.seq (ACode.reg l69r4) ACode.ret) ACode.skip))) (ACode.reg l69r5)))))) (ACode.seq (ACode.reg l69r6) ACode.ret))) [ARes.tmp 6])
theorem l69_eq : lowFn Try.prog 69 = some l69 := by kernel_rfl
def l70r0 : List AOper :=
  [AOper.mk (some 2) (.mv (.const (.int .i64 0))) none []]
def l70r1 : List AOper :=
  [AOper.mk (some 3) (.mv (.const (.int .i64 1))) none []]
def l70r2 : List AOper :=
  [AOper.mk (some 4) (.mv (.const (.int .i64 0))) none []]
def l70r3 : List AOper :=
  [AOper.mk (some 5) (.mv (.tmp 4)) none [], AOper.mk (some 6) (.mv (.tmp 0)) none [], AOper.mk (some 7) (.len (.tmp 6)) none [1], AOper.mk (some 8) (.bin .lss (.tmp 5) (.tmp 7)) none [0, 2]]
def l70r4 : List AOper :=
  [AOper.mk (some 11) (.mv (.tmp 3)) none [], AOper.mk (some 12) (.mv (.tmp 0)) none [], AOper.mk (some 13) (.mv (.tmp 4)) none [], AOper.mk (some 14) (.idxA 1 (.tmp 12) (.tmp 13)) none [1, 2], AOper.mk (some 15) (.load false 1 (.tmp 14)) none [3], AOper.mk (some 16) (.bin .mul (.tmp 11) (.tmp 15)) none [0, 4], AOper.mk (some 3) (.mv (.tmp 16)) none [5, 0, 1, 2, 3, 4, 5]]
def l70r5 : List AOper :=
  [AOper.mk (some 9) (.mv (.tmp 4)) none [], AOper.mk (some 10) (.bin .add (.tmp 9) (.const (.int .i64 1))) none [0], AOper.mk (some 4) (.mv (.tmp 10)) none [1, 0, 1]]
def l70r6 : List AOper :=
  [AOper.mk (some 17) (.mv (.tmp 3)) none [], AOper.mk (some 2) (.mv (.tmp 17)) none [0, 0]]
def l70 : AFn :=
  (AFn.mk 18 1 (ACode.seq (ACode.reg l70r0) (ACode.seq (ACode.reg l70r1) (ACode.seq (ACode.seq (ACode.reg l70r2) (ACode.block 0 (ACode.loop (ACode.seq (ACode.seq (ACode.reg l70r3) (ACode.cond (.tmp 8) ACode.skip (ACode.exit 0))) (ACode.seq (ACode.block 1 (ACode.reg l70r4)) (ACode.reg l70r5)))))) (ACode.seq (ACode.reg l70r6) ACode.ret)))) [ARes.tmp 2])
theorem l70_eq : lowFn Try.prog 70 = some l70 := by kernel_rfl
def l71r0 : List AOper :=
  [AOper.mk (some 1) (.box (.tmp 0)) none [], AOper.mk (some 2) (.mv (.const (.slice none 0 0))) none []]
def l71r1 : List AOper :=
  [AOper.mk (some 5) (.bslice 1 [.int .i64 0] [] 0) none [], AOper.mk (some 3) (.mv (.tmp 5)) none [0, 0]]
def l71r2 : List AOper :=
  [AOper.mk (some 4) (.mv (.const (.int .i64 0))) none []]
def l71r3 : List AOper :=
  [AOper.mk (some 6) (.mv (.tmp 4)) none [], AOper.mk (some 7) (.fld 1 (.tmp 1)) none [], AOper.mk (some 8) (.load false 1 (.tmp 7)) none [1], AOper.mk (some 9) (.call 70 [.tmp 8]) none [2], AOper.mk (some 10) (.bin .lss (.tmp 6) (.tmp 9)) none [0, 3]]
def l71r4a : List AOper :=
  [AOper.mk (some 13) (.mv (.tmp 3)) none [], AOper.mk (some 14) (.load true 3 (.tmp 1)) none [], AOper.mk (some 15) (.fld 1 (.tmp 1)) none [], AOper.mk (some 16) (.load false 1 (.tmp 15)) none [2], AOper.mk (some 17) (.mv (.tmp 4)) none [], AOper.mk (some 18) (.call 93 [.tmp 16, .tmp 17]) none [3, 4], AOper.mk (some 19) (.call 92 [.tmp 14, .tmp 18]) none [1, 5, 5], AOper.mk (some 20) (.bslice 1 [.int .i64 0] [(0, .tmp 19)] 1) none [6]]
def l71r4b : List AOper :=
  [AOper.mk (some 21) (.append 1 (.tmp 13) (.tmp 20)) none [0, 7, 6], AOper.mk (some 3) (.mv (.tmp 21)) none [8, 8, 0, 1, 2, 3, 4, 5, 6, 7, 8]]
def l71r4 : List AOper := l71r4a ++ l71r4b
def l71r5 : List AOper :=
  [AOper.mk (some 11) (.mv (.tmp 4)) none [], AOper.mk (some 12) (.bin .add (.tmp 11) (.const (.int .i64 1))) none [0], AOper.mk (some 4) (.mv (.tmp 12)) none [1, 0, 1]]
def l71r6 : List AOper :=
  [AOper.mk (some 22) (.mv (.tmp 3)) none [], AOper.mk (some 2) (.mv (.tmp 22)) none [0, 0]]
def l71 : AFn :=
  (AFn.mk 23 1 (ACode.seq (ACode.reg l71r0) (ACode.seq (ACode.reg l71r1) (ACode.seq (ACode.seq (ACode.reg l71r2) (ACode.block 0 (ACode.loop (ACode.seq (ACode.seq (ACode.reg l71r3) (ACode.cond (.tmp 10) ACode.skip (ACode.exit 0))) (ACode.seq (ACode.block 1 (ACode.draw l71r4)) (ACode.reg l71r5)))))) (ACode.seq (ACode.reg l71r6) ACode.ret)))) [ARes.tmp 2])
theorem l71_eq : lowFn Try.prog 71 = some l71 := by kernel_rfl
def l72r0 : List AOper :=
  [AOper.mk (some 2) (.alloc [.int .i64 0, .int .i64 0, .int .i64 0]) none []]
def l72r1 : List AOper :=
  [AOper.mk (some 5) (.mv (.tmp 0)) none [], AOper.mk (some 6) (.len (.tmp 5)) none [0]]
def l72r2 : List AOper :=
  [AOper.mk (some 8) (.bin .eql (.tmp 6) (.const (.int .i64 0))) none [], AOper.mk (some 7) (.mv (.tmp 8)) none [0]]
def l72r3 : List AOper :=
  [AOper.mk (some 9) (.build [.int .i64 0, .int .i64 0, .int .i64 0] [(0, 1, .const (.int .i64 0)), (1, 1, .const (.int .i64 0)), (2, 1, .const (.int .i64 1))]) none [], AOper.mk none (.store 3 (.tmp 2) (.tmp 9)) none [0, 0]]
def l72r4 : List AOper :=
  [AOper.mk (some 11) (.bin .eql (.tmp 6) (.const (.int .i64 1))) none [], AOper.mk (some 10) (.mv (.tmp 11)) none [0]]
def l72r5a : List AOper :=
  [AOper.mk (some 12) (.mv (.tmp 0)) none [], AOper.mk (some 13) (.idxA 1 (.tmp 12) (.const (.int .i64 0))) none [0], AOper.mk (some 14) (.load false 1 (.tmp 13)) none [1], AOper.mk (some 15) (.mv (.tmp 0)) none [], AOper.mk (some 16) (.idxA 1 (.tmp 15) (.const (.int .i64 0))) none [3], AOper.mk (some 17) (.load false 1 (.tmp 16)) none [4], AOper.mk (some 18) (.bin .add (.tmp 17) (.const (.int .i64 1))) none [5]]
def l72r5b : List AOper :=
  [AOper.mk (some 19) (.build [.int .i64 0, .int .i64 0, .int .i64 0] [(0, 1, .tmp 14), (1, 1, .tmp 18), (2, 1, .const (.int .i64 1))]) none [2, 6], AOper.mk none (.store 3 (.tmp 2) (.tmp 19)) none [7, 0, 1, 2, 3, 4, 5, 6, 7]]
def l72r5 : List AOper := l72r5a ++ l72r5b
def l72r6a : List AOper :=
  [AOper.mk (some 20) (.mv (.tmp 0)) none [], AOper.mk (some 21) (.idxA 1 (.tmp 20) (.const (.int .i64 1))) none [0], AOper.mk (some 22) (.load false 1 (.tmp 21)) none [1], AOper.mk (some 23) (.mv (.tmp 0)) none [], AOper.mk (some 24) (.idxA 1 (.tmp 23) (.const (.int .i64 0))) none [3], AOper.mk (some 25) (.load false 1 (.tmp 24)) none [4]]
def l72r6b : List AOper :=
  [AOper.mk (some 26) (.bin .sub (.tmp 22) (.tmp 25)) none [2, 5], AOper.mk (some 3) (.mv (.tmp 26)) none [6, 0, 1, 2, 3, 4, 5, 6]]
def l72r6 : List AOper := l72r6a ++ l72r6b
def l72r7 : List AOper :=
  [AOper.mk (some 27) (.mv (.tmp 0)) none [], AOper.mk (some 28) (.mv (.tmp 0)) none [], AOper.mk (some 29) (.len (.tmp 28)) none [1], AOper.mk (some 30) (.bin .sub (.tmp 29) (.const (.int .i64 1))) none [2], AOper.mk (some 31) (.idxA 1 (.tmp 27) (.tmp 30)) none [0, 3], AOper.mk (some 32) (.load false 1 (.tmp 31)) none [4], AOper.mk (some 33) (.bin .add (.tmp 32) (.const (.int .i64 1))) none [5], AOper.mk (some 4) (.mv (.tmp 33)) none [6, 0, 1, 2, 3, 4, 5, 6]]
def l72r8 : List AOper :=
  [AOper.mk (some 34) (.mv (.tmp 3)) none [], AOper.mk (some 35) (.bin .lss (.tmp 34) (.const (.int .i64 0))) none [0]]
def l72r9 : List AOper :=
  [AOper.mk (some 36) (.mv (.tmp 0)) none [], AOper.mk (some 37) (.mv (.tmp 0)) none [], AOper.mk (some 38) (.len (.tmp 37)) none [1], AOper.mk (some 39) (.bin .sub (.tmp 38) (.const (.int .i64 1))) none [2], AOper.mk (some 40) (.idxA 1 (.tmp 36) (.tmp 39)) none [0, 3], AOper.mk (some 41) (.load false 1 (.tmp 40)) none [4], AOper.mk (some 42) (.bin .sub (.tmp 41) (.const (.int .i64 1))) none [5], AOper.mk (some 4) (.mv (.tmp 42)) none [6, 0, 1, 2, 3, 4, 5, 6]]
def l72r10 : List AOper :=
  [AOper.mk (some 43) (.mv (.tmp 0)) none [], AOper.mk (some 44) (.idxA 1 (.tmp 43) (.const (.int .i64 0))) none [0], AOper.mk (some 45) (.load false 1 (.tmp 44)) none [1], AOper.mk (some 46) (.mv (.tmp 4)) none [], AOper.mk (some 47) (.mv (.tmp 3)) none [], AOper.mk (some 48) (.build [.int .i64 0, .int .i64 0, .int .i64 0] [(0, 1, .tmp 45), (1, 1, .tmp 46), (2, 1, .tmp 47)]) none [2, 3, 4], AOper.mk none (.store 3 (.tmp 2) (.tmp 48)) none [5, 0, 1, 2, 3, 4, 5]]
def l72 : AFn :=
  (AFn.mk 49 1 (ACode.seq (ACode.reg l72r0) (ACode.seq (ACode.seq (ACode.reg l72r1) (ACode.block 0 (ACode.seq (ACode.reg l72r2) (ACode.cond (.tmp 7) (ACode.seq (ACode.reg l72r3) ACode.ret) (ACode.seq (ACode.reg l72r4) (ACode.cond (.tmp 10) (ACode.seq (ACode.draw l72r5) ACode.ret) ACode.skip)))))) (ACode.seq (ACode.draw l72r6) (ACode.seq (ACode.reg l72r7) (ACode.seq (ACode.seq (ACode.reg l72r8) (ACode.cond (.tmp 35) (ACode.reg l72r9) ACode.skip)) (ACode.seq (ACode.reg l72r10) ACode.ret)))))) [ARes.cell 2 true 3])
theorem l72_eq : lowFn Try.prog 72 = some l72 := by kernel_rfl
def l73r0 : List AOper :=
  [AOper.mk (some 3) (.box (.tmp 1)) none [], AOper.mk (some 4) (.mv (.const (.slice none 0 0))) none []]
def l73r1 : List AOper :=
  [AOper.mk (some 5) (.mv (.const (.int .i64 0))) none []]
def l73r2 : List AOper :=
  [AOper.mk (some 7) (.mv (.tmp 0)) none [], AOper.mk (some 6) (.mv (.tmp 7)) none [0, 0]]
def l73r3 : List AOper :=
  [AOper.mk (some 8) (.fld 2 (.tmp 3)) none [], AOper.mk (some 9) (.load false 1 (.tmp 8)) none [0], AOper.mk (some 10) (.bin .lss (.tmp 9) (.const (.int .i64 0))) none [1]]
def l73r4 : List AOper :=
  [AOper.mk (some 11) (.mv (.tmp 0)) none [], AOper.mk (some 12) (.bin .sub (.tmp 11) (.const (.int .i64 1))) none [0], AOper.mk (some 5) (.mv (.tmp 12)) none [1, 0, 1]]
def l73r5 : List AOper :=
  [AOper.mk (some 6) (.mv (.const (.int .i64 (-1)))) none []]
def l73r6 : List AOper :=
  [AOper.mk (some 13) (.fld 3 (.tmp 3)) none [], AOper.mk (some 14) (.load false 1 (.tmp 13)) none [0]]
def l73r7 : List AOper :=
  [AOper.mk (some 15) (.mv (.tmp 0)) none [], AOper.mk (some 16) (.fld 0 (.tmp 3)) none [], AOper.mk (some 17) (.load false 1 (.tmp 16)) none [1], AOper.mk (some 18) (.fld 2 (.tmp 3)) none [], AOper.mk (some 19) (.load false 1 (.tmp 18)) none [3], AOper.mk (some 20) (.call 94 [.tmp 15, .tmp 17, .tmp 19]) none [0, 2, 4], AOper.mk (some 5) (.mv (.tmp 20)) none [5, 5, 0, 1, 2, 3, 4, 5]]
def l73r8 : List AOper :=
  [AOper.mk (some 21) (.fld 4 (.tmp 3)) none [], AOper.mk (some 22) (.load false 1 (.tmp 21)) none [0]]
def l73r9 : List AOper :=
  [AOper.mk (some 23) (.mv (.tmp 0)) none [], AOper.mk (some 24) (.fld 1 (.tmp 3)) none [], AOper.mk (some 25) (.load false 1 (.tmp 24)) none [1], AOper.mk (some 26) (.fld 2 (.tmp 3)) none [], AOper.mk (some 27) (.load false 1 (.tmp 26)) none [3], AOper.mk (some 28) (.call 94 [.tmp 23, .tmp 25, .tmp 27]) none [0, 2, 4], AOper.mk (some 6) (.mv (.tmp 28)) none [5, 5, 0, 1, 2, 3, 4, 5]]
def l73r10 : List AOper :=
  [AOper.mk (some 29) (.mv (.tmp 5)) none [], AOper.mk (some 30) (.mv (.tmp 6)) none [], AOper.mk (some 31) (.fld 2 (.tmp 3)) none [], AOper.mk (some 32) (.load false 1 (.tmp 31)) none [2], AOper.mk (some 33) (.build [.int .i64 0, .int .i64 0, .int .i64 0] [(0, 1, .tmp 29), (1, 1, .tmp 30), (2, 1, .tmp 32)]) none [0, 1, 3], AOper.mk (some 34) (.call 74 [.tmp 33]) none [4], AOper.mk (some 4) (.mv (.tmp 34)) none [5, 5, 0, 1, 2, 3, 4, 5]]
def l73 : AFn :=
  (AFn.mk 35 2 (ACode.seq (ACode.reg l73r0) (ACode.seq (ACode.reg l73r1) (ACode.seq (ACode.reg l73r2) (ACode.seq (ACode.seq (ACode.reg l73r3) (ACode.cond (.tmp 10) (ACode.seq (ACode.reg l73r4) (ACode.reg l73r5)) ACode.skip)) (ACode.seq (ACode.seq (ACode.reg l73r6) (ACode.cond (.tmp 14) (ACode.reg l73r7) ACode.skip)) (ACode.seq (ACode.seq (ACode.reg l73r8) (ACode.cond (.tmp 22) (ACode.reg l73r9) ACode.skip)) (ACode.seq (ACode.reg l73r10) ACode.ret))))))) [ARes.tmp 4])
theorem l73_eq : lowFn Try.prog 73 = some l73 := by kernel_rfl
def l74r0 : List AOper :=
  [AOper.mk (some 1) (.box (.tmp 0)) none [], AOper.mk (some 2) (.mv (.const (.slice none 0 0))) none []]
def l74r1 : List AOper :=
  [AOper.mk (some 5) (.bslice 1 [.int .i64 0] [] 0) none [], AOper.mk (some 3) (.mv (.tmp 5)) none [0, 0]]
def l74r2 : List AOper :=
  [AOper.mk (some 6) (.fld 0 (.tmp 1)) none [], AOper.mk (some 7) (.load false 1 (.tmp 6)) none [0], AOper.mk (some 4) (.mv (.tmp 7)) none [1, 0, 1]]
def l74r3 : List AOper :=
  [AOper.mk (some 8) (.fld 2 (.tmp 1)) none [], AOper.mk (some 9) (.load false 1 (.tmp 8)) none [0], AOper.mk (some 10) (.bin .gtr (.tmp 9) (.const (.int .i64 0))) none [1], AOper.mk (some 11) (.mv (.tmp 10)) none [2], AOper.mk (some 12) (.mv (.tmp 4)) (some (11, true)) [3], AOper.mk (some 13) (.fld 1 (.tmp 1)) (some (11, true)) [3], AOper.mk (some 14) (.load false 1 (.tmp 13)) (some (11, true)) [5, 3], AOper.mk (some 15) (.bin .lss (.tmp 12) (.tmp 14)) (some (11, true)) [4, 6, 3], AOper.mk (some 16) (.pick (.tmp 11) (.tmp 15) (.const (.bool false))) none [3, 7], AOper.mk (some 17) (.mv (.tmp 16)) none [8, 3], AOper.mk (some 18) (.fld 2 (.tmp 1)) (some (17, false)) [9], AOper.mk (some 19) (.load false 1 (.tmp 18)) (some (17, false)) [10, 9], AOper.mk (some 20) (.bin .lss (.tmp 19) (.const (.int .i64 0))) (some (17, false)) [11, 9], AOper.mk (some 21) (.mv (.tmp 20)) (some (17, false)) [12, 9, 9], AOper.mk (some 22) (.mv (.tmp 4)) (some (21, true)) [13], AOper.mk (some 23) (.fld 1 (.tmp 1)) (some (21, true)) [13], AOper.mk (some 24) (.load false 1 (.tmp 23)) (some (21, true)) [15, 13], AOper.mk (some 25) (.bin .gtr (.tmp 22) (.tmp 24)) (some (21, true)) [14, 16, 13], AOper.mk (some 26) (.pick (.tmp 21) (.tmp 25) (.const (.bool false))) (some (17, false)) [13, 17, 9], AOper.mk (some 27) (.pick (.tmp 17) (.const (.bool true)) (.tmp 26)) none [9, 18]]
def l74r4 : List AOper :=
  [AOper.mk (some 32) (.mv (.tmp 3)) none [], AOper.mk (some 33) (.mv (.tmp 4)) none [], AOper.mk (some 34) (.bslice 1 [.int .i64 0] [(0, .tmp 33)] 1) none [1], AOper.mk (some 35) (.append 1 (.tmp 32) (.tmp 34)) none [0, 2], AOper.mk (some 3) (.mv (.tmp 35)) none [3, 3, 0, 1, 2, 3]]
def l74r5 : List AOper :=
  [AOper.mk (some 28) (.mv (.tmp 4)) none [], AOper.mk (some 29) (.fld 2 (.tmp 1)) none [], AOper.mk (some 30) (.load false 1 (.tmp 29)) none [1], AOper.mk (some 31) (.bin .add (.tmp 28) (.tmp 30)) none [0, 2], AOper.mk (some 4) (.mv (.tmp 31)) none [3, 0, 1, 2, 3]]
def l74r6 : List AOper :=
  [AOper.mk (some 36) (.mv (.tmp 3)) none [], AOper.mk (some 2) (.mv (.tmp 36)) none [0, 0]]
def l74 : AFn :=
  (AFn.mk 37 1 (ACode.seq (ACode.reg l74r0) (ACode.seq (ACode.reg l74r1) (ACode.seq (ACode.seq (ACode.reg l74r2) (ACode.block 0 (ACode.loop (ACode.seq (ACode.seq (ACode.reg l74r3) (ACode.cond (.tmp 27) ACode.skip (ACode.exit 0))) (ACode.seq (ACode.block 1 (ACode.reg l74r4)) (ACode.reg l74r5)))))) (ACode.seq (ACode.reg l74r6) ACode.ret)))) [ARes.tmp 2])
theorem l74_eq : lowFn Try.prog 74 = some l74 := by kernel_rfl
def l75r0 : List AOper :=
  [AOper.mk (some 4) (.mv (.const (.bool false))) none []]
def l75r1 : List AOper :=
  [AOper.mk (some 5) (.mv (.tmp 0)) none [], AOper.mk (some 6) (.call 95 [.tmp 5, .const (.int .i64 100)]) none [0], AOper.mk (some 7) (.mv (.tmp 6)) none [1, 1], AOper.mk (some 8) (.mv (.tmp 1)) (some (7, true)) [2], AOper.mk (some 9) (.mv (.tmp 8)) (some (7, true)) [3, 2, 2], AOper.mk (some 10) (.mv (.tmp 0)) (some (9, false)) [4], AOper.mk (some 11) (.bin .eql (.tmp 10) (.const (.int .i64 0))) (some (9, false)) [5, 4], AOper.mk (some 12) (.pick (.tmp 9) (.const (.bool true)) (.tmp 11)) (some (7, true)) [4, 6, 2], AOper.mk (some 13) (.pick (.tmp 7) (.tmp 12) (.const (.bool false))) none [2, 7], AOper.mk (some 4) (.mv (.tmp 13)) none [8, 4, 0, 1, 2, 3, 4, 5, 6, 7, 8]]
def l75 : AFn :=
  (AFn.mk 14 2 (ACode.seq (ACode.reg l75r0) (ACode.seq (ACode.reg l75r1) ACode.ret)) [ARes.tmp 4])
theorem l75_eq : lowFn Try.prog 75 = some l75 := by kernel_rfl
def l76r0 : List AOper :=
  [AOper.mk (some 2) (.mv (.const (.bool false))) none []]
def l76r1 : List AOper :=
  [AOper.mk (some 3) (.mv (.tmp 0)) none [], AOper.mk (some 4) (.call 95 [.tmp 3, .const (.int .i64 200)]) none [0], AOper.mk (some 5) (.mv (.tmp 4)) none [1, 1], AOper.mk (some 6) (.mv (.tmp 0)) (some (5, true)) [2], AOper.mk (some 7) (.bin .neq (.tmp 6) (.const (.int .i64 0))) (some (5, true)) [3, 2], AOper.mk (some 8) (.pick (.tmp 5) (.tmp 7) (.const (.bool false))) none [2, 4], AOper.mk (some 2) (.mv (.tmp 8)) none [5, 2, 0, 1, 2, 3, 4, 5]]
def l76 : AFn :=
  (AFn.mk 9 1 (ACode.seq (ACode.reg l76r0) (ACode.seq (ACode.reg l76r1) ACode.ret)) [ARes.tmp 2])
theorem l76_eq : lowFn Try.prog 76 = some l76 := by kernel_rfl
def l77r0 : List AOper :=
  [AOper.mk (some 8) (.mv (.const (.int .i64 0))) none []]
def l77r1 : List AOper :=
  [AOper.mk (some 9) (.mv (.tmp 0)) none [], AOper.mk (some 10) (.bin .lss (.tmp 9) (.const (.int .i64 0))) none [0]]
def l77r2 : List AOper :=
  [AOper.mk (some 11) (.mv (.tmp 0)) none [], AOper.mk (some 12) (.mv (.tmp 1)) none [], AOper.mk (some 13) (.bin .add (.tmp 11) (.tmp 12)) none [0, 1], AOper.mk (some 0) (.mv (.tmp 13)) none [2, 0, 1, 2]]
def l77r3 : List AOper :=
  [AOper.mk (some 14) (.mv (.tmp 0)) none [], AOper.mk (some 15) (.mv (.tmp 2)) none [], AOper.mk (some 16) (.minmax true (.tmp 14) (.tmp 15)) none [0, 1], AOper.mk (some 17) (.mv (.tmp 3)) none [], AOper.mk (some 18) (.minmax false (.tmp 16) (.tmp 17)) none [2, 3], AOper.mk (some 8) (.mv (.tmp 18)) none [4, 0, 1, 2, 3, 4]]
def l77 : AFn :=
  (AFn.mk 19 4 (ACode.seq (ACode.reg l77r0) (ACode.seq (ACode.seq (ACode.reg l77r1) (ACode.cond (.tmp 10) (ACode.reg l77r2) ACode.skip)) (ACode.seq (ACode.reg l77r3) ACode.ret))) [ARes.tmp 8])
theorem l77_eq : lowFn Try.prog 77 = some l77 := by kernel_rfl
def l79r0 : List AOper :=
  [AOper.mk (some 4) (.mv (.const (.bool false))) none []]
def l79r1 : List AOper :=
  [AOper.mk (some 7) (.mv (.tmp 0)) none [], AOper.mk (some 8) (.len (.tmp 7)) none [0], AOper.mk (some 9) (.mv (.tmp 1)) none [], AOper.mk (some 10) (.bin .neq (.tmp 8) (.tmp 9)) none [1, 2]]
def l79r2 : List AOper :=
  [AOper.mk (some 4) (.mv (.const (.bool false))) none []]
def l79r3 : List AOper :=
  [AOper.mk (some 11) (.mv (.tmp 0)) none [], AOper.mk (some 12) (.len (.tmp 11)) none [0], AOper.mk (some 13) (.mv (.const (.int .i64 0))) none []]
def l79r4 : List AOper :=
  [AOper.mk (some 14) (.bin .lss (.tmp 13) (.tmp 12)) none []]
def l79r5 : List AOper :=
  [AOper.mk (some 15) (.idxA 1 (.tmp 11) (.tmp 13)) none [], AOper.mk (some 16) (.load false 1 (.tmp 15)) none [0], AOper.mk (some 6) (.mv (.tmp 16)) none [1, 0, 1]]
def l79r6 : List AOper :=
  [AOper.mk (some 17) (.mv (.tmp 6)) none [], AOper.mk (some 18) (.call 95 [.tmp 17, .const (.int .i64 60)]) none [0], AOper.mk (some 19) (.un .not (.tmp 18)) none [1]]
def l79r7 : List AOper :=
  [AOper.mk (some 4) (.mv (.const (.bool false))) none []]
def l79r8 : List AOper :=
  [AOper.mk (some 20) (.bin .add (.tmp 13) (.const (.int .i64 1))) none [], AOper.mk (some 13) (.mv (.tmp 20)) none [0]]
def l79r9 : List AOper :=
  [AOper.mk (some 4) (.mv (.const (.bool true))) none []]
def l79 : AFn :=
  (AFn.mk 21 2 (ACode.seq (ACode.reg l79r0) (ACode.seq (ACode.seq (ACode.reg l79r1) (ACode.cond (.tmp 10) (ACode.seq (ACode.reg l79r2) ACode.ret) ACode.skip)) (ACode.seq (ACode.seq (ACode.reg l79r3) (ACode.block 0 (ACode.loop (ACode.seq (ACode.reg l79r4) (ACode.seq (ACode.cond (.tmp 14) ACode.skip (ACode.exit 0)) (ACode.seq (ACode.block 1 (ACode.seq (ACode.reg l79r5) (ACode.seq (ACode.reg l79r6) (ACode.cond (.tmp 19) (ACode.seq (ACode.reg l79r7) ACode.ret) ACode.skip)))) (ACode.reg l79r8))))))) (ACode.seq (ACode.reg l79r9) ACode.ret)))) [ARes.tmp 4])
theorem l79_eq : lowFn Try.prog 79 = some l79 := by kernel_rfl
def l80r0 : List AOper :=
  [AOper.mk (some 1) (.box (.tmp 0)) none [], AOper.mk (some 2) (.mv (.const (.int .i64 0))) none [], AOper.mk (some 3) (.mv (.const (.int .i64 0))) none [1]]
def l80r1 : List AOper :=
  [AOper.mk (some 9) (.load true 3 (.tmp 1)) none [], AOper.mk (some 10) (.call 58 [.tmp 9]) none [0], AOper.mk (some 11) (.bin .eql (.tmp 10) (.const (.int .i64 0))) none [1]]
def l80r2 : List AOper :=
  [AOper.mk (some 2) (.mv (.const (.int .i64 (-1)))) none [], AOper.mk (some 3) (.mv (.const (.int .i64 (-1)))) none [0, 0]]
def l80r3a : List AOper :=
  [AOper.mk (some 12) (.fld 0 (.tmp 1)) none [], AOper.mk (some 13) (.load false 1 (.tmp 12)) none [0], AOper.mk (some 14) (.fld 0 (.tmp 1)) none [], AOper.mk (some 15) (.load false 1 (.tmp 14)) none [2], AOper.mk (some 4) (.mv (.tmp 13)) none [1, 0, 1]]
def l80r3b : List AOper :=
  [AOper.mk (some 5) (.mv (.tmp 15)) none [3, 4, 0, 1, 2, 3, 4]]
def l80r3 : List AOper := l80r3a ++ l80r3b
def l80r4 : List AOper :=
  [AOper.mk (some 16) (.fld 2 (.tmp 1)) none [], AOper.mk (some 17) (.load false 1 (.tmp 16)) none [0], AOper.mk (some 18) (.len (.tmp 17)) none [1], AOper.mk (some 19) (.mv (.const (.int .i64 0))) none []]
def l80r5 : List AOper :=
  [AOper.mk (some 20) (.bin .lss (.tmp 19) (.tmp 18)) none []]
def l80r6 : List AOper :=
  [AOper.mk (some 21) (.mv (.tmp 19)) none [], AOper.mk (some 22) (.idxA 1 (.tmp 17) (.tmp 19)) none [], AOper.mk (some 23) (.load false 1 (.tmp 22)) none [1], AOper.mk (some 6) (.mv (.tmp 21)) none [0, 0, 1, 2], AOper.mk (some 7) (.mv (.tmp 23)) none [2, 3, 0, 1, 2, 3]]
def l80r7 : List AOper :=
  [AOper.mk (some 24) (.fld 1 (.tmp 1)) none [], AOper.mk (some 25) (.load false 1 (.tmp 24)) none [0], AOper.mk (some 26) (.mv (.tmp 6)) none [], AOper.mk (some 27) (.idxA 1 (.tmp 25) (.tmp 26)) none [1, 2], AOper.mk (some 28) (.load false 1 (.tmp 27)) none [3], AOper.mk (some 29) (.bin .sub (.tmp 28) (.const (.int .i64 1))) none [4], AOper.mk (some 30) (.mv (.tmp 7)) none [], AOper.mk (some 31) (.bin .mul (.tmp 29) (.tmp 30)) none [5, 6], AOper.mk (some 8) (.mv (.tmp 31)) none [7, 0, 1, 2, 3, 4, 5, 6, 7]]
def l80r8 : List AOper :=
  [AOper.mk (some 32) (.mv (.tmp 4)) none [], AOper.mk (some 33) (.mv (.tmp 8)) none [], AOper.mk (some 34) (.minmax false (.tmp 33) (.const (.int .i64 0))) none [1], AOper.mk (some 35) (.bin .add (.tmp 32) (.tmp 34)) none [0, 2], AOper.mk (some 4) (.mv (.tmp 35)) none [3, 0, 1, 2, 3]]
def l80r9 : List AOper :=
  [AOper.mk (some 36) (.mv (.tmp 5)) none [], AOper.mk (some 37) (.mv (.tmp 8)) none [], AOper.mk (some 38) (.minmax true (.tmp 37) (.const (.int .i64 0))) none [1], AOper.mk (some 39) (.bin .add (.tmp 36) (.tmp 38)) none [0, 2], AOper.mk (some 5) (.mv (.tmp 39)) none [3, 0, 1, 2, 3]]
def l80r10 : List AOper :=
  [AOper.mk (some 40) (.bin .add (.tmp 19) (.const (.int .i64 1))) none [], AOper.mk (some 19) (.mv (.tmp 40)) none [0]]
def l80r11 : List AOper :=
  [AOper.mk (some 41) (.mv (.tmp 4)) none [], AOper.mk (some 42) (.mv (.tmp 5)) none [], AOper.mk (some 2) (.mv (.tmp 41)) none [0, 0], AOper.mk (some 3) (.mv (.tmp 42)) none [1, 2, 0, 1, 2]]
def l80 : AFn :=
  (AFn.mk 43 1 (ACode.seq (ACode.reg l80r0) (ACode.seq (ACode.seq (ACode.reg l80r1) (ACode.cond (.tmp 11) (ACode.seq (ACode.reg l80r2) ACode.ret) ACode.skip)) (ACode.seq (ACode.draw l80r3) (ACode.seq (ACode.seq (ACode.reg l80r4) (ACode.block 0 (ACode.loop (ACode.seq (ACode.reg l80r5) (ACode.seq (ACode.cond (.tmp 20) ACode.skip (ACode.exit 0)) (ACode.seq (ACode.block 1 (ACode.seq (ACode.reg l80r6) (ACode.seq (ACode.reg l80r7) (ACode.seq (ACode.reg l80r8) (ACode.reg l80r9))))) (ACode.reg l80r10))))))) (ACode.seq (ACode.reg l80r11) ACode.ret))))) [ARes.tmp 2, ARes.tmp 3])
theorem l80_eq : lowFn Try.prog 80 = some l80 := by kernel_rfl
def l82r0 : List AOper :=
  [AOper.mk (some 2) (.box (.tmp 0)) none [], AOper.mk (some 3) (.box (.tmp 1)) none [], AOper.mk (some 4) (.mv (.const (.int .i64 0))) none []]
def l82r1a : List AOper :=
  [AOper.mk (some 5) (.fld 0 (.tmp 2)) none [], AOper.mk (some 6) (.load false 1 (.tmp 5)) none [0], AOper.mk (some 7) (.load true 4 (.tmp 3)) none [], AOper.mk (some 8) (.fld 2 (.tmp 2)) none [], AOper.mk (some 9) (.load false 1 (.tmp 8)) none [3], AOper.mk (some 10) (.call 98 [.tmp 7, .tmp 9]) none [2, 4]]
def l82r1b : List AOper :=
  [AOper.mk (some 11) (.bin .add (.tmp 6) (.tmp 10)) none [1, 5], AOper.mk (some 4) (.mv (.tmp 11)) none [6, 5, 0, 1, 2, 3, 4, 5, 6]]
def l82r1 : List AOper := l82r1a ++ l82r1b
def l82 : AFn :=
  (AFn.mk 12 2 (ACode.seq (ACode.reg l82r0) (ACode.seq (ACode.draw l82r1) ACode.ret)) [ARes.tmp 4])
theorem l82_eq : lowFn Try.prog 82 = some l82 := by kernel_rfl
def l83r0 : List AOper :=
  [AOper.mk (some 2) (.mv (.const (.slice none 0 0))) none []]
def l83r1 : List AOper :=
  [AOper.mk (some 3) (.bslice 1 [.int .i64 0] [] 0) none [], AOper.mk (some 4) (.mv (.tmp 0)) none [], AOper.mk (some 5) (.append 1 (.tmp 3) (.tmp 4)) none [0, 1], AOper.mk (some 2) (.mv (.tmp 5)) none [2, 2, 0, 1, 2]]
def l83 : AFn :=
  (AFn.mk 6 1 (ACode.seq (ACode.reg l83r0) (ACode.seq (ACode.reg l83r1) ACode.ret)) [ARes.tmp 2])
theorem l83_eq : lowFn Try.prog 83 = some l83 := by kernel_rfl
def l92r0 : List AOper :=
  [AOper.mk (some 2) (.box (.tmp 0)) none [], AOper.mk (some 4) (.mv (.const (.int .i64 0))) none []]
def l92r1 : List AOper :=
  [AOper.mk (some 7) (.fld 0 (.tmp 2)) none [], AOper.mk (some 8) (.load false 1 (.tmp 7)) none [0], AOper.mk (some 5) (.mv (.tmp 8)) none [1, 0, 1]]
def l92r2 : List AOper :=
  [AOper.mk (some 6) (.mv (.const (.int .i64 0))) none []]
def l92r3 : List AOper :=
  [AOper.mk (some 9) (.mv (.tmp 6)) none [], AOper.mk (some 10) (.mv (.tmp 1)) none [], AOper.mk (some 11) (.len (.tmp 10)) none [1], AOper.mk (some 12) (.bin .lss (.tmp 9) (.tmp 11)) none [0, 2]]
def l92r4a : List AOper :=
  [AOper.mk (some 15) (.mv (.tmp 5)) none [], AOper.mk (some 16) (.mv (.tmp 1)) none [], AOper.mk (some 17) (.mv (.tmp 6)) none [], AOper.mk (some 18) (.idxA 1 (.tmp 16) (.tmp 17)) none [1, 2], AOper.mk (some 19) (.load false 1 (.tmp 18)) none [3], AOper.mk (some 20) (.fld 2 (.tmp 2)) none [], AOper.mk (some 21) (.load false 1 (.tmp 20)) none [5], AOper.mk (some 22) (.mv (.tmp 6)) none [], AOper.mk (some 23) (.idxA 1 (.tmp 21) (.tmp 22)) none [6, 7], AOper.mk (some 24) (.load false 1 (.tmp 23)) none [8], AOper.mk (some 25) (.bin .mul (.tmp 19) (.tmp 24)) none [4, 9]]
def l92r4b : List AOper :=
  [AOper.mk (some 26) (.bin .add (.tmp 15) (.tmp 25)) none [0, 10], AOper.mk (some 5) (.mv (.tmp 26)) none [11, 0, 1, 2, 3, 4, 5, 6, 7, 8, 9, 10, 11]]
def l92r4 : List AOper := l92r4a ++ l92r4b
def l92r5 : List AOper :=
  [AOper.mk (some 13) (.mv (.tmp 6)) none [], AOper.mk (some 14) (.bin .add (.tmp 13) (.const (.int .i64 1))) none [0], AOper.mk (some 6) (.mv (.tmp 14)) none [1, 0, 1]]
def l92r6 : List AOper :=
  [AOper.mk (some 27) (.mv (.tmp 5)) none [], AOper.mk (some 4) (.mv (.tmp 27)) none [0, 0]]
def l92 : AFn :=
  (AFn.mk 28 2 (ACode.seq (ACode.reg l92r0) (ACode.seq (ACode.reg l92r1) (ACode.seq (ACode.seq (ACode.reg l92r2) (ACode.block 0 (ACode.loop (ACode.seq (ACode.seq (ACode.reg l92r3) (ACode.cond (.tmp 12) ACode.skip (ACode.exit 0))) (ACode.seq (ACode.block 1 (ACode.draw l92r4)) (ACode.reg l92r5)))))) (ACode.seq (ACode.reg l92r6) ACode.ret)))) [ARes.tmp 4])
theorem l92_eq : lowFn Try.prog 92 = some l92 := by kernel_rfl
def l93r0 : List AOper :=
  [AOper.mk (some 4) (.mv (.const (.slice none 0 0))) none []]
def l93r1 : List AOper :=
  [AOper.mk (some 7) (.mv (.tmp 0)) none [], AOper.mk (some 8) (.len (.tmp 7)) none [0], AOper.mk (some 9) (.mkslice 1 [.int .i64 0] (.tmp 8) (.tmp 8)) none [1, 1], AOper.mk (some 5) (.mv (.tmp 9)) none [2, 0, 1, 2]]
def l93r2 : List AOper :=
  [AOper.mk (some 10) (.mv (.tmp 0)) none [], AOper.mk (some 11) (.len (.tmp 10)) none [0], AOper.mk (some 12) (.bin .sub (.tmp 11) (.const (.int .i64 1))) none [1], AOper.mk (some 6) (.mv (.tmp 12)) none [2, 0, 1, 2]]
def l93r3 : List AOper :=
  [AOper.mk (some 13) (.mv (.tmp 6)) none [], AOper.mk (some 14) (.bin .geq (.tmp 13) (.const (.int .i64 0))) none [0]]
def l93r4 : List AOper :=
  [AOper.mk (some 17) (.mv (.tmp 5)) none [], AOper.mk (some 18) (.mv (.tmp 6)) none [], AOper.mk (some 19) (.mv (.tmp 1)) none [], AOper.mk (some 20) (.mv (.tmp 0)) none [], AOper.mk (some 21) (.mv (.tmp 6)) none [], AOper.mk (some 22) (.idxA 1 (.tmp 20) (.tmp 21)) none [3, 4], AOper.mk (some 23) (.load false 1 (.tmp 22)) none [5], AOper.mk (some 24) (.bin .rem (.tmp 19) (.tmp 23)) none [2, 6], AOper.mk (some 25) (.idxA 1 (.tmp 17) (.tmp 18)) none [0, 1, 0, 1, 2, 3, 4, 5, 6, 7], AOper.mk none (.store 1 (.tmp 25) (.tmp 24)) none [8, 7, 0, 1, 2, 3, 4, 5, 6, 7]]
def l93r5 : List AOper :=
  [AOper.mk (some 26) (.mv (.tmp 1)) none [], AOper.mk (some 27) (.mv (.tmp 0)) none [], AOper.mk (some 28) (.mv (.tmp 6)) none [], AOper.mk (some 29) (.idxA 1 (.tmp 27) (.tmp 28)) none [1, 2], AOper.mk (some 30) (.load false 1 (.tmp 29)) none [3], AOper.mk (some 31) (.bin .quo (.tmp 26) (.tmp 30)) none [0, 4], AOper.mk (some 1) (.mv (.tmp 31)) none [5, 0, 1, 2, 3, 4, 5]]
def l93r6 : List AOper :=
  [AOper.mk (some 15) (.mv (.tmp 6)) none [], AOper.mk (some 16) (.bin .sub (.tmp 15) (.const (.int .i64 1))) none [0], AOper.mk (some 6) (.mv (.tmp 16)) none [1, 0, 1]]
def l93r7 : List AOper :=
  [AOper.mk (some 32) (.mv (.tmp 5)) none [], AOper.mk (some 4) (.mv (.tmp 32)) none [0, 0]]
def l93 : AFn :=
  (AFn.mk 33 2 (ACode.seq (ACode.reg l93r0) (ACode.seq (ACode.reg l93r1) (ACode.seq (ACode.seq (ACode.reg l93r2) (ACode.block 0 (ACode.loop (ACode.seq (ACode.seq (ACode.reg l93r3) (ACode.cond (.tmp 14) ACode.skip (ACode.exit 0))) (ACode.seq (ACode.block 1 (ACode.seq (ACode.reg l93r4) (ACode.reg l93r5))) (ACode.reg l93r6)))))) (ACode.seq (ACode.reg l93r7) ACode.ret)))) [ARes.tmp 4])
theorem l93_eq : lowFn Try.prog 93 = some l93 := by kernel_rfl
def l94r0 : List AOper :=
  [AOper.mk (some 6) (.mv (.const (.int .i64 0))) none []]
def l94r1 : List AOper :=
  [AOper.mk (some 7) (.mv (.const (.int .i64 0))) none []]
def l94r2 : List AOper :=
  [AOper.mk (some 9) (.mv (.tmp 0)) none [], AOper.mk (some 8) (.mv (.tmp 9)) none [0, 0]]
def l94r3 : List AOper :=
  [AOper.mk (some 10) (.mv (.tmp 2)) none [], AOper.mk (some 11) (.bin .lss (.tmp 10) (.const (.int .i64 0))) none [0]]
def l94r4 : List AOper :=
  [AOper.mk (some 7) (.mv (.const (.int .i64 (-1)))) none []]
def l94r5 : List AOper :=
  [AOper.mk (some 12) (.mv (.tmp 0)) none [], AOper.mk (some 13) (.bin .sub (.tmp 12) (.const (.int .i64 1))) none [0], AOper.mk (some 8) (.mv (.tmp 13)) none [1, 0, 1]]
def l94r6 : List AOper :=
  [AOper.mk (some 14) (.mv (.tmp 1)) none [], AOper.mk (some 15) (.bin .lss (.tmp 14) (.const (.int .i64 0))) none [0]]
def l94r7 : List AOper :=
  [AOper.mk (some 16) (.mv (.tmp 1)) none [], AOper.mk (some 17) (.mv (.tmp 0)) none [], AOper.mk (some 18) (.bin .add (.tmp 16) (.tmp 17)) none [0, 1], AOper.mk (some 1) (.mv (.tmp 18)) none [2, 0, 1, 2]]
def l94r8 : List AOper :=
  [AOper.mk (some 19) (.mv (.tmp 8)) none [], AOper.mk (some 20) (.mv (.tmp 7)) none [], AOper.mk (some 21) (.mv (.tmp 1)) none [], AOper.mk (some 22) (.minmax true (.tmp 20) (.tmp 21)) none [1, 2], AOper.mk (some 23) (.minmax false (.tmp 19) (.tmp 22)) none [0, 3], AOper.mk (some 6) (.mv (.tmp 23)) none [4, 0, 1, 2, 3, 4]]
def l94 : AFn :=
  (AFn.mk 24 3 (ACode.seq (ACode.reg l94r0) (ACode.seq (ACode.reg l94r1) (ACode.seq (ACode.reg l94r2) (ACode.seq (ACode.seq (ACode.reg l94r3) (ACode.cond (.tmp 11) (ACode.seq (ACode.reg l94r4) (ACode.reg l94r5)) ACode.skip)) (ACode.seq (ACode.seq (ACode.reg l94r6) (ACode.cond (.tmp 15) (ACode.reg l94r7) ACode.skip)) (ACode.seq (ACode.reg l94r8) ACode.ret)))))) [ARes.tmp 6])
theorem l94_eq : lowFn Try.prog 94 = some l94 := by kernel_rfl
def l95r0 : List AOper :=
  [AOper.mk (some 4) (.mv (.const (.bool false))) none []]
def l95r1 : List AOper :=
  [AOper.mk (some 5) (.mv (.tmp 1)) none [], AOper.mk (some 6) (.un .neg (.tmp 5)) none [0], AOper.mk (some 7) (.mv (.tmp 0)) none [], AOper.mk (some 8) (.bin .leq (.tmp 6) (.tmp 7)) none [1, 2], AOper.mk (some 9) (.mv (.tmp 8)) none [3], AOper.mk (some 10) (.mv (.tmp 0)) (some (9, true)) [4], AOper.mk (some 11) (.mv (.tmp 1)) (some (9, true)) [4], AOper.mk (some 12) (.bin .leq (.tmp 10) (.tmp 11)) (some (9, true)) [5, 6, 4], AOper.mk (some 13) (.pick (.tmp 9) (.tmp 12) (.const (.bool false))) none [4, 7], AOper.mk (some 4) (.mv (.tmp 13)) none [8, 4, 0, 1, 2, 3, 4, 5, 6, 7, 8]]
def l95 : AFn :=
  (AFn.mk 14 2 (ACode.seq (ACode.reg l95r0) (ACode.seq (ACode.reg l95r1) ACode.ret)) [ARes.tmp 4])
theorem l95_eq : lowFn Try.prog 95 = some l95 := by kernel_rfl
def l98r0 : List AOper :=
  [AOper.mk (some 2) (.box (.tmp 0)) none [], AOper.mk (some 4) (.mv (.const (.int .i64 0))) none []]
def l98r1 : List AOper :=
  [AOper.mk (some 5) (.mv (.const (.int .i64 0))) none []]
def l98r2 : List AOper :=
  [AOper.mk (some 8) (.mv (.tmp 1)) none [], AOper.mk (some 9) (.len (.tmp 8)) none [0], AOper.mk (some 10) (.mv (.const (.int .i64 0))) none []]
def l98r3 : List AOper :=
  [AOper.mk (some 11) (.bin .lss (.tmp 10) (.tmp 9)) none []]
def l98r4 : List AOper :=
  [AOper.mk (some 12) (.mv (.tmp 10)) none [], AOper.mk (some 13) (.idxA 1 (.tmp 8) (.tmp 10)) none [], AOper.mk (some 14) (.load false 1 (.tmp 13)) none [1], AOper.mk (some 6) (.mv (.tmp 12)) none [0, 0, 1, 2], AOper.mk (some 7) (.mv (.tmp 14)) none [2, 3, 0, 1, 2, 3]]
def l98r5 : List AOper :=
  [AOper.mk (some 15) (.mv (.tmp 5)) none [], AOper.mk (some 16) (.mv (.tmp 6)) none [], AOper.mk (some 17) (.idxP 1 4 (.tmp 2) (.tmp 16)) none [1], AOper.mk (some 18) (.load false 1 (.tmp 17)) none [2], AOper.mk (some 19) (.mv (.tmp 7)) none [], AOper.mk (some 20) (.bin .mul (.tmp 18) (.tmp 19)) none [3, 4], AOper.mk (some 21) (.bin .add (.tmp 15) (.tmp 20)) none [0, 5], AOper.mk (some 5) (.mv (.tmp 21)) none [6, 0, 1, 2, 3, 4, 5, 6]]
def l98r6 : List AOper :=
  [AOper.mk (some 22) (.bin .add (.tmp 10) (.const (.int .i64 1))) none [], AOper.mk (some 10) (.mv (.tmp 22)) none [0]]
def l98r7 : List AOper :=
  [AOper.mk (some 23) (.mv (.tmp 5)) none [], AOper.mk (some 4) (.mv (.tmp 23)) none [0, 0]]
def l98 : AFn :=
  (AFn.mk 24 2 (ACode.seq (ACode.reg l98r0) (ACode.seq (ACode.reg l98r1) (ACode.seq (ACode.seq (ACode.reg l98r2) (ACode.block 0 (ACode.loop (ACode.seq (ACode.reg l98r3) (ACode.seq (ACode.cond (.tmp 11) ACode.skip (ACode.exit 0)) (ACode.seq (ACode.block 1 (ACode.seq (ACode.reg l98r4) (ACode.reg l98r5))) (ACode.reg l98r6))))))) (ACode.seq (ACode.reg l98r7) ACode.ret)))) [ARes.tmp 4])
theorem l98_eq : lowFn Try.prog 98 = some l98 := by kernel_rfl
end Go.Proofs.Ytfkaejajkkbpmaa
