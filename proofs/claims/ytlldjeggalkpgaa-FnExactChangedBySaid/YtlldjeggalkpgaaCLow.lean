import Derived.Test.YtlldjeggalkpgaaCW3
import Derived.Test.YtlldjeggalkpgaaProg
import Derived.KernelRfl
set_option maxRecDepth 100000
namespace Go.Proofs.Ytlldjeggalkpgaa
open Vw Go
def l3r0 : List AOper :=
  [AOper.mk (some 2) (.mv (.const (.bool false))) none []]
def l3r1 : List AOper :=
  [AOper.mk (some 6) (.mv (.tmp 0)) none [], AOper.mk (some 7) (.len (.tmp 6)) none [0], AOper.mk (some 8) (.bin .gtr (.tmp 7) (.const (.int .i64 1048576))) none [1]]
def l3r2 : List AOper :=
  [AOper.mk (some 2) (.mv (.const (.bool true))) none []]
def l3r3 : List AOper :=
  [AOper.mk (some 9) (.mv (.tmp 0)) none [], AOper.mk (some 10) (.call 16 [.tmp 9]) none [0], AOper.mk (some 11) (.call 15 [.tmp 10]) none [1, 1], AOper.mk (some 3) (.mv (.tmp 11)) none [2, 2, 0, 1, 2]]
def l3r4 : List AOper :=
  [AOper.mk (some 12) (.mv (.tmp 0)) none [], AOper.mk (some 13) (.call 16 [.tmp 12]) none [0], AOper.mk (some 4) (.mv (.tmp 13)) none [1, 1, 0, 1]]
def l3r5 : List AOper :=
  [AOper.mk (some 14) (.mv (.tmp 4)) none [], AOper.mk (some 15) (.call 17 [.tmp 14]) none [0], AOper.mk (some 5) (.mv (.tmp 15)) none [1, 1, 0, 1]]
def l3r6 : List AOper :=
  [AOper.mk (some 16) (.mv (.tmp 5)) none [], AOper.mk (some 17) (.mv (.tmp 3)) none [], AOper.mk (some 18) (.binB .neq (.tmp 16) (.tmp 17)) none [0, 1]]
def l3r7 : List AOper :=
  [AOper.mk (some 2) (.mv (.const (.bool false))) none []]
def l3r8 : List AOper :=
  [AOper.mk (some 19) (.mv (.tmp 4)) none [], AOper.mk (some 20) (.mv (.tmp 0)) none [], AOper.mk (some 21) (.call 16 [.tmp 20]) none [1], AOper.mk (some 22) (.call 18 [.tmp 19, .tmp 21]) none [0, 2, 2], AOper.mk (some 23) (.un .not (.tmp 22)) none [3]]
def l3r9 : List AOper :=
  [AOper.mk (some 2) (.mv (.const (.bool false))) none []]
def l3r10 : List AOper :=
  [AOper.mk (some 2) (.mv (.const (.bool true))) none []]
def l3 : AFn :=
  (AFn.mk 24 1 (ACode.seq (ACode.reg l3r0) (ACode.seq (ACode.seq (ACode.reg l3r1) (ACode.cond (.tmp 8) (ACode.seq (ACode.reg l3r2) ACode.ret) ACode.skip)) (ACode.seq (ACode.reg l3r3) (ACode.seq (ACode.reg l3r4) (ACode.seq (ACode.reg l3r5) (ACode.seq (ACode.seq (ACode.reg l3r6) (ACode.cond (.tmp 18) (ACode.seq (ACode.reg l3r7) ACode.ret) ACode.skip)) (ACode.seq (ACode.seq (ACode.reg l3r8) (ACode.cond (.tmp 23) (ACode.seq (ACode.reg l3r9) ACode.ret) ACode.skip)) (ACode.seq (ACode.reg l3r10) ACode.ret)))))))) [ARes.tmp 2])
theorem l3_eq : lowFn Try.prog 3 = some l3 := by kernel_rfl
def l10r0 : List AOper :=
  [AOper.mk (some 2) (.box (.tmp 0)) none [], AOper.mk (some 3) (.box (.tmp 1)) none [], AOper.mk (some 4) (.mv (.const (.bool false))) none []]
def l10r1 : List AOper :=
  [AOper.mk (some 5) (.mv (.const (.int .i64 1048576))) none []]
def l10r2 : List AOper :=
  [AOper.mk (some 10) (.load true 3 (.tmp 2)) none [], AOper.mk (some 11) (.mv (.tmp 5)) none [], AOper.mk (some 12) (.call 19 [.tmp 10, .tmp 11]) none [0, 1], AOper.mk (some 5) (.mv (.tmp 12)) none [2, 2, 0, 1, 2]]
def l10r3 : List AOper :=
  [AOper.mk (some 13) (.mv (.tmp 5)) none [], AOper.mk (some 14) (.bin .lss (.tmp 13) (.const (.int .i64 0))) none [0]]
def l10r4 : List AOper :=
  [AOper.mk (some 4) (.mv (.const (.bool true))) none []]
def l10r5 : List AOper :=
  [AOper.mk (some 15) (.load true 3 (.tmp 3)) none [], AOper.mk (some 16) (.mv (.tmp 5)) none [], AOper.mk (some 17) (.call 19 [.tmp 15, .tmp 16]) none [0, 1], AOper.mk (some 5) (.mv (.tmp 17)) none [2, 2, 0, 1, 2]]
def l10r6 : List AOper :=
  [AOper.mk (some 18) (.mv (.tmp 5)) none [], AOper.mk (some 19) (.bin .lss (.tmp 18) (.const (.int .i64 0))) none [0]]
def l10r7 : List AOper :=
  [AOper.mk (some 4) (.mv (.const (.bool true))) none []]
def l10r8a : List AOper :=
  [AOper.mk (some 20) (.load true 3 (.tmp 2)) none [], AOper.mk (some 21) (.call 21 [.tmp 20]) none [0], AOper.mk (some 22) (.load true 3 (.tmp 3)) none []]
def l10r8b : List AOper :=
  [AOper.mk (some 23) (.call 21 [.tmp 22]) none [2, 1], AOper.mk (some 24) (.call 37 [.tmp 21, .tmp 23]) none [1, 3, 3], AOper.mk (some 6) (.mv (.tmp 24)) none [4, 4, 0, 1, 2, 3, 4]]
def l10r8 : List AOper := l10r8a ++ l10r8b
def l10r9 : List AOper :=
  [AOper.mk (some 25) (.load true 3 (.tmp 2)) none [], AOper.mk (some 26) (.call 21 [.tmp 25]) none [0], AOper.mk (some 7) (.alloc [.int .i64 0, .slice none 0 0, .slice none 0 0]) none [], AOper.mk none (.store 3 (.tmp 7) (.tmp 26)) none [2, 1, 1, 0, 1, 2]]
def l10r10 : List AOper :=
  [AOper.mk (some 27) (.load true 3 (.tmp 3)) none [], AOper.mk (some 28) (.call 21 [.tmp 27]) none [0], AOper.mk (some 8) (.alloc [.int .i64 0, .slice none 0 0, .slice none 0 0]) none [], AOper.mk none (.store 3 (.tmp 8) (.tmp 28)) none [2, 1, 1, 0, 1, 2]]
def l10r11 : List AOper :=
  [AOper.mk (some 29) (.load true 3 (.tmp 7)) none [], AOper.mk (some 30) (.load true 3 (.tmp 8)) none [], AOper.mk (some 31) (.call 38 [.tmp 29, .tmp 30]) none [0, 1], AOper.mk (some 9) (.mv (.tmp 31)) none [2, 2, 0, 1, 2]]
def l10r12 : List AOper :=
  [AOper.mk (some 32) (.mv (.tmp 9)) none [], AOper.mk (some 33) (.mv (.tmp 6)) none [], AOper.mk (some 34) (.bin .neq (.tmp 32) (.tmp 33)) none [0, 1]]
def l10r13 : List AOper :=
  [AOper.mk (some 4) (.mv (.const (.bool false))) none []]
def l10r14a : List AOper :=
  [AOper.mk (some 35) (.load true 3 (.tmp 7)) none [], AOper.mk (some 36) (.load true 3 (.tmp 2)) none [], AOper.mk (some 37) (.call 21 [.tmp 36]) none [1]]
def l10r14b : List AOper :=
  [AOper.mk (some 38) (.call 23 [.tmp 35, .tmp 37]) none [0, 2, 2], AOper.mk (some 39) (.un .not (.tmp 38)) none [3]]
def l10r14 : List AOper := l10r14a ++ l10r14b
def l10r15 : List AOper :=
  [AOper.mk (some 4) (.mv (.const (.bool false))) none []]
def l10r16a : List AOper :=
  [AOper.mk (some 40) (.load true 3 (.tmp 8)) none [], AOper.mk (some 41) (.load true 3 (.tmp 3)) none [], AOper.mk (some 42) (.call 21 [.tmp 41]) none [1]]
def l10r16b : List AOper :=
  [AOper.mk (some 43) (.call 23 [.tmp 40, .tmp 42]) none [0, 2, 2], AOper.mk (some 44) (.un .not (.tmp 43)) none [3]]
def l10r16 : List AOper := l10r16a ++ l10r16b
def l10r17 : List AOper :=
  [AOper.mk (some 4) (.mv (.const (.bool false))) none []]
def l10r18 : List AOper :=
  [AOper.mk (some 4) (.mv (.const (.bool true))) none []]
def l10 : AFn :=
  (AFn.mk 45 2 (ACode.seq (ACode.reg l10r0) (ACode.seq (ACode.reg l10r1) (ACode.seq (ACode.reg l10r2) (ACode.seq (ACode.seq (ACode.reg l10r3) (ACode.cond (.tmp 14) (ACode.seq (ACode.reg l10r4) ACode.ret) ACode.skip)) (ACode.seq (ACode.reg l10r5) (ACode.seq (ACode.seq (ACode.reg l10r6) (ACode.cond (.tmp 19) (ACode.seq (ACode.reg l10r7) ACode.ret) ACode.skip)) (ACode.seq (ACode.draw l10r8) (ACode.seq (ACode.reg l10r9) (ACode.seq (ACode.reg l10r10) (ACode.seq (ACode.reg l10r11) (ACode.seq (ACode.seq (ACode.reg l10r12) (ACode.cond (.tmp 34) (ACode.seq (ACode.reg l10r13) ACode.ret) ACode.skip)) (ACode.seq (ACode.seq (ACode.draw l10r14) (ACode.cond (.tmp 39) (ACode.seq (ACode.reg l10r15) ACode.ret) ACode.skip)) (ACode.seq (ACode.seq (ACode.draw l10r16) (ACode.cond (.tmp 44) (ACode.seq (ACode.reg l10r17) ACode.ret) ACode.skip)) (ACode.seq (ACode.reg l10r18) ACode.ret)))))))))))))) [ARes.tmp 4])
theorem l10_eq : lowFn Try.prog 10 = some l10 := by kernel_rfl
def l13r0 : List AOper :=
  [AOper.mk (some 4) (.mv (.const (.bool false))) none []]
def l13r1 : List AOper :=
  [AOper.mk (some 13) (.mv (.tmp 0)) none [], AOper.mk (some 14) (.len (.tmp 13)) none [0], AOper.mk (some 15) (.bin .gtr (.tmp 14) (.const (.int .i64 1048576))) none [1]]
def l13r2 : List AOper :=
  [AOper.mk (some 4) (.mv (.const (.bool true))) none []]
def l13r3 : List AOper :=
  [AOper.mk (some 16) (.mv (.tmp 1)) none [], AOper.mk (some 17) (.len (.tmp 16)) none [0], AOper.mk (some 18) (.bin .gtr (.tmp 17) (.const (.int .i64 1048576))) none [1]]
def l13r4 : List AOper :=
  [AOper.mk (some 4) (.mv (.const (.bool true))) none []]
def l13r5 : List AOper :=
  [AOper.mk (some 19) (.mv (.tmp 0)) none [], AOper.mk (some 20) (.call 16 [.tmp 19]) none [0], AOper.mk (some 21) (.mv (.tmp 1)) none [], AOper.mk (some 22) (.call 16 [.tmp 21]) none [2, 1], AOper.mk (some 23) (.call 43 [.tmp 20, .tmp 22]) none [1, 3, 3], AOper.mk (some 5) (.mv (.tmp 23)) none [4, 4, 0, 1, 2, 3, 4]]
def l13r6 : List AOper :=
  [AOper.mk (some 24) (.mv (.tmp 0)) none [], AOper.mk (some 25) (.call 16 [.tmp 24]) none [0], AOper.mk (some 6) (.mv (.tmp 25)) none [1, 1, 0, 1]]
def l13r7 : List AOper :=
  [AOper.mk (some 26) (.mv (.tmp 1)) none [], AOper.mk (some 27) (.call 16 [.tmp 26]) none [0], AOper.mk (some 7) (.mv (.tmp 27)) none [1, 1, 0, 1]]
def l13r8 : List AOper :=
  [AOper.mk (some 28) (.mv (.tmp 6)) none [], AOper.mk (some 29) (.mv (.tmp 7)) none [], AOper.mk (some 30) (.call 44 [.tmp 28, .tmp 29]) none [0, 1], AOper.mk (some 8) (.mv (.tmp 30)) none [2, 2, 0, 1, 2]]
def l13r9 : List AOper :=
  [AOper.mk (some 31) (.mv (.tmp 8)) none [], AOper.mk (some 32) (.mv (.tmp 5)) none [], AOper.mk (some 33) (.call 18 [.tmp 31, .tmp 32]) none [0, 1], AOper.mk (some 34) (.un .not (.tmp 33)) none [2]]
def l13r10 : List AOper :=
  [AOper.mk (some 4) (.mv (.const (.bool false))) none []]
def l13r11 : List AOper :=
  [AOper.mk (some 35) (.mv (.tmp 6)) none [], AOper.mk (some 36) (.mv (.tmp 0)) none [], AOper.mk (some 37) (.call 16 [.tmp 36]) none [1], AOper.mk (some 38) (.call 18 [.tmp 35, .tmp 37]) none [0, 2, 2], AOper.mk (some 39) (.un .not (.tmp 38)) none [3]]
def l13r12 : List AOper :=
  [AOper.mk (some 4) (.mv (.const (.bool false))) none []]
def l13r13 : List AOper :=
  [AOper.mk (some 40) (.mv (.tmp 7)) none [], AOper.mk (some 41) (.mv (.tmp 1)) none [], AOper.mk (some 42) (.call 16 [.tmp 41]) none [1], AOper.mk (some 43) (.call 18 [.tmp 40, .tmp 42]) none [0, 2, 2], AOper.mk (some 44) (.un .not (.tmp 43)) none [3]]
def l13r14 : List AOper :=
  [AOper.mk (some 4) (.mv (.const (.bool false))) none []]
def l13r15 : List AOper :=
  [AOper.mk (some 9) (.mv (.const (.int .i64 1))) none []]
def l13r16 : List AOper :=
  [AOper.mk (some 45) (.mv (.tmp 6)) none [], AOper.mk (some 46) (.mv (.tmp 9)) none [], AOper.mk (some 47) (.call 24 [.tmp 45, .tmp 46]) none [0, 1], AOper.mk (some 9) (.mv (.tmp 47)) none [2, 2, 0, 1, 2]]
def l13r17 : List AOper :=
  [AOper.mk (some 48) (.mv (.tmp 7)) none [], AOper.mk (some 49) (.mv (.tmp 9)) none [], AOper.mk (some 50) (.call 24 [.tmp 48, .tmp 49]) none [0, 1], AOper.mk (some 9) (.mv (.tmp 50)) none [2, 2, 0, 1, 2]]
def l13r18 : List AOper :=
  [AOper.mk (some 51) (.mv (.tmp 9)) none [], AOper.mk (some 52) (.bin .lss (.tmp 51) (.const (.int .i64 0))) none [0], AOper.mk (some 53) (.mv (.tmp 52)) none [1], AOper.mk (some 54) (.mv (.tmp 8)) (some (53, false)) [2], AOper.mk (some 55) (.mv (.tmp 5)) (some (53, false)) [2], AOper.mk (some 56) (.call 18 [.tmp 54, .tmp 55]) (some (53, false)) [3, 4, 2, 2], AOper.mk (some 57) (.un .not (.tmp 56)) (some (53, false)) [5, 2], AOper.mk (some 58) (.pick (.tmp 53) (.const (.bool true)) (.tmp 57)) none [2, 6]]
def l13r19 : List AOper :=
  [AOper.mk (some 4) (.mv (.const (.bool false))) none []]
def l13r20 : List AOper :=
  [AOper.mk (some 10) (.mv (.const (.int .i64 1))) none []]
def l13r21 : List AOper :=
  [AOper.mk (some 59) (.mv (.tmp 8)) none [], AOper.mk (some 60) (.mv (.tmp 10)) none [], AOper.mk (some 61) (.call 24 [.tmp 59, .tmp 60]) none [0, 1], AOper.mk (some 10) (.mv (.tmp 61)) none [2, 2, 0, 1, 2]]
def l13r22 : List AOper :=
  [AOper.mk (some 11) (.mv (.const (.int .i64 1))) none []]
def l13r23 : List AOper :=
  [AOper.mk (some 62) (.mv (.tmp 8)) none [], AOper.mk (some 63) (.mv (.tmp 11)) none [], AOper.mk (some 64) (.call 26 [.tmp 62, .tmp 63]) none [0, 1], AOper.mk (some 11) (.mv (.tmp 64)) none [2, 2, 0, 1, 2]]
def l13r24 : List AOper :=
  [AOper.mk (some 65) (.mv (.tmp 11)) none [], AOper.mk (some 66) (.bin .lss (.tmp 65) (.const (.int .i64 0))) none [0]]
def l13r25 : List AOper :=
  [AOper.mk (some 4) (.mv (.const (.bool false))) none []]
def l13r26 : List AOper :=
  [AOper.mk (some 67) (.mv (.tmp 11)) none [], AOper.mk (some 68) (.mv (.tmp 10)) none [], AOper.mk (some 69) (.bin .neq (.tmp 67) (.tmp 68)) none [0, 1]]
def l13r27 : List AOper :=
  [AOper.mk (some 4) (.mv (.const (.bool false))) none []]
def l13r28 : List AOper :=
  [AOper.mk (some 70) (.mv (.tmp 0)) none [], AOper.mk (some 71) (.call 16 [.tmp 70]) none [0], AOper.mk (some 72) (.mv (.tmp 1)) none [], AOper.mk (some 73) (.call 16 [.tmp 72]) none [2, 1], AOper.mk (some 74) (.call 44 [.tmp 71, .tmp 73]) none [1, 3, 3], AOper.mk (some 12) (.mv (.tmp 74)) none [4, 4, 0, 1, 2, 3, 4]]
def l13r29 : List AOper :=
  [AOper.mk (some 75) (.mv (.tmp 12)) none [], AOper.mk (some 76) (.mv (.tmp 5)) none [], AOper.mk (some 77) (.call 18 [.tmp 75, .tmp 76]) none [0, 1], AOper.mk (some 78) (.un .not (.tmp 77)) none [2]]
def l13r30 : List AOper :=
  [AOper.mk (some 4) (.mv (.const (.bool false))) none []]
def l13r31 : List AOper :=
  [AOper.mk (some 11) (.mv (.const (.int .i64 1))) none []]
def l13r32 : List AOper :=
  [AOper.mk (some 79) (.mv (.tmp 8)) none [], AOper.mk (some 80) (.mv (.tmp 11)) none [], AOper.mk (some 81) (.call 26 [.tmp 79, .tmp 80]) none [0, 1], AOper.mk (some 11) (.mv (.tmp 81)) none [2, 2, 0, 1, 2]]
def l13r33 : List AOper :=
  [AOper.mk (some 82) (.mv (.tmp 11)) none [], AOper.mk (some 83) (.bin .lss (.tmp 82) (.const (.int .i64 0))) none [0]]
def l13r34 : List AOper :=
  [AOper.mk (some 4) (.mv (.const (.bool false))) none []]
def l13r35 : List AOper :=
  [AOper.mk (some 84) (.mv (.tmp 11)) none [], AOper.mk (some 85) (.mv (.tmp 10)) none [], AOper.mk (some 86) (.bin .neq (.tmp 84) (.tmp 85)) none [0, 1]]
def l13r36 : List AOper :=
  [AOper.mk (some 4) (.mv (.const (.bool false))) none []]
def l13r37 : List AOper :=
  [AOper.mk (some 4) (.mv (.const (.bool true))) none []]
def l13 : AFn :=
  (AFn.mk 87 2 (ACode.seq (ACode.reg l13r0) (ACode.seq (ACode.seq (ACode.reg l13r1) (ACode.cond (.tmp 15) (ACode.seq (ACode.reg l13r2) ACode.ret) ACode.skip)) (ACode.seq (ACode.seq (ACode.reg l13r3) (ACode.cond (.tmp 18) (ACode.seq (ACode.reg l13r4) ACode.ret) ACode.skip)) (ACode.seq (ACode.reg l13r5) (ACode.seq (ACode.reg l13r6) (ACode.seq (ACode.reg l13r7) (ACode.seq (ACode.reg l13r8) (ACode.seq (ACode.seq (ACode.reg l13r9) (ACode.cond (.tmp 34) (ACode.seq (ACode.reg l13r10) ACode.ret) ACode.skip)) (ACode.seq (ACode.seq (ACode.reg l13r11) (ACode.cond (.tmp 39) (ACode.seq (ACode.reg l13r12) ACode.ret) ACode.skip)) (ACode.seq (ACode.seq (ACode.reg l13r13) (ACode.cond (.tmp 44) (ACode.seq (ACode.reg l13r14) ACode.ret) ACode.skip)) (ACode.seq (ACode.reg l13r15) (ACode.seq (ACode.reg l13r16) (ACode.seq (ACode.reg l13r17) (ACode.seq (ACode.seq (ACode.reg l13r18) (ACode.cond (.tmp 58) (ACode.seq (ACode.reg l13r19) ACode.ret) ACode.skip)) (ACode.seq (ACode.reg l13r20) (ACode.seq (ACode.reg l13r21) (ACode.seq (ACode.reg l13r22) (ACode.seq (ACode.reg l13r23) (ACode.seq (ACode.seq (ACode.reg l13r24) (ACode.cond (.tmp 66) (ACode.seq (ACode.reg l13r25) ACode.ret) ACode.skip)) (ACode.seq (ACode.seq (ACode.reg l13r26) (ACode.cond (.tmp 69) (ACode.seq (ACode.reg l13r27) ACode.ret) ACode.skip)) (ACode.seq (ACode.reg l13r28) (ACode.seq (ACode.seq (ACode.reg l13r29) (ACode.cond (.tmp 78) (ACode.seq (ACode.reg l13r30) ACode.ret) ACode.skip)) (ACode.seq (ACode.reg l13r31) (ACode.seq (ACode.reg l13r32) (ACode.seq (ACode.seq (ACode.reg l13r33) (ACode.cond (.tmp 83) (ACode.seq (ACode.reg l13r34) ACode.ret) ACode.skip)) (ACode.seq (ACode.seq (ACode.reg l13r35) (ACode.cond (.tmp 86) (ACode.seq (ACode.reg l13r36) ACode.ret) ACode.skip)) (ACode.seq (ACode.reg l13r37) ACode.ret))))))))))))))))))))))))))) [ARes.tmp 4])
theorem l13_eq : lowFn Try.prog 13 = some l13 := by kernel_rfl
def l15r0 : List AOper :=
  [AOper.mk (some 2) (.mv (.const (.bool false))) none []]
def l15r1 : List AOper :=
  [AOper.mk (some 3) (.mv (.tmp 0)) none [], AOper.mk (some 4) (.call 47 [.tmp 3]) none [0], AOper.mk (some 2) (.mv (.tmp 4)) none [1, 1, 0, 1]]
def l15 : AFn :=
  (AFn.mk 5 1 (ACode.seq (ACode.reg l15r0) (ACode.seq (ACode.reg l15r1) ACode.ret)) [ARes.tmp 2])
theorem l15_eq : lowFn Try.prog 15 = some l15 := by kernel_rfl
def l16r0 : List AOper :=
  [AOper.mk (some 2) (.mv (.const (.slice none 0 0))) none []]
def l16r1 : List AOper :=
  [AOper.mk (some 5) (.mv (.tmp 0)) none [], AOper.mk (some 6) (.len (.tmp 5)) none [0], AOper.mk (some 7) (.mkslice 1 [.int .i64 0] (.tmp 6) (.tmp 6)) none [1, 1], AOper.mk (some 3) (.mv (.tmp 7)) none [2, 0, 1, 2]]
def l16r2 : List AOper :=
  [AOper.mk (some 4) (.mv (.const (.int .i64 0))) none []]
def l16r3 : List AOper :=
  [AOper.mk (some 8) (.mv (.tmp 4)) none [], AOper.mk (some 9) (.mv (.tmp 0)) none [], AOper.mk (some 10) (.len (.tmp 9)) none [1], AOper.mk (some 11) (.bin .lss (.tmp 8) (.tmp 10)) none [0, 2]]
def l16r4 : List AOper :=
  [AOper.mk (some 14) (.mv (.tmp 3)) none [], AOper.mk (some 15) (.mv (.tmp 4)) none [], AOper.mk (some 16) (.mv (.tmp 0)) none [], AOper.mk (some 17) (.mv (.tmp 4)) none [], AOper.mk (some 18) (.idxA 1 (.tmp 16) (.tmp 17)) none [2, 3], AOper.mk (some 19) (.load false 1 (.tmp 18)) none [4], AOper.mk (some 20) (.idxA 1 (.tmp 14) (.tmp 15)) none [0, 1, 0, 1, 2, 3, 4, 5], AOper.mk none (.store 1 (.tmp 20) (.tmp 19)) none [6, 5, 0, 1, 2, 3, 4, 5]]
def l16r5 : List AOper :=
  [AOper.mk (some 12) (.mv (.tmp 4)) none [], AOper.mk (some 13) (.bin .add (.tmp 12) (.const (.int .i64 1))) none [0], AOper.mk (some 4) (.mv (.tmp 13)) none [1, 0, 1]]
def l16r6 : List AOper :=
  [AOper.mk (some 21) (.mv (.tmp 3)) none [], AOper.mk (some 2) (.mv (.tmp 21)) none [0, 0]]
def l16 : AFn :=
  (AFn.mk 22 1 (ACode.seq (ACode.reg l16r0) (ACode.seq (ACode.reg l16r1) (ACode.seq (ACode.seq (ACode.reg l16r2) (ACode.block 0 (ACode.loop (ACode.seq (ACode.seq (ACode.reg l16r3) (ACode.cond (.tmp 11) ACode.skip (ACode.exit 0))) (ACode.seq (ACode.block 1 (ACode.reg l16r4)) (ACode.reg l16r5)))))) (ACode.seq (ACode.reg l16r6) ACode.ret)))) [ARes.tmp 2])
theorem l16_eq : lowFn Try.prog 16 = some l16 := by kernel_rfl
def l17r0 : List AOper :=
  [AOper.mk (some 2) (.mv (.const (.bool false))) none []]
def l17r1 : List AOper :=
  [AOper.mk (some 3) (.mv (.tmp 0)) none [], AOper.mk (some 4) (.len (.tmp 3)) none [0], AOper.mk (some 5) (.call 48 [.tmp 4]) none [1], AOper.mk (some 6) (.mv (.tmp 5)) none [2, 2], AOper.mk (some 7) (.mv (.tmp 0)) (some (6, true)) [3], AOper.mk (some 8) (.call 49 [.tmp 7]) (some (6, true)) [4, 3, 3], AOper.mk (some 9) (.pick (.tmp 6) (.tmp 8) (.const (.bool false))) none [3, 5], AOper.mk (some 2) (.mv (.tmp 9)) none [6, 5, 0, 1, 2, 3, 4, 5, 6]]
def l17 : AFn :=
  (AFn.mk 10 1 (ACode.seq (ACode.reg l17r0) (ACode.seq (ACode.reg l17r1) ACode.ret)) [ARes.tmp 2])
theorem l17_eq : lowFn Try.prog 17 = some l17 := by kernel_rfl
def l18r0 : List AOper :=
  [AOper.mk (some 4) (.mv (.const (.bool false))) none []]
def l18r1 : List AOper :=
  [AOper.mk (some 6) (.mv (.tmp 0)) none [], AOper.mk (some 7) (.len (.tmp 6)) none [0], AOper.mk (some 8) (.mv (.tmp 1)) none [], AOper.mk (some 9) (.len (.tmp 8)) none [2], AOper.mk (some 10) (.bin .neq (.tmp 7) (.tmp 9)) none [1, 3]]
def l18r2 : List AOper :=
  [AOper.mk (some 4) (.mv (.const (.bool false))) none []]
def l18r3 : List AOper :=
  [AOper.mk (some 5) (.mv (.const (.int .i64 0))) none []]
def l18r4 : List AOper :=
  [AOper.mk (some 11) (.mv (.tmp 5)) none [], AOper.mk (some 12) (.mv (.tmp 0)) none [], AOper.mk (some 13) (.len (.tmp 12)) none [1], AOper.mk (some 14) (.bin .lss (.tmp 11) (.tmp 13)) none [0, 2]]
def l18r5a : List AOper :=
  [AOper.mk (some 17) (.mv (.tmp 0)) none [], AOper.mk (some 18) (.mv (.tmp 5)) none [], AOper.mk (some 19) (.idxA 1 (.tmp 17) (.tmp 18)) none [0, 1], AOper.mk (some 20) (.load false 1 (.tmp 19)) none [2], AOper.mk (some 21) (.mv (.tmp 1)) none [], AOper.mk (some 22) (.mv (.tmp 5)) none [], AOper.mk (some 23) (.idxA 1 (.tmp 21) (.tmp 22)) none [4, 5], AOper.mk (some 24) (.load false 1 (.tmp 23)) none [6]]
def l18r5b : List AOper :=
  [AOper.mk (some 25) (.bin .neq (.tmp 20) (.tmp 24)) none [3, 7]]
def l18r5 : List AOper := l18r5a ++ l18r5b
def l18r6 : List AOper :=
  [AOper.mk (some 4) (.mv (.const (.bool false))) none []]
def l18r7 : List AOper :=
  [AOper.mk (some 15) (.mv (.tmp 5)) none [], AOper.mk (some 16) (.bin .add (.tmp 15) (.const (.int .i64 1))) none [0], AOper.mk (some 5) (.mv (.tmp 16)) none [1, 0, 1]]
def l18r8 : List AOper :=
  [AOper.mk (some 4) (.mv (.const (.bool true))) none []]
def l18 : AFn :=
  (AFn.mk 26 2 (ACode.seq (ACode.reg l18r0) (ACode.seq (ACode.seq (ACode.reg l18r1) (ACode.cond (.tmp 10) (ACode.seq (ACode.reg l18r2) ACode.ret) ACode.skip)) (ACode.seq (ACode.seq (ACode.reg l18r3) (ACode.block 0 (ACode.loop (ACode.seq (ACode.seq (ACode.reg l18r4) (ACode.cond (.tmp 14) ACode.skip (ACode.exit 0))) (ACode.seq (ACode.block 1 (ACode.seq (ACode.draw l18r5) (ACode.cond (.tmp 25) (ACode.seq (ACode.reg l18r6) ACode.ret) ACode.skip))) (ACode.reg l18r7)))))) (ACode.seq (ACode.reg l18r8) ACode.ret)))) [ARes.tmp 4])
theorem l18_eq : lowFn Try.prog 18 = some l18 := by kernel_rfl
def l19r0 : List AOper :=
  [AOper.mk (some 2) (.box (.tmp 0)) none [], AOper.mk (some 4) (.mv (.const (.int .i64 0))) none []]
def l19r1 : List AOper :=
  [AOper.mk (some 5) (.fld 1 (.tmp 2)) none [], AOper.mk (some 6) (.load false 1 (.tmp 5)) none [0], AOper.mk (some 7) (.mv (.tmp 1)) none [], AOper.mk (some 8) (.call 50 [.tmp 6, .tmp 7]) none [1, 2], AOper.mk (some 1) (.mv (.tmp 8)) none [3, 3, 0, 1, 2, 3]]
def l19r2 : List AOper :=
  [AOper.mk (some 9) (.mv (.tmp 1)) none [], AOper.mk (some 10) (.bin .lss (.tmp 9) (.const (.int .i64 0))) none [0]]
def l19r3 : List AOper :=
  [AOper.mk (some 4) (.mv (.const (.int .i64 (-1)))) none []]
def l19r4 : List AOper :=
  [AOper.mk (some 11) (.fld 2 (.tmp 2)) none [], AOper.mk (some 12) (.load false 1 (.tmp 11)) none [0], AOper.mk (some 13) (.mv (.tmp 1)) none [], AOper.mk (some 14) (.call 50 [.tmp 12, .tmp 13]) none [1, 2], AOper.mk (some 1) (.mv (.tmp 14)) none [3, 3, 0, 1, 2, 3]]
def l19r5 : List AOper :=
  [AOper.mk (some 15) (.mv (.tmp 1)) none [], AOper.mk (some 16) (.bin .lss (.tmp 15) (.const (.int .i64 0))) none [0]]
def l19r6 : List AOper :=
  [AOper.mk (some 4) (.mv (.const (.int .i64 (-1)))) none []]
def l19r7 : List AOper :=
  [AOper.mk (some 17) (.mv (.tmp 1)) none [], AOper.mk (some 4) (.mv (.tmp 17)) none [0, 0]]
def l19 : AFn :=
  (AFn.mk 18 2 (ACode.seq (ACode.reg l19r0) (ACode.seq (ACode.reg l19r1) (ACode.seq (ACode.seq (ACode.reg l19r2) (ACode.cond (.tmp 10) (ACode.seq (ACode.reg l19r3) ACode.ret) ACode.skip)) (ACode.seq (ACode.reg l19r4) (ACode.seq (ACode.seq (ACode.reg l19r5) (ACode.cond (.tmp 16) (ACode.seq (ACode.reg l19r6) ACode.ret) ACode.skip)) (ACode.seq (ACode.reg l19r7) ACode.ret)))))) [ARes.tmp 4])
theorem l19_eq : lowFn Try.prog 19 = some l19 := by kernel_rfl
def l21r0 : List AOper :=
  [AOper.mk (some 1) (.box (.tmp 0)) none [], AOper.mk (some 2) (.alloc [.int .i64 0, .slice none 0 0, .slice none 0 0]) none []]
def l21r1 : List AOper :=
  [AOper.mk (some 3) (.alloc [.int .i64 0, .slice none 0 0, .slice none 0 0]) none []]
def l21r2 : List AOper :=
  [AOper.mk (some 4) (.fld 0 (.tmp 1)) none [], AOper.mk (some 5) (.load false 1 (.tmp 4)) none [0], AOper.mk (some 6) (.fld 0 (.tmp 3)) none [0, 1], AOper.mk none (.store 1 (.tmp 6) (.tmp 5)) none [2, 1, 0, 1]]
def l21r3 : List AOper :=
  [AOper.mk (some 7) (.fld 1 (.tmp 1)) none [], AOper.mk (some 8) (.load false 1 (.tmp 7)) none [0], AOper.mk (some 9) (.call 16 [.tmp 8]) none [1], AOper.mk (some 10) (.fld 1 (.tmp 3)) none [0, 1, 2], AOper.mk none (.store 1 (.tmp 10) (.tmp 9)) none [3, 2, 2, 0, 1, 2]]
def l21r4 : List AOper :=
  [AOper.mk (some 11) (.fld 2 (.tmp 1)) none [], AOper.mk (some 12) (.load false 1 (.tmp 11)) none [0], AOper.mk (some 13) (.call 16 [.tmp 12]) none [1], AOper.mk (some 14) (.fld 2 (.tmp 3)) none [0, 1, 2], AOper.mk none (.store 1 (.tmp 14) (.tmp 13)) none [3, 2, 2, 0, 1, 2]]
def l21r5 : List AOper :=
  [AOper.mk (some 15) (.load true 3 (.tmp 3)) none [], AOper.mk none (.store 3 (.tmp 2) (.tmp 15)) none [0, 0]]
def l21 : AFn :=
  (AFn.mk 16 1 (ACode.seq (ACode.reg l21r0) (ACode.seq (ACode.reg l21r1) (ACode.seq (ACode.reg l21r2) (ACode.seq (ACode.reg l21r3) (ACode.seq (ACode.reg l21r4) (ACode.seq (ACode.reg l21r5) ACode.ret)))))) [ARes.cell 2 true 3])
theorem l21_eq : lowFn Try.prog 21 = some l21 := by kernel_rfl
def l23r0 : List AOper :=
  [AOper.mk (some 2) (.box (.tmp 0)) none [], AOper.mk (some 3) (.box (.tmp 1)) none [], AOper.mk (some 4) (.mv (.const (.bool false))) none []]
def l23r1 : List AOper :=
  [AOper.mk (some 5) (.fld 0 (.tmp 2)) none [], AOper.mk (some 6) (.load false 1 (.tmp 5)) none [0], AOper.mk (some 7) (.fld 0 (.tmp 3)) none [], AOper.mk (some 8) (.load false 1 (.tmp 7)) none [2], AOper.mk (some 9) (.bin .neq (.tmp 6) (.tmp 8)) none [1, 3]]
def l23r2 : List AOper :=
  [AOper.mk (some 4) (.mv (.const (.bool false))) none []]
def l23r3 : List AOper :=
  [AOper.mk (some 10) (.fld 1 (.tmp 2)) none [], AOper.mk (some 11) (.load false 1 (.tmp 10)) none [0], AOper.mk (some 12) (.fld 1 (.tmp 3)) none [], AOper.mk (some 13) (.load false 1 (.tmp 12)) none [2], AOper.mk (some 14) (.call 18 [.tmp 11, .tmp 13]) none [1, 3], AOper.mk (some 15) (.un .not (.tmp 14)) none [4]]
def l23r4 : List AOper :=
  [AOper.mk (some 4) (.mv (.const (.bool false))) none []]
def l23r5 : List AOper :=
  [AOper.mk (some 16) (.fld 2 (.tmp 2)) none [], AOper.mk (some 17) (.load false 1 (.tmp 16)) none [0], AOper.mk (some 18) (.fld 2 (.tmp 3)) none [], AOper.mk (some 19) (.load false 1 (.tmp 18)) none [2], AOper.mk (some 20) (.call 18 [.tmp 17, .tmp 19]) none [1, 3], AOper.mk (some 21) (.un .not (.tmp 20)) none [4]]
def l23r6 : List AOper :=
  [AOper.mk (some 4) (.mv (.const (.bool false))) none []]
def l23r7 : List AOper :=
  [AOper.mk (some 4) (.mv (.const (.bool true))) none []]
def l23 : AFn :=
  (AFn.mk 22 2 (ACode.seq (ACode.reg l23r0) (ACode.seq (ACode.seq (ACode.reg l23r1) (ACode.cond (.tmp 9) (ACode.seq (ACode.reg l23r2) ACode.ret) ACode.skip)) (ACode.seq (ACode.seq (ACode.reg l23r3) (ACode.cond (.tmp 15) (ACode.seq (ACode.reg l23r4) ACode.ret) ACode.skip)) (ACode.seq (ACode.seq (ACode.reg l23r5) (ACode.cond (.tmp 21) (ACode.seq (ACode.reg l23r6) ACode.ret) ACode.skip)) (ACode.seq (ACode.reg l23r7) ACode.ret))))) [ARes.tmp 4])
theorem l23_eq : lowFn Try.prog 23 = some l23 := by kernel_rfl
def l24r0 : List AOper :=
  [AOper.mk (some 4) (.mv (.const (.int .i64 0))) none []]
def l24r1 : List AOper :=
  [AOper.mk (some 5) (.mv (.const (.int .i64 0))) none []]
def l24r2 : List AOper :=
  [AOper.mk (some 6) (.mv (.tmp 5)) none [], AOper.mk (some 7) (.mv (.tmp 0)) none [], AOper.mk (some 8) (.len (.tmp 7)) none [1], AOper.mk (some 9) (.bin .lss (.tmp 6) (.tmp 8)) none [0, 2]]
def l24r3 : List AOper :=
  [AOper.mk (some 12) (.mv (.tmp 0)) none [], AOper.mk (some 13) (.mv (.tmp 5)) none [], AOper.mk (some 14) (.mv (.tmp 1)) none [], AOper.mk (some 15) (.idxA 1 (.tmp 12) (.tmp 13)) none [0, 1, 0, 1, 2], AOper.mk none (.store 1 (.tmp 15) (.tmp 14)) none [3, 2, 0, 1, 2]]
def l24r4 : List AOper :=
  [AOper.mk (some 16) (.mv (.tmp 1)) none [], AOper.mk (some 17) (.bin .add (.tmp 16) (.const (.int .i64 1))) none [0], AOper.mk (some 1) (.mv (.tmp 17)) none [1, 0, 1]]
def l24r5 : List AOper :=
  [AOper.mk (some 10) (.mv (.tmp 5)) none [], AOper.mk (some 11) (.bin .add (.tmp 10) (.const (.int .i64 1))) none [0], AOper.mk (some 5) (.mv (.tmp 11)) none [1, 0, 1]]
def l24r6 : List AOper :=
  [AOper.mk (some 18) (.mv (.tmp 1)) none [], AOper.mk (some 4) (.mv (.tmp 18)) none [0, 0]]
def l24 : AFn :=
  (AFn.mk 19 2 (ACode.seq (ACode.reg l24r0) (ACode.seq (ACode.seq (ACode.reg l24r1) (ACode.block 0 (ACode.loop (ACode.seq (ACode.seq (ACode.reg l24r2) (ACode.cond (.tmp 9) ACode.skip (ACode.exit 0))) (ACode.seq (ACode.block 1 (ACode.seq (ACode.reg l24r3) (ACode.reg l24r4))) (ACode.reg l24r5)))))) (ACode.seq (ACode.reg l24r6) ACode.ret))) [ARes.tmp 4])
theorem l24_eq : lowFn Try.prog 24 = some l24 := by kernel_rfl
def l26r0 : List AOper :=
  [AOper.mk (some 4) (.mv (.const (.int .i64 0))) none []]
def l26r1 : List AOper :=
  [AOper.mk (some 5) (.mv (.const (.int .i64 0))) none []]
def l26r2 : List AOper :=
  [AOper.mk (some 6) (.mv (.tmp 5)) none [], AOper.mk (some 7) (.mv (.tmp 0)) none [], AOper.mk (some 8) (.len (.tmp 7)) none [1], AOper.mk (some 9) (.bin .lss (.tmp 6) (.tmp 8)) none [0, 2]]
def l26r3 : List AOper :=
  [AOper.mk (some 12) (.mv (.tmp 0)) none [], AOper.mk (some 13) (.mv (.tmp 5)) none [], AOper.mk (some 14) (.idxA 1 (.tmp 12) (.tmp 13)) none [0, 1], AOper.mk (some 15) (.load false 1 (.tmp 14)) none [2], AOper.mk (some 16) (.mv (.tmp 1)) none [], AOper.mk (some 17) (.bin .neq (.tmp 15) (.tmp 16)) none [3, 4]]
def l26r4 : List AOper :=
  [AOper.mk (some 4) (.mv (.const (.int .i64 (-1)))) none []]
def l26r5 : List AOper :=
  [AOper.mk (some 18) (.mv (.tmp 1)) none [], AOper.mk (some 19) (.bin .add (.tmp 18) (.const (.int .i64 1))) none [0], AOper.mk (some 1) (.mv (.tmp 19)) none [1, 0, 1]]
def l26r6 : List AOper :=
  [AOper.mk (some 10) (.mv (.tmp 5)) none [], AOper.mk (some 11) (.bin .add (.tmp 10) (.const (.int .i64 1))) none [0], AOper.mk (some 5) (.mv (.tmp 11)) none [1, 0, 1]]
def l26r7 : List AOper :=
  [AOper.mk (some 20) (.mv (.tmp 1)) none [], AOper.mk (some 4) (.mv (.tmp 20)) none [0, 0]]
def l26 : AFn :=
  (AFn.mk 21 2 (ACode.seq (ACode.reg l26r0) (ACode.seq (ACode.seq (ACode.reg l26r1) (ACode.block 0 (ACode.loop (ACode.seq (ACode.seq (ACode.reg l26r2) (ACode.cond (.tmp 9) ACode.skip (ACode.exit 0))) (ACode.seq (ACode.block 1 (ACode.seq (ACode.seq (ACode.reg l26r3) (ACode.cond (.tmp 17) (ACode.seq (ACode.reg l26r4) ACode.ret) ACode.skip)) (ACode.reg l26r5))) (ACode.reg l26r6)))))) (ACode.seq (ACode.reg l26r7) ACode.ret))) [ARes.tmp 4])
theorem l26_eq : lowFn Try.prog 26 = some l26 := by kernel_rfl
def l37r0 : List AOper :=
  [AOper.mk (some 2) (.box (.tmp 0)) none [], AOper.mk (some 3) (.box (.tmp 1)) none [], AOper.mk (some 4) (.mv (.const (.int .i64 0))) none []]
def l37r1 : List AOper :=
  [AOper.mk (some 7) (.load true 3 (.tmp 2)) none [], AOper.mk (some 8) (.call 73 [.tmp 7]) none [0], AOper.mk (some 9) (.un .not (.tmp 8)) none [1], AOper.mk (some 10) (.mv (.tmp 9)) none [2, 1], AOper.mk (some 11) (.load true 3 (.tmp 3)) (some (10, false)) [3], AOper.mk (some 12) (.call 73 [.tmp 11]) (some (10, false)) [4, 3, 3], AOper.mk (some 13) (.un .not (.tmp 12)) (some (10, false)) [5, 3], AOper.mk (some 14) (.pick (.tmp 10) (.const (.bool true)) (.tmp 13)) none [3, 6], AOper.mk (some 15) (.mv (.tmp 14)) none [7, 5], AOper.mk (some 16) (.fld 1 (.tmp 2)) (some (15, false)) [8], AOper.mk (some 17) (.load false 1 (.tmp 16)) (some (15, false)) [9, 8], AOper.mk (some 18) (.fld 1 (.tmp 3)) (some (15, false)) [8], AOper.mk (some 19) (.load false 1 (.tmp 18)) (some (15, false)) [11, 8], AOper.mk (some 20) (.call 74 [.tmp 17, .tmp 19]) (some (15, false)) [10, 12, 8, 8], AOper.mk (some 21) (.un .not (.tmp 20)) (some (15, false)) [13, 8], AOper.mk (some 22) (.pick (.tmp 15) (.const (.bool true)) (.tmp 21)) none [8, 14]]
def l37r2 : List AOper :=
  [AOper.mk (some 4) (.mv (.const (.int .i64 (-1)))) none []]
def l37r3 : List AOper :=
  [AOper.mk (some 23) (.load true 3 (.tmp 2)) none [], AOper.mk (some 24) (.call 62 [.tmp 23]) none [0], AOper.mk (some 5) (.mv (.tmp 24)) none [1, 1, 0, 1]]
def l37r4 : List AOper :=
  [AOper.mk (some 25) (.load true 3 (.tmp 3)) none [], AOper.mk (some 26) (.call 62 [.tmp 25]) none [0], AOper.mk (some 6) (.mv (.tmp 26)) none [1, 1, 0, 1]]
def l37r5 : List AOper :=
  [AOper.mk (some 27) (.mv (.tmp 5)) none [], AOper.mk (some 28) (.mv (.tmp 6)) none [], AOper.mk (some 29) (.call 75 [.tmp 27, .tmp 28, .const (.bool false)]) none [0, 1]]
def l37r6 : List AOper :=
  [AOper.mk (some 4) (.mv (.const (.int .i64 0))) none []]
def l37r7 : List AOper :=
  [AOper.mk (some 30) (.mv (.tmp 5)) none [], AOper.mk (some 31) (.mv (.tmp 6)) none [], AOper.mk (some 32) (.call 75 [.tmp 30, .tmp 31, .const (.bool true)]) none [0, 1], AOper.mk (some 33) (.mv (.tmp 32)) none [2, 2], AOper.mk (some 34) (.mv (.tmp 5)) (some (33, true)) [3], AOper.mk (some 35) (.call 76 [.tmp 34]) (some (33, true)) [4, 3, 3], AOper.mk (some 36) (.pick (.tmp 33) (.tmp 35) (.const (.bool false))) none [3, 5]]
def l37r8 : List AOper :=
  [AOper.mk (some 4) (.mv (.const (.int .i64 1))) none []]
def l37r9 : List AOper :=
  [AOper.mk (some 4) (.mv (.const (.int .i64 2))) none []]
def l37 : AFn :=
  (AFn.mk 37 2 (ACode.seq (ACode.reg l37r0) (ACode.seq (ACode.seq (ACode.reg l37r1) (ACode.cond (.tmp 22) (ACode.seq (ACode.reg l37r2) ACode.ret) ACode.skip)) (ACode.seq (ACode.reg l37r3) (ACode.seq (ACode.reg l37r4) (ACode.seq (ACode.seq (ACode.reg l37r5) (ACode.cond (.tmp 29) (ACode.seq (ACode.reg l37r6) ACode.ret) ACode.skip)) (ACode.seq (ACode.seq (ACode.reg l37r7) (ACode.cond (.tmp 36) (ACode.seq (ACode.reg l37r8) ACode.ret) ACode.skip)) (ACode.seq (ACode.reg l37r9) ACode.ret))))))) [ARes.tmp 4])
theorem l37_eq : lowFn Try.prog 37 = some l37 := by kernel_rfl
def l38r0 : List AOper :=
  [AOper.mk (some 2) (.box (.tmp 0)) none [], AOper.mk (some 3) (.box (.tmp 1)) none [], AOper.mk (some 4) (.mv (.const (.int .i64 0))) none []]
def l38r1 : List AOper :=
  [AOper.mk (some 5) (.load true 3 (.tmp 2)) none [], AOper.mk (some 6) (.call 77 [.tmp 5]) none [0], AOper.mk (some 7) (.un .not (.tmp 6)) none [1], AOper.mk (some 8) (.mv (.tmp 7)) none [2, 1], AOper.mk (some 9) (.load true 3 (.tmp 3)) (some (8, false)) [3], AOper.mk (some 10) (.call 77 [.tmp 9]) (some (8, false)) [4, 3, 3], AOper.mk (some 11) (.un .not (.tmp 10)) (some (8, false)) [5, 3], AOper.mk (some 12) (.pick (.tmp 8) (.const (.bool true)) (.tmp 11)) none [3, 6], AOper.mk (some 13) (.mv (.tmp 12)) none [7, 5], AOper.mk (some 14) (.fld 1 (.tmp 2)) (some (13, false)) [8], AOper.mk (some 15) (.load false 1 (.tmp 14)) (some (13, false)) [9, 8], AOper.mk (some 16) (.fld 1 (.tmp 3)) (some (13, false)) [8], AOper.mk (some 17) (.load false 1 (.tmp 16)) (some (13, false)) [11, 8], AOper.mk (some 18) (.call 78 [.tmp 15, .tmp 17]) (some (13, false)) [10, 12, 8, 8], AOper.mk (some 19) (.un .not (.tmp 18)) (some (13, false)) [13, 8], AOper.mk (some 20) (.pick (.tmp 13) (.const (.bool true)) (.tmp 19)) none [8, 14]]
def l38r2 : List AOper :=
  [AOper.mk (some 4) (.mv (.const (.int .i64 (-1)))) none []]
def l38r3a : List AOper :=
  [AOper.mk (some 21) (.load true 3 (.tmp 2)) none [], AOper.mk (some 22) (.call 70 [.tmp 21]) none [0], AOper.mk (some 23) (.load true 3 (.tmp 3)) none []]
def l38r3b : List AOper :=
  [AOper.mk (some 24) (.call 70 [.tmp 23]) none [2, 1], AOper.mk (some 25) (.call 79 [.tmp 22, .tmp 24]) none [1, 3, 3], AOper.mk (some 26) (.un .not (.tmp 25)) none [4]]
def l38r3 : List AOper := l38r3a ++ l38r3b
def l38r4 : List AOper :=
  [AOper.mk (some 4) (.mv (.const (.int .i64 0))) none []]
def l38r5a : List AOper :=
  [AOper.mk (some 27) (.load true 3 (.tmp 3)) none [], AOper.mk (some 28) (.call 70 [.tmp 27]) none [0], AOper.mk (some 29) (.load true 3 (.tmp 2)) none []]
def l38r5b : List AOper :=
  [AOper.mk (some 30) (.call 70 [.tmp 29]) none [2, 1], AOper.mk (some 31) (.call 79 [.tmp 28, .tmp 30]) none [1, 3, 3], AOper.mk (some 32) (.un .not (.tmp 31)) none [4], AOper.mk (some 33) (.mv (.tmp 32)) none [5, 4], AOper.mk (some 34) (.load true 3 (.tmp 2)) (some (33, true)) [6], AOper.mk (some 35) (.call 80 [.tmp 34]) (some (33, true)) [7, 6, 6], AOper.mk (some 36) (.pick (.tmp 33) (.tmp 35) (.const (.bool false))) none [6, 8]]
def l38r5 : List AOper := l38r5a ++ l38r5b
def l38r6 : List AOper :=
  [AOper.mk (some 4) (.mv (.const (.int .i64 1))) none []]
def l38r7 : List AOper :=
  [AOper.mk (some 4) (.mv (.const (.int .i64 2))) none []]
def l38 : AFn :=
  (AFn.mk 37 2 (ACode.seq (ACode.reg l38r0) (ACode.seq (ACode.seq (ACode.reg l38r1) (ACode.cond (.tmp 20) (ACode.seq (ACode.reg l38r2) ACode.ret) ACode.skip)) (ACode.seq (ACode.seq (ACode.draw l38r3) (ACode.cond (.tmp 26) (ACode.seq (ACode.reg l38r4) ACode.ret) ACode.skip)) (ACode.seq (ACode.seq (ACode.draw l38r5) (ACode.cond (.tmp 36) (ACode.seq (ACode.reg l38r6) ACode.ret) ACode.skip)) (ACode.seq (ACode.reg l38r7) ACode.ret))))) [ARes.tmp 4])
theorem l38_eq : lowFn Try.prog 38 = some l38 := by kernel_rfl
def l43r0 : List AOper :=
  [AOper.mk (some 4) (.mv (.const (.slice none 0 0))) none []]
def l43r1 : List AOper :=
  [AOper.mk (some 7) (.mv (.tmp 0)) none [], AOper.mk (some 8) (.call 47 [.tmp 7]) none [0], AOper.mk (some 9) (.un .not (.tmp 8)) none [1], AOper.mk (some 10) (.mv (.tmp 9)) none [2, 1], AOper.mk (some 11) (.mv (.tmp 1)) (some (10, false)) [3], AOper.mk (some 12) (.call 47 [.tmp 11]) (some (10, false)) [4, 3, 3], AOper.mk (some 13) (.un .not (.tmp 12)) (some (10, false)) [5, 3], AOper.mk (some 14) (.pick (.tmp 10) (.const (.bool true)) (.tmp 13)) none [3, 6], AOper.mk (some 15) (.mv (.tmp 14)) none [7, 5], AOper.mk (some 16) (.mv (.tmp 0)) (some (15, false)) [8], AOper.mk (some 17) (.len (.tmp 16)) (some (15, false)) [9, 8], AOper.mk (some 18) (.mv (.tmp 1)) (some (15, false)) [8], AOper.mk (some 19) (.len (.tmp 18)) (some (15, false)) [11, 8], AOper.mk (some 20) (.bin .neq (.tmp 17) (.tmp 19)) (some (15, false)) [10, 12, 8], AOper.mk (some 21) (.pick (.tmp 15) (.const (.bool true)) (.tmp 20)) none [8, 13]]
def l43r2 : List AOper :=
  [AOper.mk (some 4) (.mv (.const (.slice none 0 0))) none []]
def l43r3 : List AOper :=
  [AOper.mk (some 22) (.bslice 1 [.int .i64 0] [] 0) none [], AOper.mk (some 5) (.mv (.tmp 22)) none [0, 0]]
def l43r4 : List AOper :=
  [AOper.mk (some 6) (.mv (.const (.int .i64 0))) none []]
def l43r5 : List AOper :=
  [AOper.mk (some 23) (.mv (.tmp 6)) none [], AOper.mk (some 24) (.mv (.tmp 0)) none [], AOper.mk (some 25) (.len (.tmp 24)) none [1], AOper.mk (some 26) (.bin .lss (.tmp 23) (.tmp 25)) none [0, 2]]
def l43r6a : List AOper :=
  [AOper.mk (some 29) (.mv (.tmp 0)) none [], AOper.mk (some 30) (.mv (.tmp 6)) none [], AOper.mk (some 31) (.idxA 1 (.tmp 29) (.tmp 30)) none [0, 1], AOper.mk (some 32) (.load false 1 (.tmp 31)) none [2], AOper.mk (some 33) (.mv (.tmp 1)) none [], AOper.mk (some 34) (.mv (.tmp 6)) none [], AOper.mk (some 35) (.idxA 1 (.tmp 33) (.tmp 34)) none [4, 5], AOper.mk (some 36) (.load false 1 (.tmp 35)) none [6]]
def l43r6b : List AOper :=
  [AOper.mk (some 37) (.bin .neq (.tmp 32) (.tmp 36)) none [3, 7]]
def l43r6 : List AOper := l43r6a ++ l43r6b
def l43r7 : List AOper :=
  [AOper.mk (some 38) (.mv (.tmp 5)) none [], AOper.mk (some 39) (.mv (.tmp 6)) none [], AOper.mk (some 40) (.bslice 1 [.int .i64 0] [(0, .tmp 39)] 1) none [1], AOper.mk (some 41) (.append 1 (.tmp 38) (.tmp 40)) none [0, 2], AOper.mk (some 5) (.mv (.tmp 41)) none [3, 3, 0, 1, 2, 3]]
def l43r8 : List AOper :=
  [AOper.mk (some 27) (.mv (.tmp 6)) none [], AOper.mk (some 28) (.bin .add (.tmp 27) (.const (.int .i64 1))) none [0], AOper.mk (some 6) (.mv (.tmp 28)) none [1, 0, 1]]
def l43r9 : List AOper :=
  [AOper.mk (some 42) (.mv (.tmp 5)) none [], AOper.mk (some 4) (.mv (.tmp 42)) none [0, 0]]
def l43 : AFn :=
  (AFn.mk 43 2 (ACode.seq (ACode.reg l43r0) (ACode.seq (ACode.seq (ACode.reg l43r1) (ACode.cond (.tmp 21) (ACode.seq (ACode.reg l43r2) ACode.ret) ACode.skip)) (ACode.seq (ACode.reg l43r3) (ACode.seq (ACode.seq (ACode.reg l43r4) (ACode.block 0 (ACode.loop (ACode.seq (ACode.seq (ACode.reg l43r5) (ACode.cond (.tmp 26) ACode.skip (ACode.exit 0))) (ACode.seq (ACode.block 1 (ACode.seq (ACode.draw l43r6) (ACode.cond (.tmp 37) (ACode.reg l43r7) ACode.skip))) (ACode.reg l43r8)))))) (ACode.seq (ACode.reg l43r9) ACode.ret))))) [ARes.tmp 4])
theorem l43_eq : lowFn Try.prog 43 = some l43 := by kernel_rfl
def l44r0 : List AOper :=
  [AOper.mk (some 4) (.mv (.const (.slice none 0 0))) none []]
def l44r1 : List AOper :=
  [AOper.mk (some 8) (.mv (.tmp 0)) none [], AOper.mk (some 9) (.call 17 [.tmp 8]) none [0], AOper.mk (some 10) (.un .not (.tmp 9)) none [1], AOper.mk (some 11) (.mv (.tmp 10)) none [2, 1], AOper.mk (some 12) (.mv (.tmp 1)) (some (11, false)) [3], AOper.mk (some 13) (.call 17 [.tmp 12]) (some (11, false)) [4, 3, 3], AOper.mk (some 14) (.un .not (.tmp 13)) (some (11, false)) [5, 3], AOper.mk (some 15) (.pick (.tmp 11) (.const (.bool true)) (.tmp 14)) none [3, 6], AOper.mk (some 16) (.mv (.tmp 15)) none [7, 5], AOper.mk (some 17) (.mv (.tmp 0)) (some (16, false)) [8], AOper.mk (some 18) (.len (.tmp 17)) (some (16, false)) [9, 8], AOper.mk (some 19) (.mv (.tmp 1)) (some (16, false)) [8], AOper.mk (some 20) (.len (.tmp 19)) (some (16, false)) [11, 8], AOper.mk (some 21) (.bin .neq (.tmp 18) (.tmp 20)) (some (16, false)) [10, 12, 8], AOper.mk (some 22) (.pick (.tmp 16) (.const (.bool true)) (.tmp 21)) none [8, 13]]
def l44r2 : List AOper :=
  [AOper.mk (some 4) (.mv (.const (.slice none 0 0))) none []]
def l44r3 : List AOper :=
  [AOper.mk (some 5) (.mv (.const (.slice none 0 0))) none []]
def l44r4 : List AOper :=
  [AOper.mk (some 23) (.mv (.tmp 0)) none [], AOper.mk (some 24) (.len (.tmp 23)) none [0], AOper.mk (some 25) (.mv (.const (.int .i64 0))) none []]
def l44r5 : List AOper :=
  [AOper.mk (some 26) (.bin .lss (.tmp 25) (.tmp 24)) none []]
def l44r6 : List AOper :=
  [AOper.mk (some 27) (.mv (.tmp 25)) none [], AOper.mk (some 28) (.idxA 1 (.tmp 23) (.tmp 25)) none [], AOper.mk (some 29) (.load false 1 (.tmp 28)) none [1], AOper.mk (some 6) (.mv (.tmp 27)) none [0, 0, 1, 2], AOper.mk (some 7) (.mv (.tmp 29)) none [2, 3, 0, 1, 2, 3]]
def l44r7 : List AOper :=
  [AOper.mk (some 30) (.mv (.tmp 7)) none [], AOper.mk (some 31) (.mv (.tmp 1)) none [], AOper.mk (some 32) (.mv (.tmp 6)) none [], AOper.mk (some 33) (.idxA 1 (.tmp 31) (.tmp 32)) none [1, 2], AOper.mk (some 34) (.load false 1 (.tmp 33)) none [3], AOper.mk (some 35) (.bin .neq (.tmp 30) (.tmp 34)) none [0, 4]]
def l44r8 : List AOper :=
  [AOper.mk (some 36) (.mv (.tmp 5)) none [], AOper.mk (some 37) (.mv (.tmp 6)) none [], AOper.mk (some 38) (.bslice 1 [.int .i64 0] [(0, .tmp 37)] 1) none [1], AOper.mk (some 39) (.append 1 (.tmp 36) (.tmp 38)) none [0, 2], AOper.mk (some 5) (.mv (.tmp 39)) none [3, 3, 0, 1, 2, 3]]
def l44r9 : List AOper :=
  [AOper.mk (some 40) (.bin .add (.tmp 25) (.const (.int .i64 1))) none [], AOper.mk (some 25) (.mv (.tmp 40)) none [0]]
def l44r10 : List AOper :=
  [AOper.mk (some 41) (.mv (.tmp 5)) none [], AOper.mk (some 4) (.mv (.tmp 41)) none [0, 0]]
def l44 : AFn :=
  (AFn.mk 42 2 (ACode.seq (ACode.reg l44r0) (ACode.seq (ACode.seq (ACode.reg l44r1) (ACode.cond (.tmp 22) (ACode.seq (ACode.reg l44r2) ACode.ret) ACode.skip)) (ACode.seq (ACode.reg l44r3) (ACode.seq (ACode.seq (ACode.reg l44r4) (ACode.block 0 (ACode.loop (ACode.seq (ACode.reg l44r5) (ACode.seq (ACode.cond (.tmp 26) ACode.skip (ACode.exit 0)) (ACode.seq (ACode.block 1 (ACode.seq (ACode.reg l44r6) (ACode.seq (ACode.reg l44r7) (ACode.cond (.tmp 35) (ACode.reg l44r8) ACode.skip)))) (ACode.reg l44r9))))))) (ACode.seq (ACode.reg l44r10) ACode.ret))))) [ARes.tmp 4])
theorem l44_eq : lowFn Try.prog 44 = some l44 := by kernel_rfl
def l47r0 : List AOper :=
  [AOper.mk (some 2) (.mv (.const (.bool false))) none []]
def l47r1 : List AOper :=
  [AOper.mk (some 3) (.mv (.tmp 0)) none [], AOper.mk (some 4) (.len (.tmp 3)) none [0], AOper.mk (some 5) (.bin .leq (.tmp 4) (.const (.int .i64 60))) none [1], AOper.mk (some 6) (.mv (.tmp 5)) none [2], AOper.mk (some 7) (.mv (.tmp 0)) (some (6, true)) [3], AOper.mk (some 8) (.call 56 [.tmp 7, .const (.int .i64 0), .const (.int .i64 255)]) (some (6, true)) [4, 3, 3], AOper.mk (some 9) (.pick (.tmp 6) (.tmp 8) (.const (.bool false))) none [3, 5], AOper.mk (some 2) (.mv (.tmp 9)) none [6, 5, 0, 1, 2, 3, 4, 5, 6]]
def l47 : AFn :=
  (AFn.mk 10 1 (ACode.seq (ACode.reg l47r0) (ACode.seq (ACode.reg l47r1) ACode.ret)) [ARes.tmp 2])
theorem l47_eq : lowFn Try.prog 47 = some l47 := by kernel_rfl
def l48r0 : List AOper :=
  [AOper.mk (some 2) (.mv (.const (.bool false))) none []]
def l48r1 : List AOper :=
  [AOper.mk (some 3) (.mv (.tmp 0)) none [], AOper.mk (some 4) (.bin .leq (.const (.int .i64 0)) (.tmp 3)) none [0], AOper.mk (some 5) (.mv (.tmp 4)) none [1], AOper.mk (some 6) (.mv (.tmp 0)) (some (5, true)) [2], AOper.mk (some 7) (.bin .leq (.tmp 6) (.const (.int .i64 60))) (some (5, true)) [3, 2], AOper.mk (some 8) (.pick (.tmp 5) (.tmp 7) (.const (.bool false))) none [2, 4], AOper.mk (some 2) (.mv (.tmp 8)) none [5, 2, 0, 1, 2, 3, 4, 5]]
def l48 : AFn :=
  (AFn.mk 9 1 (ACode.seq (ACode.reg l48r0) (ACode.seq (ACode.reg l48r1) ACode.ret)) [ARes.tmp 2])
theorem l48_eq : lowFn Try.prog 48 = some l48 := by kernel_rfl
def l49r0 : List AOper :=
  [AOper.mk (some 2) (.mv (.const (.bool false))) none []]
def l49r1 : List AOper :=
  [AOper.mk (some 5) (.mv (.tmp 0)) none [], AOper.mk (some 6) (.len (.tmp 5)) none [0], AOper.mk (some 7) (.mv (.const (.int .i64 0))) none []]
def l49r2 : List AOper :=
  [AOper.mk (some 8) (.bin .lss (.tmp 7) (.tmp 6)) none []]
def l49r3 : List AOper :=
  [AOper.mk (some 9) (.idxA 1 (.tmp 5) (.tmp 7)) none [], AOper.mk (some 10) (.load false 1 (.tmp 9)) none [0], AOper.mk (some 4) (.mv (.tmp 10)) none [1, 0, 1]]
def l49r4 : List AOper :=
  [AOper.mk (some 11) (.mv (.tmp 4)) none [], AOper.mk (some 12) (.call 84 [.tmp 11, .const (.int .i64 255)]) none [0], AOper.mk (some 13) (.un .not (.tmp 12)) none [1]]
def l49r5 : List AOper :=
  [AOper.mk (some 2) (.mv (.const (.bool false))) none []]
def l49r6 : List AOper :=
  [AOper.mk (some 14) (.bin .add (.tmp 7) (.const (.int .i64 1))) none [], AOper.mk (some 7) (.mv (.tmp 14)) none [0]]
def l49r7 : List AOper :=
  [AOper.mk (some 2) (.mv (.const (.bool true))) none []]
def l49 : AFn :=
  (AFn.mk 15 1 (ACode.seq (ACode.reg l49r0) (ACode.seq (ACode.seq (ACode.reg l49r1) (ACode.block 0 (ACode.loop (ACode.seq (ACode.reg l49r2) (ACode.seq (ACode.cond (.tmp 8) ACode.skip (ACode.exit 0)) (ACode.seq (ACode.block 1 (ACode.seq (ACode.reg l49r3) (ACode.seq (ACode.reg l49r4) (ACode.cond (.tmp 13) (ACode.seq (ACode.reg l49r5) ACode.ret) ACode.skip)))) (ACode.reg l49r6))))))) (ACode.seq (ACode.reg l49r7) ACode.ret))) [ARes.tmp 2])
theorem l49_eq : lowFn Try.prog 49 = some l49 := by kernel_rfl
def l50r0 : List AOper :=
  [AOper.mk (some 4) (.mv (.const (.int .i64 0))) none []]
def l50r1 : List AOper :=
  [AOper.mk (some 5) (.mv (.tmp 1)) none [], AOper.mk (some 6) (.mv (.tmp 0)) none [], AOper.mk (some 7) (.len (.tmp 6)) none [1], AOper.mk (some 8) (.bin .sub (.tmp 5) (.tmp 7)) none [0, 2], AOper.mk (some 1) (.mv (.tmp 8)) none [3, 0, 1, 2, 3]]
def l50r2 : List AOper :=
  [AOper.mk (some 9) (.mv (.tmp 1)) none [], AOper.mk (some 10) (.bin .lss (.tmp 9) (.const (.int .i64 0))) none [0]]
def l50r3 : List AOper :=
  [AOper.mk (some 4) (.mv (.const (.int .i64 (-1)))) none []]
def l50r4 : List AOper :=
  [AOper.mk (some 11) (.mv (.tmp 1)) none [], AOper.mk (some 4) (.mv (.tmp 11)) none [0, 0]]
def l50 : AFn :=
  (AFn.mk 12 2 (ACode.seq (ACode.reg l50r0) (ACode.seq (ACode.reg l50r1) (ACode.seq (ACode.seq (ACode.reg l50r2) (ACode.cond (.tmp 10) (ACode.seq (ACode.reg l50r3) ACode.ret) ACode.skip)) (ACode.seq (ACode.reg l50r4) ACode.ret)))) [ARes.tmp 4])
theorem l50_eq : lowFn Try.prog 50 = some l50 := by kernel_rfl
def l55r0 : List AOper :=
  [AOper.mk (some 2) (.mv (.const (.int .i64 0))) none []]
def l55r1 : List AOper :=
  [AOper.mk (some 3) (.mv (.const (.int .i64 1))) none []]
def l55r2 : List AOper :=
  [AOper.mk (some 4) (.mv (.const (.int .i64 0))) none []]
def l55r3 : List AOper :=
  [AOper.mk (some 5) (.mv (.tmp 4)) none [], AOper.mk (some 6) (.mv (.tmp 0)) none [], AOper.mk (some 7) (.len (.tmp 6)) none [1], AOper.mk (some 8) (.bin .lss (.tmp 5) (.tmp 7)) none [0, 2]]
def l55r4 : List AOper :=
  [AOper.mk (some 11) (.mv (.tmp 3)) none [], AOper.mk (some 12) (.mv (.tmp 0)) none [], AOper.mk (some 13) (.mv (.tmp 4)) none [], AOper.mk (some 14) (.idxA 1 (.tmp 12) (.tmp 13)) none [1, 2], AOper.mk (some 15) (.load false 1 (.tmp 14)) none [3], AOper.mk (some 16) (.bin .mul (.tmp 11) (.tmp 15)) none [0, 4], AOper.mk (some 3) (.mv (.tmp 16)) none [5, 0, 1, 2, 3, 4, 5]]
def l55r5 : List AOper :=
  [AOper.mk (some 9) (.mv (.tmp 4)) none [], AOper.mk (some 10) (.bin .add (.tmp 9) (.const (.int .i64 1))) none [0], AOper.mk (some 4) (.mv (.tmp 10)) none [1, 0, 1]]
def l55r6 : List AOper :=
  [AOper.mk (some 17) (.mv (.tmp 3)) none [], AOper.mk (some 2) (.mv (.tmp 17)) none [0, 0]]
def l55 : AFn :=
  (AFn.mk 18 1 (ACode.seq (ACode.reg l55r0) (ACode.seq (ACode.reg l55r1) (ACode.seq (ACode.seq (ACode.reg l55r2) (ACode.block 0 (ACode.loop (ACode.seq (ACode.seq (ACode.reg l55r3) (ACode.cond (.tmp 8) ACode.skip (ACode.exit 0))) (ACode.seq (ACode.block 1 (ACode.reg l55r4)) (ACode.reg l55r5)))))) (ACode.seq (ACode.reg l55r6) ACode.ret)))) [ARes.tmp 2])
theorem l55_eq : lowFn Try.prog 55 = some l55 := by kernel_rfl
def l56r0 : List AOper :=
  [AOper.mk (some 6) (.mv (.const (.bool false))) none []]
def l56r1 : List AOper :=
  [AOper.mk (some 7) (.mv (.const (.int .i64 0))) none []]
def l56r2 : List AOper :=
  [AOper.mk (some 8) (.mv (.tmp 7)) none [], AOper.mk (some 9) (.mv (.tmp 0)) none [], AOper.mk (some 10) (.len (.tmp 9)) none [1], AOper.mk (some 11) (.bin .lss (.tmp 8) (.tmp 10)) none [0, 2]]
def l56r3 : List AOper :=
  [AOper.mk (some 14) (.mv (.tmp 0)) none [], AOper.mk (some 15) (.mv (.tmp 7)) none [], AOper.mk (some 16) (.idxA 1 (.tmp 14) (.tmp 15)) none [0, 1], AOper.mk (some 17) (.load false 1 (.tmp 16)) none [2], AOper.mk (some 18) (.mv (.tmp 1)) none [], AOper.mk (some 19) (.mv (.tmp 2)) none [], AOper.mk (some 20) (.call 60 [.tmp 17, .tmp 18, .tmp 19]) none [3, 4, 5], AOper.mk (some 21) (.un .not (.tmp 20)) none [6]]
def l56r4 : List AOper :=
  [AOper.mk (some 6) (.mv (.const (.bool false))) none []]
def l56r5 : List AOper :=
  [AOper.mk (some 12) (.mv (.tmp 7)) none [], AOper.mk (some 13) (.bin .add (.tmp 12) (.const (.int .i64 1))) none [0], AOper.mk (some 7) (.mv (.tmp 13)) none [1, 0, 1]]
def l56r6 : List AOper :=
  [AOper.mk (some 6) (.mv (.const (.bool true))) none []]
def l56 : AFn :=
  (AFn.mk 22 3 (ACode.seq (ACode.reg l56r0) (ACode.seq (ACode.seq (ACode.reg l56r1) (ACode.block 0 (ACode.loop (ACode.seq (ACode.seq (ACode.reg l56r2) (ACode.cond (.tmp 11) ACode.skip (ACode.exit 0))) (ACode.seq (ACode.block 1 (ACode.seq (ACode.reg l56r3) (ACode.cond (.tmp 21) (ACode.seq (ACode.reg l56r4) ACode.ret) ACode.skip))) (ACode.reg l56r5)))))) (ACode.seq (ACode.reg l56r6) ACode.ret))) [ARes.tmp 6])
theorem l56_eq : lowFn Try.prog 56 = some l56 := by kernel_rfl
def l60r0 : List AOper :=
  [AOper.mk (some 6) (.mv (.const (.bool false))) none []]
def l60r1 : List AOper :=
  [AOper.mk (some 7) (.mv (.tmp 1)) none [], AOper.mk (some 8) (.mv (.tmp 0)) none [], AOper.mk (some 9) (.bin .leq (.tmp 7) (.tmp 8)) none [0, 1], AOper.mk (some 10) (.mv (.tmp 9)) none [2], AOper.mk (some 11) (.mv (.tmp 0)) (some (10, true)) [3], AOper.mk (some 12) (.mv (.tmp 2)) (some (10, true)) [3], AOper.mk (some 13) (.bin .leq (.tmp 11) (.tmp 12)) (some (10, true)) [4, 5, 3], AOper.mk (some 14) (.pick (.tmp 10) (.tmp 13) (.const (.bool false))) none [3, 6], AOper.mk (some 6) (.mv (.tmp 14)) none [7, 3, 0, 1, 2, 3, 4, 5, 6, 7]]
def l60 : AFn :=
  (AFn.mk 15 3 (ACode.seq (ACode.reg l60r0) (ACode.seq (ACode.reg l60r1) ACode.ret)) [ARes.tmp 6])
theorem l60_eq : lowFn Try.prog 60 = some l60 := by kernel_rfl
def l62r0 : List AOper :=
  [AOper.mk (some 1) (.box (.tmp 0)) none [], AOper.mk (some 2) (.mv (.const (.slice none 0 0))) none []]
def l62r1 : List AOper :=
  [AOper.mk (some 5) (.bslice 1 [.int .i64 0] [] 0) none [], AOper.mk (some 3) (.mv (.tmp 5)) none [0, 0]]
def l62r2 : List AOper :=
  [AOper.mk (some 4) (.mv (.const (.int .i64 0))) none []]
def l62r3 : List AOper :=
  [AOper.mk (some 6) (.mv (.tmp 4)) none [], AOper.mk (some 7) (.fld 1 (.tmp 1)) none [], AOper.mk (some 8) (.load false 1 (.tmp 7)) none [1], AOper.mk (some 9) (.call 55 [.tmp 8]) none [2], AOper.mk (some 10) (.bin .lss (.tmp 6) (.tmp 9)) none [0, 3]]
def l62r4a : List AOper :=
  [AOper.mk (some 13) (.mv (.tmp 3)) none [], AOper.mk (some 14) (.load true 3 (.tmp 1)) none [], AOper.mk (some 15) (.fld 1 (.tmp 1)) none [], AOper.mk (some 16) (.load false 1 (.tmp 15)) none [2], AOper.mk (some 17) (.mv (.tmp 4)) none [], AOper.mk (some 18) (.call 90 [.tmp 16, .tmp 17]) none [3, 4], AOper.mk (some 19) (.call 89 [.tmp 14, .tmp 18]) none [1, 5, 5], AOper.mk (some 20) (.bslice 1 [.int .i64 0] [(0, .tmp 19)] 1) none [6]]
def l62r4b : List AOper :=
  [AOper.mk (some 21) (.append 1 (.tmp 13) (.tmp 20)) none [0, 7, 6], AOper.mk (some 3) (.mv (.tmp 21)) none [8, 8, 0, 1, 2, 3, 4, 5, 6, 7, 8]]
def l62r4 : List AOper := l62r4a ++ l62r4b
def l62r5 : List AOper :=
  [AOper.mk (some 11) (.mv (.tmp 4)) none [], AOper.mk (some 12) (.bin .add (.tmp 11) (.const (.int .i64 1))) none [0], AOper.mk (some 4) (.mv (.tmp 12)) none [1, 0, 1]]
def l62r6 : List AOper :=
  [AOper.mk (some 22) (.mv (.tmp 3)) none [], AOper.mk (some 2) (.mv (.tmp 22)) none [0, 0]]
def l62 : AFn :=
  (AFn.mk 23 1 (ACode.seq (ACode.reg l62r0) (ACode.seq (ACode.reg l62r1) (ACode.seq (ACode.seq (ACode.reg l62r2) (ACode.block 0 (ACode.loop (ACode.seq (ACode.seq (ACode.reg l62r3) (ACode.cond (.tmp 10) ACode.skip (ACode.exit 0))) (ACode.seq (ACode.block 1 (ACode.draw l62r4)) (ACode.reg l62r5)))))) (ACode.seq (ACode.reg l62r6) ACode.ret)))) [ARes.tmp 2])
theorem l62_eq : lowFn Try.prog 62 = some l62 := by kernel_rfl
def l64r0 : List AOper :=
  [AOper.mk (some 1) (.box (.tmp 0)) none [], AOper.mk (some 2) (.mv (.const (.int .i64 0))) none []]
def l64r1 : List AOper :=
  [AOper.mk (some 3) (.fld 1 (.tmp 1)) none [], AOper.mk (some 4) (.load false 1 (.tmp 3)) none [0], AOper.mk (some 5) (.call 92 [.tmp 4]) none [1], AOper.mk (some 2) (.mv (.tmp 5)) none [2, 2, 0, 1, 2]]
def l64 : AFn :=
  (AFn.mk 6 1 (ACode.seq (ACode.reg l64r0) (ACode.seq (ACode.reg l64r1) ACode.ret)) [ARes.tmp 2])
theorem l64_eq : lowFn Try.prog 64 = some l64 := by kernel_rfl
def l70r0 : List AOper :=
  [AOper.mk (some 1) (.box (.tmp 0)) none [], AOper.mk (some 2) (.mv (.const (.slice none 0 0))) none []]
def l70r1 : List AOper :=
  [AOper.mk (some 5) (.load true 3 (.tmp 1)) none [], AOper.mk (some 6) (.call 64 [.tmp 5]) none [0], AOper.mk (some 7) (.mkslice 1 [.int .i64 0] (.tmp 6) (.tmp 6)) none [1, 1], AOper.mk (some 3) (.mv (.tmp 7)) none [2, 1, 0, 1, 2]]
def l70r2 : List AOper :=
  [AOper.mk (some 8) (.mv (.tmp 3)) none [], AOper.mk (some 9) (.len (.tmp 8)) none [0], AOper.mk (some 10) (.mv (.const (.int .i64 0))) none []]
def l70r3 : List AOper :=
  [AOper.mk (some 11) (.bin .lss (.tmp 10) (.tmp 9)) none []]
def l70r4 : List AOper :=
  [AOper.mk (some 12) (.mv (.tmp 10)) none [], AOper.mk (some 4) (.mv (.tmp 12)) none [0, 0]]
def l70r5a : List AOper :=
  [AOper.mk (some 13) (.mv (.tmp 3)) none [], AOper.mk (some 14) (.mv (.tmp 4)) none [], AOper.mk (some 15) (.load true 3 (.tmp 1)) none [], AOper.mk (some 16) (.fld 1 (.tmp 1)) none [], AOper.mk (some 17) (.load false 1 (.tmp 16)) none [3], AOper.mk (some 18) (.mv (.tmp 4)) none [], AOper.mk (some 19) (.call 94 [.tmp 17, .tmp 18]) none [4, 5], AOper.mk (some 20) (.call 93 [.tmp 15, .tmp 19]) none [2, 6, 6]]
def l70r5b : List AOper :=
  [AOper.mk (some 21) (.idxA 1 (.tmp 13) (.tmp 14)) none [0, 1, 0, 1, 2, 3, 4, 5, 6, 7], AOper.mk none (.store 1 (.tmp 21) (.tmp 20)) none [8, 7, 7, 0, 1, 2, 3, 4, 5, 6, 7]]
def l70r5 : List AOper := l70r5a ++ l70r5b
def l70r6 : List AOper :=
  [AOper.mk (some 22) (.bin .add (.tmp 10) (.const (.int .i64 1))) none [], AOper.mk (some 10) (.mv (.tmp 22)) none [0]]
def l70r7 : List AOper :=
  [AOper.mk (some 23) (.mv (.tmp 3)) none [], AOper.mk (some 2) (.mv (.tmp 23)) none [0, 0]]
def l70 : AFn :=
  (AFn.mk 24 1 (ACode.seq (ACode.reg l70r0) (ACode.seq (ACode.reg l70r1) (ACode.seq (ACode.seq (ACode.reg l70r2) (ACode.block 0 (ACode.loop (ACode.seq (ACode.reg l70r3) (ACode.seq (ACode.cond (.tmp 11) ACode.skip (ACode.exit 0)) (ACode.seq (ACode.block 1 (ACode.seq (ACode.reg l70r4) (ACode.draw l70r5))) (ACode.reg l70r6))))))) (ACode.seq (ACode.reg l70r7) ACode.ret)))) [ARes.tmp 2])
theorem l70_eq : lowFn Try.prog 70 = some l70 := by kernel_rfl
def l73r0 : List AOper :=
  [AOper.mk (some 1) (.box (.tmp 0)) none [], AOper.mk (some 2) (.mv (.const (.bool false))) none []]
def l73r1 : List AOper :=
  [AOper.mk (some 3) (.fld 1 (.tmp 1)) none [], AOper.mk (some 4) (.load false 1 (.tmp 3)) none [0], AOper.mk (some 5) (.call 96 [.tmp 4]) none [1], AOper.mk (some 6) (.mv (.tmp 5)) none [2, 2], AOper.mk (some 7) (.fld 2 (.tmp 1)) (some (6, true)) [3], AOper.mk (some 8) (.load false 1 (.tmp 7)) (some (6, true)) [4, 3], AOper.mk (some 9) (.len (.tmp 8)) (some (6, true)) [5, 3], AOper.mk (some 10) (.fld 1 (.tmp 1)) (some (6, true)) [3], AOper.mk (some 11) (.load false 1 (.tmp 10)) (some (6, true)) [7, 3], AOper.mk (some 12) (.len (.tmp 11)) (some (6, true)) [8, 3], AOper.mk (some 13) (.bin .eql (.tmp 9) (.tmp 12)) (some (6, true)) [6, 9, 3], AOper.mk (some 14) (.pick (.tmp 6) (.tmp 13) (.const (.bool false))) none [3, 10], AOper.mk (some 15) (.mv (.tmp 14)) none [11, 3], AOper.mk (some 16) (.fld 2 (.tmp 1)) (some (15, true)) [12], AOper.mk (some 17) (.load false 1 (.tmp 16)) (some (15, true)) [13, 12], AOper.mk (some 18) (.call 56 [.tmp 17, .const (.int .i64 (-60)), .const (.int .i64 60)]) (some (15, true)) [14, 12, 12], AOper.mk (some 19) (.pick (.tmp 15) (.tmp 18) (.const (.bool false))) none [12, 15], AOper.mk (some 20) (.mv (.tmp 19)) none [16, 15], AOper.mk (some 21) (.fld 0 (.tmp 1)) (some (20, true)) [17], AOper.mk (some 22) (.load false 1 (.tmp 21)) (some (20, true)) [18, 17], AOper.mk (some 23) (.call 60 [.tmp 22, .const (.int .i64 0), .const (.int .i64 60)]) (some (20, true)) [19, 17, 17], AOper.mk (some 24) (.pick (.tmp 20) (.tmp 23) (.const (.bool false))) none [17, 20], AOper.mk (some 25) (.mv (.tmp 24)) none [21, 20], AOper.mk (some 26) (.fld 1 (.tmp 1)) (some (25, true)) [22], AOper.mk (some 27) (.load false 1 (.tmp 26)) (some (25, true)) [23, 22], AOper.mk (some 28) (.call 55 [.tmp 27]) (some (25, true)) [24, 22, 22], AOper.mk (some 29) (.bin .eql (.tmp 28) (.const (.int .i64 0))) (some (25, true)) [25, 22], AOper.mk (some 30) (.mv (.tmp 29)) (some (25, true)) [26, 25, 22], AOper.mk (some 31) (.load true 3 (.tmp 1)) (some (30, false)) [27], AOper.mk (some 32) (.call 62 [.tmp 31]) (some (30, false)) [28, 27, 27], AOper.mk (some 33) (.call 56 [.tmp 32, .const (.int .i64 0), .const (.int .i64 59)]) (some (30, false)) [29, 29, 27], AOper.mk (some 34) (.pick (.tmp 30) (.const (.bool true)) (.tmp 33)) (some (25, true)) [27, 30, 22], AOper.mk (some 35) (.pick (.tmp 25) (.tmp 34) (.const (.bool false))) none [22, 31], AOper.mk (some 2) (.mv (.tmp 35)) none [32, 30, 0, 1, 2, 3, 4, 5, 6, 7, 8, 9, 10, 11, 12, 13, 14, 15, 16, 17, 18, 19, 20, 21, 22, 23, 24, 25, 26, 27, 28, 29, 30, 31, 32]]
def l73 : AFn :=
  (AFn.mk 36 1 (ACode.seq (ACode.reg l73r0) (ACode.seq (ACode.reg l73r1) ACode.ret)) [ARes.tmp 2])
theorem l73_eq : lowFn Try.prog 73 = some l73 := by kernel_rfl
def l74r0 : List AOper :=
  [AOper.mk (some 4) (.mv (.const (.bool false))) none []]
def l74r1 : List AOper :=
  [AOper.mk (some 6) (.mv (.tmp 0)) none [], AOper.mk (some 7) (.len (.tmp 6)) none [0], AOper.mk (some 8) (.mv (.tmp 1)) none [], AOper.mk (some 9) (.len (.tmp 8)) none [2], AOper.mk (some 10) (.bin .neq (.tmp 7) (.tmp 9)) none [1, 3]]
def l74r2 : List AOper :=
  [AOper.mk (some 4) (.mv (.const (.bool false))) none []]
def l74r3 : List AOper :=
  [AOper.mk (some 5) (.mv (.const (.int .i64 0))) none []]
def l74r4 : List AOper :=
  [AOper.mk (some 11) (.mv (.tmp 5)) none [], AOper.mk (some 12) (.mv (.tmp 0)) none [], AOper.mk (some 13) (.len (.tmp 12)) none [1], AOper.mk (some 14) (.bin .lss (.tmp 11) (.tmp 13)) none [0, 2]]
def l74r5a : List AOper :=
  [AOper.mk (some 17) (.mv (.tmp 0)) none [], AOper.mk (some 18) (.mv (.tmp 5)) none [], AOper.mk (some 19) (.idxA 1 (.tmp 17) (.tmp 18)) none [0, 1], AOper.mk (some 20) (.load false 1 (.tmp 19)) none [2], AOper.mk (some 21) (.mv (.tmp 1)) none [], AOper.mk (some 22) (.mv (.tmp 5)) none [], AOper.mk (some 23) (.idxA 1 (.tmp 21) (.tmp 22)) none [4, 5], AOper.mk (some 24) (.load false 1 (.tmp 23)) none [6]]
def l74r5b : List AOper :=
  [AOper.mk (some 25) (.bin .neq (.tmp 20) (.tmp 24)) none [3, 7]]
def l74r5 : List AOper := l74r5a ++ l74r5b
def l74r6 : List AOper :=
  [AOper.mk (some 4) (.mv (.const (.bool false))) none []]
def l74r7 : List AOper :=
  [AOper.mk (some 15) (.mv (.tmp 5)) none [], AOper.mk (some 16) (.bin .add (.tmp 15) (.const (.int .i64 1))) none [0], AOper.mk (some 5) (.mv (.tmp 16)) none [1, 0, 1]]
def l74r8 : List AOper :=
  [AOper.mk (some 4) (.mv (.const (.bool true))) none []]
def l74 : AFn :=
  (AFn.mk 26 2 (ACode.seq (ACode.reg l74r0) (ACode.seq (ACode.seq (ACode.reg l74r1) (ACode.cond (.tmp 10) (ACode.seq (ACode.reg l74r2) ACode.ret) ACode.skip)) (ACode.seq (ACode.seq (ACode.reg l74r3) (ACode.block 0 (ACode.loop (ACode.seq (ACode.seq (ACode.reg l74r4) (ACode.cond (.tmp 14) ACode.skip (ACode.exit 0))) (ACode.seq (ACode.block 1 (ACode.seq (ACode.draw l74r5) (ACode.cond (.tmp 25) (ACode.seq (ACode.reg l74r6) ACode.ret) ACode.skip))) (ACode.reg l74r7)))))) (ACode.seq (ACode.reg l74r8) ACode.ret)))) [ARes.tmp 4])
theorem l74_eq : lowFn Try.prog 74 = some l74 := by kernel_rfl
def l75r0 : List AOper :=
  [AOper.mk (some 6) (.mv (.const (.bool false))) none []]
def l75r1 : List AOper :=
  [AOper.mk (some 7) (.mv (.const (.int .i64 0))) none []]
def l75r2 : List AOper :=
  [AOper.mk (some 9) (.mv (.tmp 7)) none [], AOper.mk (some 10) (.mv (.tmp 0)) none [], AOper.mk (some 11) (.len (.tmp 10)) none [1], AOper.mk (some 12) (.bin .lss (.tmp 9) (.tmp 11)) none [0, 2]]
def l75r3 : List AOper :=
  [AOper.mk (some 8) (.mv (.const (.int .i64 0))) none []]
def l75r4 : List AOper :=
  [AOper.mk (some 15) (.mv (.tmp 8)) none [], AOper.mk (some 16) (.mv (.tmp 0)) none [], AOper.mk (some 17) (.len (.tmp 16)) none [1], AOper.mk (some 18) (.bin .lss (.tmp 15) (.tmp 17)) none [0, 2]]
def l75r5a : List AOper :=
  [AOper.mk (some 21) (.mv (.tmp 0)) none [], AOper.mk (some 22) (.mv (.tmp 7)) none [], AOper.mk (some 23) (.idxA 1 (.tmp 21) (.tmp 22)) none [0, 1], AOper.mk (some 24) (.load false 1 (.tmp 23)) none [2], AOper.mk (some 25) (.mv (.tmp 1)) none [], AOper.mk (some 26) (.mv (.tmp 8)) none [], AOper.mk (some 27) (.idxA 1 (.tmp 25) (.tmp 26)) none [4, 5], AOper.mk (some 28) (.load false 1 (.tmp 27)) none [6], AOper.mk (some 29) (.bin .eql (.tmp 24) (.tmp 28)) none [3, 7], AOper.mk (some 30) (.mv (.tmp 29)) none [8], AOper.mk (some 31) (.mv (.tmp 7)) (some (30, true)) [9], AOper.mk (some 32) (.mv (.tmp 8)) (some (30, true)) [9], AOper.mk (some 33) (.bin .lss (.tmp 31) (.tmp 32)) (some (30, true)) [10, 11, 9], AOper.mk (some 34) (.mv (.tmp 33)) (some (30, true)) [12, 9, 9], AOper.mk (some 35) (.mv (.tmp 2)) (some (34, true)) [13], AOper.mk (some 36) (.un .not (.tmp 35)) (some (34, true)) [14, 13], AOper.mk (some 37) (.pick (.tmp 34) (.tmp 36) (.const (.bool false))) (some (30, true)) [13, 15, 9], AOper.mk (some 38) (.mv (.tmp 37)) (some (30, true)) [16, 13, 9], AOper.mk (some 39) (.mv (.tmp 7)) (some (38, false)) [17], AOper.mk (some 40) (.mv (.tmp 8)) (some (38, false)) [17]]
def l75r5b : List AOper :=
  [AOper.mk (some 41) (.bin .gtr (.tmp 39) (.tmp 40)) (some (38, false)) [18, 19, 17], AOper.mk (some 42) (.mv (.tmp 41)) (some (38, false)) [20, 17, 17], AOper.mk (some 43) (.mv (.tmp 2)) (some (42, true)) [21], AOper.mk (some 44) (.pick (.tmp 42) (.tmp 43) (.const (.bool false))) (some (38, false)) [21, 22, 17], AOper.mk (some 45) (.pick (.tmp 38) (.const (.bool true)) (.tmp 44)) (some (30, true)) [17, 23, 9], AOper.mk (some 46) (.pick (.tmp 30) (.tmp 45) (.const (.bool false))) none [9, 24]]
def l75r5 : List AOper := l75r5a ++ l75r5b
def l75r6 : List AOper :=
  [AOper.mk (some 6) (.mv (.const (.bool false))) none []]
def l75r7 : List AOper :=
  [AOper.mk (some 19) (.mv (.tmp 8)) none [], AOper.mk (some 20) (.bin .add (.tmp 19) (.const (.int .i64 1))) none [0], AOper.mk (some 8) (.mv (.tmp 20)) none [1, 0, 1]]
def l75r8 : List AOper :=
  [AOper.mk (some 13) (.mv (.tmp 7)) none [], AOper.mk (some 14) (.bin .add (.tmp 13) (.const (.int .i64 1))) none [0], AOper.mk (some 7) (.mv (.tmp 14)) none [1, 0, 1]]
def l75r9 : List AOper :=
  [AOper.mk (some 6) (.mv (.const (.bool true))) none []]
def l75 : AFn :=
  (AFn.mk 47 3 (ACode.seq (ACode.reg l75r0) (ACode.seq (ACode.seq (ACode.reg l75r1) (ACode.block 0 (ACode.loop (ACode.seq (ACode.seq (ACode.reg l75r2) (ACode.cond (.tmp 12) ACode.skip (ACode.exit 0))) (ACode.seq (ACode.block 1 (ACode.seq (ACode.reg l75r3) (ACode.block 2 (ACode.loop (ACode.seq (ACode.seq (ACode.reg l75r4) (ACode.cond (.tmp 18) ACode.skip (ACode.exit 2))) (ACode.seq (ACode.block 3 (ACode.seq (ACode.draw l75r5) (ACode.cond (.tmp 46) (ACode.seq (ACode.reg l75r6) ACode.ret) ACode.skip))) (ACode.reg l75r7))))))) (ACode.reg l75r8)))))) (ACode.seq (ACode.reg l75r9) ACode.ret))) [ARes.tmp 6])
theorem l75_eq : lowFn Try.prog 75 = some l75 := by kernel_rfl
def l76r0 : List AOper :=
  [AOper.mk (some 2) (.mv (.const (.bool false))) none []]
def l76r1 : List AOper :=
  [AOper.mk (some 3) (.mv (.const (.int .i64 0))) none []]
def l76r2 : List AOper :=
  [AOper.mk (some 4) (.mv (.tmp 3)) none [], AOper.mk (some 5) (.mv (.tmp 0)) none [], AOper.mk (some 6) (.len (.tmp 5)) none [1], AOper.mk (some 7) (.bin .lss (.tmp 4) (.tmp 6)) none [0, 2]]
def l76r3a : List AOper :=
  [AOper.mk (some 10) (.mv (.tmp 0)) none [], AOper.mk (some 11) (.mv (.tmp 3)) none [], AOper.mk (some 12) (.slice 1 (.tmp 10) none (some (.tmp 11))) none [0, 1], AOper.mk (some 13) (.mv (.tmp 0)) none [], AOper.mk (some 14) (.mv (.tmp 3)) none [], AOper.mk (some 15) (.idxA 1 (.tmp 13) (.tmp 14)) none [3, 4], AOper.mk (some 16) (.load false 1 (.tmp 15)) none [5]]
def l76r3b : List AOper :=
  [AOper.mk (some 17) (.call 97 [.tmp 12, .tmp 16]) none [2, 6], AOper.mk (some 18) (.bin .geq (.tmp 17) (.const (.int .i64 0))) none [7]]
def l76r3 : List AOper := l76r3a ++ l76r3b
def l76r4 : List AOper :=
  [AOper.mk (some 2) (.mv (.const (.bool false))) none []]
def l76r5 : List AOper :=
  [AOper.mk (some 8) (.mv (.tmp 3)) none [], AOper.mk (some 9) (.bin .add (.tmp 8) (.const (.int .i64 1))) none [0], AOper.mk (some 3) (.mv (.tmp 9)) none [1, 0, 1]]
def l76r6 : List AOper :=
  [AOper.mk (some 2) (.mv (.const (.bool true))) none []]
def l76 : AFn :=
  (AFn.mk 19 1 (ACode.seq (ACode.reg l76r0) (ACode.seq (ACode.seq (ACode.reg l76r1) (ACode.block 0 (ACode.loop (ACode.seq (ACode.seq (ACode.reg l76r2) (ACode.cond (.tmp 7) ACode.skip (ACode.exit 0))) (ACode.seq (ACode.block 1 (ACode.seq (ACode.draw l76r3) (ACode.cond (.tmp 18) (ACode.seq (ACode.reg l76r4) ACode.ret) ACode.skip))) (ACode.reg l76r5)))))) (ACode.seq (ACode.reg l76r6) ACode.ret))) [ARes.tmp 2])
theorem l76_eq : lowFn Try.prog 76 = some l76 := by kernel_rfl
def l77r0 : List AOper :=
  [AOper.mk (some 1) (.box (.tmp 0)) none [], AOper.mk (some 2) (.mv (.const (.bool false))) none []]
def l77r1 : List AOper :=
  [AOper.mk (some 5) (.fld 1 (.tmp 1)) none [], AOper.mk (some 6) (.load false 1 (.tmp 5)) none [0], AOper.mk (some 7) (.call 98 [.tmp 6]) none [1], AOper.mk (some 8) (.un .not (.tmp 7)) none [2], AOper.mk (some 9) (.mv (.tmp 8)) none [3, 2], AOper.mk (some 10) (.fld 2 (.tmp 1)) (some (9, false)) [4], AOper.mk (some 11) (.load false 1 (.tmp 10)) (some (9, false)) [5, 4], AOper.mk (some 12) (.fld 1 (.tmp 1)) (some (9, false)) [4], AOper.mk (some 13) (.load false 1 (.tmp 12)) (some (9, false)) [7, 4], AOper.mk (some 14) (.len (.tmp 13)) (some (9, false)) [8, 4], AOper.mk (some 15) (.call 99 [.tmp 11, .tmp 14]) (some (9, false)) [6, 9, 4, 4], AOper.mk (some 16) (.un .not (.tmp 15)) (some (9, false)) [10, 4], AOper.mk (some 17) (.pick (.tmp 9) (.const (.bool true)) (.tmp 16)) none [4, 11], AOper.mk (some 18) (.mv (.tmp 17)) none [12, 10], AOper.mk (some 19) (.fld 0 (.tmp 1)) (some (18, false)) [13], AOper.mk (some 20) (.load false 1 (.tmp 19)) (some (18, false)) [14, 13], AOper.mk (some 21) (.call 84 [.tmp 20, .const (.int .i64 60)]) (some (18, false)) [15, 13, 13], AOper.mk (some 22) (.un .not (.tmp 21)) (some (18, false)) [16, 13], AOper.mk (some 23) (.pick (.tmp 18) (.const (.bool true)) (.tmp 22)) none [13, 17]]
def l77r2 : List AOper :=
  [AOper.mk (some 2) (.mv (.const (.bool false))) none []]
def l77r3 : List AOper :=
  [AOper.mk (some 25) (.load true 3 (.tmp 1)) none [], AOper.mk (some 26) (.call 100 [.tmp 25]) none [0], AOper.mk (some 24) (.mv (.tmp 26)) none [1], AOper.mk (some 27) (.extract (.tmp 24) 0) none [2], AOper.mk (some 28) (.extract (.tmp 24) 1) none [2], AOper.mk (some 3) (.mv (.tmp 27)) none [3, 1, 0, 1, 2, 3], AOper.mk (some 4) (.mv (.tmp 28)) none [4, 5, 0, 1, 2, 3, 4, 5]]
def l77r4 : List AOper :=
  [AOper.mk (some 29) (.load true 3 (.tmp 1)) none [], AOper.mk (some 30) (.call 64 [.tmp 29]) none [0], AOper.mk (some 31) (.bin .eql (.tmp 30) (.const (.int .i64 0))) none [1], AOper.mk (some 32) (.mv (.tmp 31)) none [2, 1], AOper.mk (some 33) (.mv (.tmp 3)) (some (32, false)) [3], AOper.mk (some 34) (.bin .geq (.tmp 33) (.const (.int .i64 0))) (some (32, false)) [4, 3], AOper.mk (some 35) (.mv (.tmp 34)) (some (32, false)) [5, 3, 3], AOper.mk (some 36) (.mv (.tmp 4)) (some (35, true)) [6], AOper.mk (some 37) (.bin .lss (.tmp 36) (.const (.int .i64 60))) (some (35, true)) [7, 6], AOper.mk (some 38) (.pick (.tmp 35) (.tmp 37) (.const (.bool false))) (some (32, false)) [6, 8, 3], AOper.mk (some 39) (.pick (.tmp 32) (.const (.bool true)) (.tmp 38)) none [3, 9], AOper.mk (some 2) (.mv (.tmp 39)) none [10, 6, 0, 1, 2, 3, 4, 5, 6, 7, 8, 9, 10]]
def l77 : AFn :=
  (AFn.mk 40 1 (ACode.seq (ACode.reg l77r0) (ACode.seq (ACode.seq (ACode.reg l77r1) (ACode.cond (.tmp 23) (ACode.seq (ACode.reg l77r2) ACode.ret) ACode.skip)) (ACode.seq (ACode.reg l77r3) (ACode.seq (ACode.reg l77r4) ACode.ret)))) [ARes.tmp 2])
theorem l77_eq : lowFn Try.prog 77 = some l77 := by kernel_rfl
def l78r0 : List AOper :=
  [AOper.mk (some 4) (.mv (.const (.bool false))) none []]
def l78r1 : List AOper :=
  [AOper.mk (some 6) (.mv (.tmp 0)) none [], AOper.mk (some 7) (.len (.tmp 6)) none [0], AOper.mk (some 8) (.mv (.tmp 1)) none [], AOper.mk (some 9) (.len (.tmp 8)) none [2], AOper.mk (some 10) (.bin .neq (.tmp 7) (.tmp 9)) none [1, 3]]
def l78r2 : List AOper :=
  [AOper.mk (some 4) (.mv (.const (.bool false))) none []]
def l78r3 : List AOper :=
  [AOper.mk (some 11) (.mv (.tmp 0)) none [], AOper.mk (some 12) (.len (.tmp 11)) none [0], AOper.mk (some 13) (.mv (.const (.int .i64 0))) none []]
def l78r4 : List AOper :=
  [AOper.mk (some 14) (.bin .lss (.tmp 13) (.tmp 12)) none []]
def l78r5 : List AOper :=
  [AOper.mk (some 15) (.mv (.tmp 13)) none [], AOper.mk (some 5) (.mv (.tmp 15)) none [0, 0]]
def l78r6a : List AOper :=
  [AOper.mk (some 16) (.mv (.tmp 0)) none [], AOper.mk (some 17) (.mv (.tmp 5)) none [], AOper.mk (some 18) (.idxA 1 (.tmp 16) (.tmp 17)) none [0, 1], AOper.mk (some 19) (.load false 1 (.tmp 18)) none [2], AOper.mk (some 20) (.mv (.tmp 1)) none [], AOper.mk (some 21) (.mv (.tmp 5)) none [], AOper.mk (some 22) (.idxA 1 (.tmp 20) (.tmp 21)) none [4, 5], AOper.mk (some 23) (.load false 1 (.tmp 22)) none [6]]
def l78r6b : List AOper :=
  [AOper.mk (some 24) (.bin .neq (.tmp 19) (.tmp 23)) none [3, 7]]
def l78r6 : List AOper := l78r6a ++ l78r6b
def l78r7 : List AOper :=
  [AOper.mk (some 4) (.mv (.const (.bool false))) none []]
def l78r8 : List AOper :=
  [AOper.mk (some 25) (.bin .add (.tmp 13) (.const (.int .i64 1))) none [], AOper.mk (some 13) (.mv (.tmp 25)) none [0]]
def l78r9 : List AOper :=
  [AOper.mk (some 4) (.mv (.const (.bool true))) none []]
def l78 : AFn :=
  (AFn.mk 26 2 (ACode.seq (ACode.reg l78r0) (ACode.seq (ACode.seq (ACode.reg l78r1) (ACode.cond (.tmp 10) (ACode.seq (ACode.reg l78r2) ACode.ret) ACode.skip)) (ACode.seq (ACode.seq (ACode.reg l78r3) (ACode.block 0 (ACode.loop (ACode.seq (ACode.reg l78r4) (ACode.seq (ACode.cond (.tmp 14) ACode.skip (ACode.exit 0)) (ACode.seq (ACode.block 1 (ACode.seq (ACode.reg l78r5) (ACode.seq (ACode.draw l78r6) (ACode.cond (.tmp 24) (ACode.seq (ACode.reg l78r7) ACode.ret) ACode.skip)))) (ACode.reg l78r8))))))) (ACode.seq (ACode.reg l78r9) ACode.ret)))) [ARes.tmp 4])
theorem l78_eq : lowFn Try.prog 78 = some l78 := by kernel_rfl
def l79r0 : List AOper :=
  [AOper.mk (some 4) (.mv (.const (.bool false))) none []]
def l79r1 : List AOper :=
  [AOper.mk (some 7) (.mv (.tmp 0)) none [], AOper.mk (some 8) (.len (.tmp 7)) none [0], AOper.mk (some 9) (.mv (.const (.int .i64 0))) none []]
def l79r2 : List AOper :=
  [AOper.mk (some 10) (.bin .lss (.tmp 9) (.tmp 8)) none []]
def l79r3 : List AOper :=
  [AOper.mk (some 11) (.mv (.tmp 9)) none [], AOper.mk (some 12) (.idxA 1 (.tmp 7) (.tmp 9)) none [], AOper.mk (some 13) (.load false 1 (.tmp 12)) none [1], AOper.mk (some 5) (.mv (.tmp 11)) none [0, 0, 1, 2], AOper.mk (some 6) (.mv (.tmp 13)) none [2, 3, 0, 1, 2, 3]]
def l79r4 : List AOper :=
  [AOper.mk (some 14) (.mv (.tmp 1)) none [], AOper.mk (some 15) (.mv (.tmp 5)) none [], AOper.mk (some 16) (.bin .add (.tmp 15) (.const (.int .i64 1))) none [1], AOper.mk (some 17) (.slice 1 (.tmp 14) (some (.tmp 16)) none) none [0, 2], AOper.mk (some 18) (.mv (.tmp 6)) none [], AOper.mk (some 19) (.call 101 [.tmp 17, .tmp 18]) none [3, 4]]
def l79r5 : List AOper :=
  [AOper.mk (some 4) (.mv (.const (.bool true))) none []]
def l79r6 : List AOper :=
  [AOper.mk (some 20) (.bin .add (.tmp 9) (.const (.int .i64 1))) none [], AOper.mk (some 9) (.mv (.tmp 20)) none [0]]
def l79r7 : List AOper :=
  [AOper.mk (some 4) (.mv (.const (.bool false))) none []]
def l79 : AFn :=
  (AFn.mk 21 2 (ACode.seq (ACode.reg l79r0) (ACode.seq (ACode.seq (ACode.reg l79r1) (ACode.block 0 (ACode.loop (ACode.seq (ACode.reg l79r2) (ACode.seq (ACode.cond (.tmp 10) ACode.skip (ACode.exit 0)) (ACode.seq (ACode.block 1 (ACode.seq (ACode.reg l79r3) (ACode.seq (ACode.reg l79r4) (ACode.cond (.tmp 19) (ACode.seq (ACode.reg l79r5) ACode.ret) ACode.skip)))) (ACode.reg l79r6))))))) (ACode.seq (ACode.reg l79r7) ACode.ret))) [ARes.tmp 4])
theorem l79_eq : lowFn Try.prog 79 = some l79 := by kernel_rfl
def l80r0 : List AOper :=
  [AOper.mk (some 1) (.box (.tmp 0)) none [], AOper.mk (some 2) (.mv (.const (.bool false))) none []]
def l80r1 : List AOper :=
  [AOper.mk (some 6) (.load true 3 (.tmp 1)) none [], AOper.mk (some 7) (.call 77 [.tmp 6]) none [0], AOper.mk (some 8) (.un .not (.tmp 7)) none [1]]
def l80r2 : List AOper :=
  [AOper.mk (some 2) (.mv (.const (.bool false))) none []]
def l80r3 : List AOper :=
  [AOper.mk (some 3) (.alloc [.bool false, .bool false, .bool false, .bool false, .bool false, .bool false, .bool false, .bool false, .bool false, .bool false, .bool false, .bool false, .bool false, .bool false, .bool false, .bool false, .bool false, .bool false, .bool false, .bool false, .bool false, .bool false, .bool false, .bool false, .bool false, .bool false, .bool false, .bool false, .bool false, .bool false, .bool false, .bool false, .bool false, .bool false, .bool false, .bool false, .bool false, .bool false, .bool false, .bool false, .bool false, .bool false, .bool false, .bool false, .bool false, .bool false, .bool false, .bool false, .bool false, .bool false, .bool false, .bool false, .bool false, .bool false, .bool false, .bool false, .bool false, .bool false, .bool false, .bool false]) none []]
def l80r4 : List AOper :=
  [AOper.mk (some 9) (.load true 3 (.tmp 1)) none [], AOper.mk (some 10) (.call 70 [.tmp 9]) none [0], AOper.mk (some 11) (.len (.tmp 10)) none [1], AOper.mk (some 12) (.mv (.const (.int .i64 0))) none []]
def l80r5 : List AOper :=
  [AOper.mk (some 13) (.bin .lss (.tmp 12) (.tmp 11)) none []]
def l80r6 : List AOper :=
  [AOper.mk (some 14) (.idxA 1 (.tmp 10) (.tmp 12)) none [], AOper.mk (some 15) (.load false 1 (.tmp 14)) none [0], AOper.mk (some 5) (.mv (.tmp 15)) none [1, 0, 1]]
def l80r7 : List AOper :=
  [AOper.mk (some 16) (.mv (.tmp 5)) none [], AOper.mk (some 17) (.idxP 1 60 (.tmp 3) (.tmp 16)) none [0], AOper.mk (some 18) (.load false 1 (.tmp 17)) none [1]]
def l80r8 : List AOper :=
  [AOper.mk (some 2) (.mv (.const (.bool false))) none []]
def l80r9 : List AOper :=
  [AOper.mk (some 19) (.mv (.tmp 5)) none [], AOper.mk (some 20) (.idxP 1 60 (.tmp 3) (.tmp 19)) none [0, 0], AOper.mk none (.store 1 (.tmp 20) (.const (.bool true))) none [1, 0]]
def l80r10 : List AOper :=
  [AOper.mk (some 21) (.bin .add (.tmp 12) (.const (.int .i64 1))) none [], AOper.mk (some 12) (.mv (.tmp 21)) none [0]]
def l80r11 : List AOper :=
  [AOper.mk (some 2) (.mv (.const (.bool true))) none []]
def l80 : AFn :=
  (AFn.mk 22 1 (ACode.seq (ACode.reg l80r0) (ACode.seq (ACode.seq (ACode.reg l80r1) (ACode.cond (.tmp 8) (ACode.seq (ACode.reg l80r2) ACode.ret) ACode.skip)) (ACode.seq (ACode.reg l80r3) (ACode.seq (ACode.seq (ACode.reg l80r4) (ACode.block 0 (ACode.loop (ACode.seq (ACode.reg l80r5) (ACode.seq (ACode.cond (.tmp 13) ACode.skip (ACode.exit 0)) (ACode.seq (ACode.block 1 (ACode.seq (ACode.reg l80r6) (ACode.seq (ACode.seq (ACode.reg l80r7) (ACode.cond (.tmp 18) (ACode.seq (ACode.reg l80r8) ACode.ret) ACode.skip)) (ACode.reg l80r9)))) (ACode.reg l80r10))))))) (ACode.seq (ACode.reg l80r11) ACode.ret))))) [ARes.tmp 2])
theorem l80_eq : lowFn Try.prog 80 = some l80 := by kernel_rfl
def l84r0 : List AOper :=
  [AOper.mk (some 4) (.mv (.const (.bool false))) none []]
def l84r1 : List AOper :=
  [AOper.mk (some 5) (.mv (.tmp 0)) none [], AOper.mk (some 6) (.bin .leq (.const (.int .i64 0)) (.tmp 5)) none [0], AOper.mk (some 7) (.mv (.tmp 6)) none [1], AOper.mk (some 8) (.mv (.tmp 0)) (some (7, true)) [2], AOper.mk (some 9) (.mv (.tmp 1)) (some (7, true)) [2], AOper.mk (some 10) (.bin .leq (.tmp 8) (.tmp 9)) (some (7, true)) [3, 4, 2], AOper.mk (some 11) (.pick (.tmp 7) (.tmp 10) (.const (.bool false))) none [2, 5], AOper.mk (some 4) (.mv (.tmp 11)) none [6, 2, 0, 1, 2, 3, 4, 5, 6]]
def l84 : AFn :=
  (AFn.mk 12 2 (ACode.seq (ACode.reg l84r0) (ACode.seq (ACode.reg l84r1) ACode.ret)) [ARes.tmp 4])
theorem l84_eq : lowFn Try.prog 84 = some l84 := by kernel_rfl
def l89r0 : List AOper :=
  [AOper.mk (some 2) (.box (.tmp 0)) none [], AOper.mk (some 4) (.mv (.const (.int .i64 0))) none []]
def l89r1 : List AOper :=
  [AOper.mk (some 7) (.fld 0 (.tmp 2)) none [], AOper.mk (some 8) (.load false 1 (.tmp 7)) none [0], AOper.mk (some 5) (.mv (.tmp 8)) none [1, 0, 1]]
def l89r2 : List AOper :=
  [AOper.mk (some 6) (.mv (.const (.int .i64 0))) none []]
def l89r3 : List AOper :=
  [AOper.mk (some 9) (.mv (.tmp 6)) none [], AOper.mk (some 10) (.mv (.tmp 1)) none [], AOper.mk (some 11) (.len (.tmp 10)) none [1], AOper.mk (some 12) (.bin .lss (.tmp 9) (.tmp 11)) none [0, 2]]
def l89r4a : List AOper :=
  [AOper.mk (some 15) (.mv (.tmp 5)) none [], AOper.mk (some 16) (.mv (.tmp 1)) none [], AOper.mk (some 17) (.mv (.tmp 6)) none [], AOper.mk (some 18) (.idxA 1 (.tmp 16) (.tmp 17)) none [1, 2], AOper.mk (some 19) (.load false 1 (.tmp 18)) none [3], AOper.mk (some 20) (.fld 2 (.tmp 2)) none [], AOper.mk (some 21) (.load false 1 (.tmp 20)) none [5], AOper.mk (some 22) (.mv (.tmp 6)) none [], AOper.mk (some 23) (.idxA 1 (.tmp 21) (.tmp 22)) none [6, 7], AOper.mk (some 24) (.load false 1 (.tmp 23)) none [8], AOper.mk (some 25) (.bin .mul (.tmp 19) (.tmp 24)) none [4, 9]]
def l89r4b : List AOper :=
  [AOper.mk (some 26) (.bin .add (.tmp 15) (.tmp 25)) none [0, 10], AOper.mk (some 5) (.mv (.tmp 26)) none [11, 0, 1, 2, 3, 4, 5, 6, 7, 8, 9, 10, 11]]
def l89r4 : List AOper := l89r4a ++ l89r4b
def l89r5 : List AOper :=
  [AOper.mk (some 13) (.mv (.tmp 6)) none [], AOper.mk (some 14) (.bin .add (.tmp 13) (.const (.int .i64 1))) none [0], AOper.mk (some 6) (.mv (.tmp 14)) none [1, 0, 1]]
def l89r6 : List AOper :=
  [AOper.mk (some 27) (.mv (.tmp 5)) none [], AOper.mk (some 4) (.mv (.tmp 27)) none [0, 0]]
def l89 : AFn :=
  (AFn.mk 28 2 (ACode.seq (ACode.reg l89r0) (ACode.seq (ACode.reg l89r1) (ACode.seq (ACode.seq (ACode.reg l89r2) (ACode.block 0 (ACode.loop (ACode.seq (ACode.seq (ACode.reg l89r3) (ACode.cond (.tmp 12) ACode.skip (ACode.exit 0))) (ACode.seq (ACode.block 1 (ACode.draw l89r4)) (ACode.reg l89r5)))))) (ACode.seq (ACode.reg l89r6) ACode.ret)))) [ARes.tmp 4])
theorem l89_eq : lowFn Try.prog 89 = some l89 := by kernel_rfl
def l90r0 : List AOper :=
  [AOper.mk (some 4) (.mv (.const (.slice none 0 0))) none []]
def l90r1 : List AOper :=
  [AOper.mk (some 7) (.mv (.tmp 0)) none [], AOper.mk (some 8) (.len (.tmp 7)) none [0], AOper.mk (some 9) (.mkslice 1 [.int .i64 0] (.tmp 8) (.tmp 8)) none [1, 1], AOper.mk (some 5) (.mv (.tmp 9)) none [2, 0, 1, 2]]
def l90r2 : List AOper :=
  [AOper.mk (some 10) (.mv (.tmp 0)) none [], AOper.mk (some 11) (.len (.tmp 10)) none [0], AOper.mk (some 12) (.bin .sub (.tmp 11) (.const (.int .i64 1))) none [1], AOper.mk (some 6) (.mv (.tmp 12)) none [2, 0, 1, 2]]
def l90r3 : List AOper :=
  [AOper.mk (some 13) (.mv (.tmp 6)) none [], AOper.mk (some 14) (.bin .geq (.tmp 13) (.const (.int .i64 0))) none [0]]
def l90r4 : List AOper :=
  [AOper.mk (some 17) (.mv (.tmp 5)) none [], AOper.mk (some 18) (.mv (.tmp 6)) none [], AOper.mk (some 19) (.mv (.tmp 1)) none [], AOper.mk (some 20) (.mv (.tmp 0)) none [], AOper.mk (some 21) (.mv (.tmp 6)) none [], AOper.mk (some 22) (.idxA 1 (.tmp 20) (.tmp 21)) none [3, 4], AOper.mk (some 23) (.load false 1 (.tmp 22)) none [5], AOper.mk (some 24) (.bin .rem (.tmp 19) (.tmp 23)) none [2, 6], AOper.mk (some 25) (.idxA 1 (.tmp 17) (.tmp 18)) none [0, 1, 0, 1, 2, 3, 4, 5, 6, 7], AOper.mk none (.store 1 (.tmp 25) (.tmp 24)) none [8, 7, 0, 1, 2, 3, 4, 5, 6, 7]]
def l90r5 : List AOper :=
  [AOper.mk (some 26) (.mv (.tmp 1)) none [], AOper.mk (some 27) (.mv (.tmp 0)) none [], AOper.mk (some 28) (.mv (.tmp 6)) none [], AOper.mk (some 29) (.idxA 1 (.tmp 27) (.tmp 28)) none [1, 2], AOper.mk (some 30) (.load false 1 (.tmp 29)) none [3], AOper.mk (some 31) (.bin .quo (.tmp 26) (.tmp 30)) none [0, 4], AOper.mk (some 1) (.mv (.tmp 31)) none [5, 0, 1, 2, 3, 4, 5]]
def l90r6 : List AOper :=
  [AOper.mk (some 15) (.mv (.tmp 6)) none [], AOper.mk (some 16) (.bin .sub (.tmp 15) (.const (.int .i64 1))) none [0], AOper.mk (some 6) (.mv (.tmp 16)) none [1, 0, 1]]
def l90r7 : List AOper :=
  [AOper.mk (some 32) (.mv (.tmp 5)) none [], AOper.mk (some 4) (.mv (.tmp 32)) none [0, 0]]
def l90 : AFn :=
  (AFn.mk 33 2 (ACode.seq (ACode.reg l90r0) (ACode.seq (ACode.reg l90r1) (ACode.seq (ACode.seq (ACode.reg l90r2) (ACode.block 0 (ACode.loop (ACode.seq (ACode.seq (ACode.reg l90r3) (ACode.cond (.tmp 14) ACode.skip (ACode.exit 0))) (ACode.seq (ACode.block 1 (ACode.seq (ACode.reg l90r4) (ACode.reg l90r5))) (ACode.reg l90r6)))))) (ACode.seq (ACode.reg l90r7) ACode.ret)))) [ARes.tmp 4])
theorem l90_eq : lowFn Try.prog 90 = some l90 := by kernel_rfl
def l92r0 : List AOper :=
  [AOper.mk (some 2) (.mv (.const (.int .i64 0))) none []]
def l92r1 : List AOper :=
  [AOper.mk (some 3) (.mv (.const (.int .i64 1))) none []]
def l92r2 : List AOper :=
  [AOper.mk (some 6) (.mv (.tmp 0)) none [], AOper.mk (some 7) (.len (.tmp 6)) none [0], AOper.mk (some 8) (.mv (.const (.int .i64 0))) none []]
def l92r3 : List AOper :=
  [AOper.mk (some 9) (.bin .lss (.tmp 8) (.tmp 7)) none []]
def l92r4 : List AOper :=
  [AOper.mk (some 10) (.idxA 1 (.tmp 6) (.tmp 8)) none [], AOper.mk (some 11) (.load false 1 (.tmp 10)) none [0], AOper.mk (some 5) (.mv (.tmp 11)) none [1, 0, 1]]
def l92r5 : List AOper :=
  [AOper.mk (some 12) (.mv (.tmp 3)) none [], AOper.mk (some 13) (.mv (.tmp 5)) none [], AOper.mk (some 14) (.bin .mul (.tmp 12) (.tmp 13)) none [0, 1], AOper.mk (some 3) (.mv (.tmp 14)) none [2, 0, 1, 2]]
def l92r6 : List AOper :=
  [AOper.mk (some 15) (.bin .add (.tmp 8) (.const (.int .i64 1))) none [], AOper.mk (some 8) (.mv (.tmp 15)) none [0]]
def l92r7 : List AOper :=
  [AOper.mk (some 16) (.mv (.tmp 3)) none [], AOper.mk (some 2) (.mv (.tmp 16)) none [0, 0]]
def l92 : AFn :=
  (AFn.mk 17 1 (ACode.seq (ACode.reg l92r0) (ACode.seq (ACode.reg l92r1) (ACode.seq (ACode.seq (ACode.reg l92r2) (ACode.block 0 (ACode.loop (ACode.seq (ACode.reg l92r3) (ACode.seq (ACode.cond (.tmp 9) ACode.skip (ACode.exit 0)) (ACode.seq (ACode.block 1 (ACode.seq (ACode.reg l92r4) (ACode.reg l92r5))) (ACode.reg l92r6))))))) (ACode.seq (ACode.reg l92r7) ACode.ret)))) [ARes.tmp 2])
theorem l92_eq : lowFn Try.prog 92 = some l92 := by kernel_rfl
def l93r0 : List AOper :=
  [AOper.mk (some 2) (.box (.tmp 0)) none [], AOper.mk (some 3) (.box (.tmp 1)) none [], AOper.mk (some 4) (.mv (.const (.int .i64 0))) none []]
def l93r1a : List AOper :=
  [AOper.mk (some 5) (.fld 0 (.tmp 2)) none [], AOper.mk (some 6) (.load false 1 (.tmp 5)) none [0], AOper.mk (some 7) (.load true 4 (.tmp 3)) none [], AOper.mk (some 8) (.fld 2 (.tmp 2)) none [], AOper.mk (some 9) (.load false 1 (.tmp 8)) none [3], AOper.mk (some 10) (.call 105 [.tmp 7, .tmp 9]) none [2, 4]]
def l93r1b : List AOper :=
  [AOper.mk (some 11) (.bin .add (.tmp 6) (.tmp 10)) none [1, 5], AOper.mk (some 4) (.mv (.tmp 11)) none [6, 5, 0, 1, 2, 3, 4, 5, 6]]
def l93r1 : List AOper := l93r1a ++ l93r1b
def l93 : AFn :=
  (AFn.mk 12 2 (ACode.seq (ACode.reg l93r0) (ACode.seq (ACode.draw l93r1) ACode.ret)) [ARes.tmp 4])
theorem l93_eq : lowFn Try.prog 93 = some l93 := by kernel_rfl
def l94r0 : List AOper :=
  [AOper.mk (some 4) (.alloc [.int .i64 0, .int .i64 0, .int .i64 0, .int .i64 0]) none []]
def l94r1 : List AOper :=
  [AOper.mk (some 5) (.alloc [.int .i64 0, .int .i64 0, .int .i64 0, .int .i64 0]) none []]
def l94r2 : List AOper :=
  [AOper.mk (some 7) (.mv (.tmp 0)) none [], AOper.mk (some 8) (.len (.tmp 7)) none [0], AOper.mk (some 9) (.bin .sub (.tmp 8) (.const (.int .i64 1))) none [1], AOper.mk (some 6) (.mv (.tmp 9)) none [2, 0, 1, 2]]
def l94r3 : List AOper :=
  [AOper.mk (some 10) (.mv (.tmp 6)) none [], AOper.mk (some 11) (.bin .geq (.tmp 10) (.const (.int .i64 0))) none [0]]
def l94r4 : List AOper :=
  [AOper.mk (some 14) (.mv (.tmp 6)) none [], AOper.mk (some 15) (.mv (.tmp 1)) none [], AOper.mk (some 16) (.mv (.tmp 0)) none [], AOper.mk (some 17) (.mv (.tmp 6)) none [], AOper.mk (some 18) (.idxA 1 (.tmp 16) (.tmp 17)) none [2, 3], AOper.mk (some 19) (.load false 1 (.tmp 18)) none [4], AOper.mk (some 20) (.bin .rem (.tmp 15) (.tmp 19)) none [1, 5], AOper.mk (some 21) (.idxP 1 4 (.tmp 5) (.tmp 14)) none [0, 0, 1, 2, 3, 4, 5, 6], AOper.mk none (.store 1 (.tmp 21) (.tmp 20)) none [7, 6, 0, 1, 2, 3, 4, 5, 6]]
def l94r5 : List AOper :=
  [AOper.mk (some 22) (.mv (.tmp 1)) none [], AOper.mk (some 23) (.mv (.tmp 0)) none [], AOper.mk (some 24) (.mv (.tmp 6)) none [], AOper.mk (some 25) (.idxA 1 (.tmp 23) (.tmp 24)) none [1, 2], AOper.mk (some 26) (.load false 1 (.tmp 25)) none [3], AOper.mk (some 27) (.bin .quo (.tmp 22) (.tmp 26)) none [0, 4], AOper.mk (some 1) (.mv (.tmp 27)) none [5, 0, 1, 2, 3, 4, 5]]
def l94r6 : List AOper :=
  [AOper.mk (some 12) (.mv (.tmp 6)) none [], AOper.mk (some 13) (.bin .sub (.tmp 12) (.const (.int .i64 1))) none [0], AOper.mk (some 6) (.mv (.tmp 13)) none [1, 0, 1]]
def l94r7 : List AOper :=
  [AOper.mk (some 28) (.load true 4 (.tmp 5)) none [], AOper.mk none (.store 4 (.tmp 4) (.tmp 28)) none [0, 0]]
def l94 : AFn :=
  (AFn.mk 29 2 (ACode.seq (ACode.reg l94r0) (ACode.seq (ACode.reg l94r1) (ACode.seq (ACode.seq (ACode.reg l94r2) (ACode.block 0 (ACode.loop (ACode.seq (ACode.seq (ACode.reg l94r3) (ACode.cond (.tmp 11) ACode.skip (ACode.exit 0))) (ACode.seq (ACode.block 1 (ACode.seq (ACode.reg l94r4) (ACode.reg l94r5))) (ACode.reg l94r6)))))) (ACode.seq (ACode.reg l94r7) ACode.ret)))) [ARes.cell 4 true 4])
theorem l94_eq : lowFn Try.prog 94 = some l94 := by kernel_rfl
def l96r0 : List AOper :=
  [AOper.mk (some 2) (.mv (.const (.bool false))) none []]
def l96r1 : List AOper :=
  [AOper.mk (some 3) (.mv (.tmp 0)) none [], AOper.mk (some 4) (.len (.tmp 3)) none [0], AOper.mk (some 5) (.bin .leq (.tmp 4) (.const (.int .i64 4))) none [1], AOper.mk (some 6) (.mv (.tmp 5)) none [2], AOper.mk (some 7) (.mv (.tmp 0)) (some (6, true)) [3], AOper.mk (some 8) (.call 56 [.tmp 7, .const (.int .i64 0), .const (.int .i64 60)]) (some (6, true)) [4, 3, 3], AOper.mk (some 9) (.pick (.tmp 6) (.tmp 8) (.const (.bool false))) none [3, 5], AOper.mk (some 10) (.mv (.tmp 9)) none [6, 5], AOper.mk (some 11) (.mv (.tmp 0)) (some (10, true)) [7], AOper.mk (some 12) (.call 55 [.tmp 11]) (some (10, true)) [8, 7, 7], AOper.mk (some 13) (.bin .leq (.tmp 12) (.const (.int .i64 60))) (some (10, true)) [9, 7], AOper.mk (some 14) (.pick (.tmp 10) (.tmp 13) (.const (.bool false))) none [7, 10], AOper.mk (some 2) (.mv (.tmp 14)) none [11, 9, 0, 1, 2, 3, 4, 5, 6, 7, 8, 9, 10, 11]]
def l96 : AFn :=
  (AFn.mk 15 1 (ACode.seq (ACode.reg l96r0) (ACode.seq (ACode.reg l96r1) ACode.ret)) [ARes.tmp 2])
theorem l96_eq : lowFn Try.prog 96 = some l96 := by kernel_rfl
def l97r0 : List AOper :=
  [AOper.mk (some 4) (.mv (.const (.int .i64 0))) none []]
def l97r1 : List AOper :=
  [AOper.mk (some 5) (.mv (.const (.int .i64 0))) none []]
def l97r2 : List AOper :=
  [AOper.mk (some 6) (.mv (.tmp 5)) none [], AOper.mk (some 7) (.mv (.tmp 0)) none [], AOper.mk (some 8) (.len (.tmp 7)) none [1], AOper.mk (some 9) (.bin .lss (.tmp 6) (.tmp 8)) none [0, 2]]
def l97r3 : List AOper :=
  [AOper.mk (some 12) (.mv (.tmp 0)) none [], AOper.mk (some 13) (.mv (.tmp 5)) none [], AOper.mk (some 14) (.idxA 1 (.tmp 12) (.tmp 13)) none [0, 1], AOper.mk (some 15) (.load false 1 (.tmp 14)) none [2], AOper.mk (some 16) (.mv (.tmp 1)) none [], AOper.mk (some 17) (.bin .eql (.tmp 15) (.tmp 16)) none [3, 4]]
def l97r4 : List AOper :=
  [AOper.mk (some 18) (.mv (.tmp 5)) none [], AOper.mk (some 4) (.mv (.tmp 18)) none [0, 0]]
def l97r5 : List AOper :=
  [AOper.mk (some 10) (.mv (.tmp 5)) none [], AOper.mk (some 11) (.bin .add (.tmp 10) (.const (.int .i64 1))) none [0], AOper.mk (some 5) (.mv (.tmp 11)) none [1, 0, 1]]
def l97r6 : List AOper :=
  [AOper.mk (some 4) (.mv (.const (.int .i64 (-1)))) none []]
def l97 : AFn :=
  (AFn.mk 19 2 (ACode.seq (ACode.reg l97r0) (ACode.seq (ACode.seq (ACode.reg l97r1) (ACode.block 0 (ACode.loop (ACode.seq (ACode.seq (ACode.reg l97r2) (ACode.cond (.tmp 9) ACode.skip (ACode.exit 0))) (ACode.seq (ACode.block 1 (ACode.seq (ACode.reg l97r3) (ACode.cond (.tmp 17) (ACode.seq (ACode.reg l97r4) ACode.ret) ACode.skip))) (ACode.reg l97r5)))))) (ACode.seq (ACode.reg l97r6) ACode.ret))) [ARes.tmp 4])
theorem l97_eq : lowFn Try.prog 97 = some l97 := by kernel_rfl
def l98r0 : List AOper :=
  [AOper.mk (some 2) (.mv (.const (.bool false))) none []]
def l98r1 : List AOper :=
  [AOper.mk (some 5) (.mv (.tmp 0)) none [], AOper.mk (some 6) (.len (.tmp 5)) none [0], AOper.mk (some 7) (.bin .gtr (.tmp 6) (.const (.int .i64 4))) none [1]]
def l98r2 : List AOper :=
  [AOper.mk (some 2) (.mv (.const (.bool false))) none []]
def l98r3 : List AOper :=
  [AOper.mk (some 8) (.mv (.tmp 0)) none [], AOper.mk (some 9) (.len (.tmp 8)) none [0], AOper.mk (some 10) (.mv (.const (.int .i64 0))) none []]
def l98r4 : List AOper :=
  [AOper.mk (some 11) (.bin .lss (.tmp 10) (.tmp 9)) none []]
def l98r5 : List AOper :=
  [AOper.mk (some 12) (.idxA 1 (.tmp 8) (.tmp 10)) none [], AOper.mk (some 13) (.load false 1 (.tmp 12)) none [0], AOper.mk (some 4) (.mv (.tmp 13)) none [1, 0, 1]]
def l98r6 : List AOper :=
  [AOper.mk (some 14) (.mv (.tmp 4)) none [], AOper.mk (some 15) (.call 84 [.tmp 14, .const (.int .i64 60)]) none [0], AOper.mk (some 16) (.un .not (.tmp 15)) none [1]]
def l98r7 : List AOper :=
  [AOper.mk (some 2) (.mv (.const (.bool false))) none []]
def l98r8 : List AOper :=
  [AOper.mk (some 17) (.bin .add (.tmp 10) (.const (.int .i64 1))) none [], AOper.mk (some 10) (.mv (.tmp 17)) none [0]]
def l98r9 : List AOper :=
  [AOper.mk (some 18) (.mv (.tmp 0)) none [], AOper.mk (some 19) (.call 92 [.tmp 18]) none [0], AOper.mk (some 20) (.bin .leq (.tmp 19) (.const (.int .i64 60))) none [1], AOper.mk (some 2) (.mv (.tmp 20)) none [2, 1, 0, 1, 2]]
def l98 : AFn :=
  (AFn.mk 21 1 (ACode.seq (ACode.reg l98r0) (ACode.seq (ACode.seq (ACode.reg l98r1) (ACode.cond (.tmp 7) (ACode.seq (ACode.reg l98r2) ACode.ret) ACode.skip)) (ACode.seq (ACode.seq (ACode.reg l98r3) (ACode.block 0 (ACode.loop (ACode.seq (ACode.reg l98r4) (ACode.seq (ACode.cond (.tmp 11) ACode.skip (ACode.exit 0)) (ACode.seq (ACode.block 1 (ACode.seq (ACode.reg l98r5) (ACode.seq (ACode.reg l98r6) (ACode.cond (.tmp 16) (ACode.seq (ACode.reg l98r7) ACode.ret) ACode.skip)))) (ACode.reg l98r8))))))) (ACode.seq (ACode.reg l98r9) ACode.ret)))) [ARes.tmp 2])
theorem l98_eq : lowFn Try.prog 98 = some l98 := by kernel_rfl
def l99r0 : List AOper :=
  [AOper.mk (some 4) (.mv (.const (.bool false))) none []]
def l99r1 : List AOper :=
  [AOper.mk (some 7) (.mv (.tmp 0)) none [], AOper.mk (some 8) (.len (.tmp 7)) none [0], AOper.mk (some 9) (.mv (.tmp 1)) none [], AOper.mk (some 10) (.bin .neq (.tmp 8) (.tmp 9)) none [1, 2]]
def l99r2 : List AOper :=
  [AOper.mk (some 4) (.mv (.const (.bool false))) none []]
def l99r3 : List AOper :=
  [AOper.mk (some 11) (.mv (.tmp 0)) none [], AOper.mk (some 12) (.len (.tmp 11)) none [0], AOper.mk (some 13) (.mv (.const (.int .i64 0))) none []]
def l99r4 : List AOper :=
  [AOper.mk (some 14) (.bin .lss (.tmp 13) (.tmp 12)) none []]
def l99r5 : List AOper :=
  [AOper.mk (some 15) (.idxA 1 (.tmp 11) (.tmp 13)) none [], AOper.mk (some 16) (.load false 1 (.tmp 15)) none [0], AOper.mk (some 6) (.mv (.tmp 16)) none [1, 0, 1]]
def l99r6 : List AOper :=
  [AOper.mk (some 17) (.mv (.tmp 6)) none [], AOper.mk (some 18) (.call 106 [.tmp 17, .const (.int .i64 60)]) none [0], AOper.mk (some 19) (.un .not (.tmp 18)) none [1]]
def l99r7 : List AOper :=
  [AOper.mk (some 4) (.mv (.const (.bool false))) none []]
def l99r8 : List AOper :=
  [AOper.mk (some 20) (.bin .add (.tmp 13) (.const (.int .i64 1))) none [], AOper.mk (some 13) (.mv (.tmp 20)) none [0]]
def l99r9 : List AOper :=
  [AOper.mk (some 4) (.mv (.const (.bool true))) none []]
def l99 : AFn :=
  (AFn.mk 21 2 (ACode.seq (ACode.reg l99r0) (ACode.seq (ACode.seq (ACode.reg l99r1) (ACode.cond (.tmp 10) (ACode.seq (ACode.reg l99r2) ACode.ret) ACode.skip)) (ACode.seq (ACode.seq (ACode.reg l99r3) (ACode.block 0 (ACode.loop (ACode.seq (ACode.reg l99r4) (ACode.seq (ACode.cond (.tmp 14) ACode.skip (ACode.exit 0)) (ACode.seq (ACode.block 1 (ACode.seq (ACode.reg l99r5) (ACode.seq (ACode.reg l99r6) (ACode.cond (.tmp 19) (ACode.seq (ACode.reg l99r7) ACode.ret) ACode.skip)))) (ACode.reg l99r8))))))) (ACode.seq (ACode.reg l99r9) ACode.ret)))) [ARes.tmp 4])
theorem l99_eq : lowFn Try.prog 99 = some l99 := by kernel_rfl
def l100r0 : List AOper :=
  [AOper.mk (some 1) (.box (.tmp 0)) none [], AOper.mk (some 2) (.mv (.const (.int .i64 0))) none [], AOper.mk (some 3) (.mv (.const (.int .i64 0))) none [1]]
def l100r1 : List AOper :=
  [AOper.mk (some 9) (.load true 3 (.tmp 1)) none [], AOper.mk (some 10) (.call 64 [.tmp 9]) none [0], AOper.mk (some 11) (.bin .eql (.tmp 10) (.const (.int .i64 0))) none [1]]
def l100r2 : List AOper :=
  [AOper.mk (some 2) (.mv (.const (.int .i64 (-1)))) none [], AOper.mk (some 3) (.mv (.const (.int .i64 (-1)))) none [0, 0]]
def l100r3a : List AOper :=
  [AOper.mk (some 12) (.fld 0 (.tmp 1)) none [], AOper.mk (some 13) (.load false 1 (.tmp 12)) none [0], AOper.mk (some 14) (.fld 0 (.tmp 1)) none [], AOper.mk (some 15) (.load false 1 (.tmp 14)) none [2], AOper.mk (some 4) (.mv (.tmp 13)) none [1, 0, 1]]
def l100r3b : List AOper :=
  [AOper.mk (some 5) (.mv (.tmp 15)) none [3, 4, 0, 1, 2, 3, 4]]
def l100r3 : List AOper := l100r3a ++ l100r3b
def l100r4 : List AOper :=
  [AOper.mk (some 16) (.fld 2 (.tmp 1)) none [], AOper.mk (some 17) (.load false 1 (.tmp 16)) none [0], AOper.mk (some 18) (.len (.tmp 17)) none [1], AOper.mk (some 19) (.mv (.const (.int .i64 0))) none []]
def l100r5 : List AOper :=
  [AOper.mk (some 20) (.bin .lss (.tmp 19) (.tmp 18)) none []]
def l100r6 : List AOper :=
  [AOper.mk (some 21) (.mv (.tmp 19)) none [], AOper.mk (some 22) (.idxA 1 (.tmp 17) (.tmp 19)) none [], AOper.mk (some 23) (.load false 1 (.tmp 22)) none [1], AOper.mk (some 6) (.mv (.tmp 21)) none [0, 0, 1, 2], AOper.mk (some 7) (.mv (.tmp 23)) none [2, 3, 0, 1, 2, 3]]
def l100r7 : List AOper :=
  [AOper.mk (some 24) (.fld 1 (.tmp 1)) none [], AOper.mk (some 25) (.load false 1 (.tmp 24)) none [0], AOper.mk (some 26) (.mv (.tmp 6)) none [], AOper.mk (some 27) (.idxA 1 (.tmp 25) (.tmp 26)) none [1, 2], AOper.mk (some 28) (.load false 1 (.tmp 27)) none [3], AOper.mk (some 29) (.bin .sub (.tmp 28) (.const (.int .i64 1))) none [4], AOper.mk (some 30) (.mv (.tmp 7)) none [], AOper.mk (some 31) (.bin .mul (.tmp 29) (.tmp 30)) none [5, 6], AOper.mk (some 8) (.mv (.tmp 31)) none [7, 0, 1, 2, 3, 4, 5, 6, 7]]
def l100r8 : List AOper :=
  [AOper.mk (some 32) (.mv (.tmp 4)) none [], AOper.mk (some 33) (.mv (.tmp 8)) none [], AOper.mk (some 34) (.minmax false (.tmp 33) (.const (.int .i64 0))) none [1], AOper.mk (some 35) (.bin .add (.tmp 32) (.tmp 34)) none [0, 2], AOper.mk (some 4) (.mv (.tmp 35)) none [3, 0, 1, 2, 3]]
def l100r9 : List AOper :=
  [AOper.mk (some 36) (.mv (.tmp 5)) none [], AOper.mk (some 37) (.mv (.tmp 8)) none [], AOper.mk (some 38) (.minmax true (.tmp 37) (.const (.int .i64 0))) none [1], AOper.mk (some 39) (.bin .add (.tmp 36) (.tmp 38)) none [0, 2], AOper.mk (some 5) (.mv (.tmp 39)) none [3, 0, 1, 2, 3]]
def l100r10 : List AOper :=
  [AOper.mk (some 40) (.bin .add (.tmp 19) (.const (.int .i64 1))) none [], AOper.mk (some 19) (.mv (.tmp 40)) none [0]]
def l100r11 : List AOper :=
  [AOper.mk (some 41) (.mv (.tmp 4)) none [], AOper.mk (some 42) (.mv (.tmp 5)) none [], AOper.mk (some 2) (.mv (.tmp 41)) none [0, 0], AOper.mk (some 3) (.mv (.tmp 42)) none [1, 2, 0, 1, 2]]
def l100 : AFn :=
  (AFn.mk 43 1 (ACode.seq (ACode.reg l100r0) (ACode.seq (ACode.seq (ACode.reg l100r1) (ACode.cond (.tmp 11) (ACode.seq (ACode.reg l100r2) ACode.ret) ACode.skip)) (ACode.seq (ACode.draw l100r3) (ACode.seq (ACode.seq (ACode.reg l100r4) (ACode.block 0 (ACode.loop (ACode.seq (ACode.reg l100r5) (ACode.seq (ACode.cond (.tmp 20) ACode.skip (ACode.exit 0)) (ACode.seq (ACode.block 1 (ACode.seq (ACode.reg l100r6) (ACode.seq (ACode.reg l100r7) (ACode.seq (ACode.reg l100r8) (ACode.reg l100r9))))) (ACode.reg l100r10))))))) (ACode.seq (ACode.reg l100r11) ACode.ret))))) [ARes.tmp 2, ARes.tmp 3])
theorem l100_eq : lowFn Try.prog 100 = some l100 := by kernel_rfl
def l101r0 : List AOper :=
  [AOper.mk (some 4) (.mv (.const (.bool false))) none []]
def l101r1 : List AOper :=
  [AOper.mk (some 5) (.mv (.tmp 0)) none [], AOper.mk (some 6) (.mv (.tmp 1)) none [], AOper.mk (some 7) (.call 107 [.tmp 5, .tmp 6]) none [0, 1], AOper.mk (some 8) (.bin .geq (.tmp 7) (.const (.int .i64 0))) none [2], AOper.mk (some 4) (.mv (.tmp 8)) none [3, 2, 0, 1, 2, 3]]
def l101 : AFn :=
  (AFn.mk 9 2 (ACode.seq (ACode.reg l101r0) (ACode.seq (ACode.reg l101r1) ACode.ret)) [ARes.tmp 4])
theorem l101_eq : lowFn Try.prog 101 = some l101 := by kernel_rfl
def l105r0 : List AOper :=
  [AOper.mk (some 2) (.box (.tmp 0)) none [], AOper.mk (some 4) (.mv (.const (.int .i64 0))) none []]
def l105r1 : List AOper :=
  [AOper.mk (some 5) (.mv (.const (.int .i64 0))) none []]
def l105r2 : List AOper :=
  [AOper.mk (some 8) (.mv (.tmp 1)) none [], AOper.mk (some 9) (.len (.tmp 8)) none [0], AOper.mk (some 10) (.mv (.const (.int .i64 0))) none []]
def l105r3 : List AOper :=
  [AOper.mk (some 11) (.bin .lss (.tmp 10) (.tmp 9)) none []]
def l105r4 : List AOper :=
  [AOper.mk (some 12) (.mv (.tmp 10)) none [], AOper.mk (some 13) (.idxA 1 (.tmp 8) (.tmp 10)) none [], AOper.mk (some 14) (.load false 1 (.tmp 13)) none [1], AOper.mk (some 6) (.mv (.tmp 12)) none [0, 0, 1, 2], AOper.mk (some 7) (.mv (.tmp 14)) none [2, 3, 0, 1, 2, 3]]
def l105r5 : List AOper :=
  [AOper.mk (some 15) (.mv (.tmp 5)) none [], AOper.mk (some 16) (.mv (.tmp 6)) none [], AOper.mk (some 17) (.idxP 1 4 (.tmp 2) (.tmp 16)) none [1], AOper.mk (some 18) (.load false 1 (.tmp 17)) none [2], AOper.mk (some 19) (.mv (.tmp 7)) none [], AOper.mk (some 20) (.bin .mul (.tmp 18) (.tmp 19)) none [3, 4], AOper.mk (some 21) (.bin .add (.tmp 15) (.tmp 20)) none [0, 5], AOper.mk (some 5) (.mv (.tmp 21)) none [6, 0, 1, 2, 3, 4, 5, 6]]
def l105r6 : List AOper :=
  [AOper.mk (some 22) (.bin .add (.tmp 10) (.const (.int .i64 1))) none [], AOper.mk (some 10) (.mv (.tmp 22)) none [0]]
def l105r7 : List AOper :=
  [AOper.mk (some 23) (.mv (.tmp 5)) none [], AOper.mk (some 4) (.mv (.tmp 23)) none [0, 0]]
def l105 : AFn :=
  (AFn.mk 24 2 (ACode.seq (ACode.reg l105r0) (ACode.seq (ACode.reg l105r1) (ACode.seq (ACode.seq (ACode.reg l105r2) (ACode.block 0 (ACode.loop (ACode.seq (ACode.reg l105r3) (ACode.seq (ACode.cond (.tmp 11) ACode.skip (ACode.exit 0)) (ACode.seq (ACode.block 1 (ACode.seq (ACode.reg l105r4) (ACode.reg l105r5))) (ACode.reg l105r6))))))) (ACode.seq (ACode.reg l105r7) ACode.ret)))) [ARes.tmp 4])
theorem l105_eq : lowFn Try.prog 105 = some l105 := by kernel_rfl
def l106r0 : List AOper :=
  [AOper.mk (some 4) (.mv (.const (.bool false))) none []]
def l106r1 : List AOper :=
  [AOper.mk (some 5) (.mv (.tmp 1)) none [], AOper.mk (some 6) (.un .neg (.tmp 5)) none [0], AOper.mk (some 7) (.mv (.tmp 0)) none [], AOper.mk (some 8) (.bin .leq (.tmp 6) (.tmp 7)) none [1, 2], AOper.mk (some 9) (.mv (.tmp 8)) none [3], AOper.mk (some 10) (.mv (.tmp 0)) (some (9, true)) [4], AOper.mk (some 11) (.mv (.tmp 1)) (some (9, true)) [4], AOper.mk (some 12) (.bin .leq (.tmp 10) (.tmp 11)) (some (9, true)) [5, 6, 4], AOper.mk (some 13) (.pick (.tmp 9) (.tmp 12) (.const (.bool false))) none [4, 7], AOper.mk (some 4) (.mv (.tmp 13)) none [8, 4, 0, 1, 2, 3, 4, 5, 6, 7, 8]]
def l106 : AFn :=
  (AFn.mk 14 2 (ACode.seq (ACode.reg l106r0) (ACode.seq (ACode.reg l106r1) ACode.ret)) [ARes.tmp 4])
theorem l106_eq : lowFn Try.prog 106 = some l106 := by kernel_rfl
def l107r0 : List AOper :=
  [AOper.mk (some 4) (.mv (.const (.int .i64 0))) none []]
def l107r1 : List AOper :=
  [AOper.mk (some 6) (.mv (.tmp 0)) none [], AOper.mk (some 7) (.len (.tmp 6)) none [0], AOper.mk (some 8) (.mv (.const (.int .i64 0))) none []]
def l107r2 : List AOper :=
  [AOper.mk (some 9) (.bin .lss (.tmp 8) (.tmp 7)) none []]
def l107r3 : List AOper :=
  [AOper.mk (some 10) (.mv (.tmp 8)) none [], AOper.mk (some 5) (.mv (.tmp 10)) none [0, 0]]
def l107r4 : List AOper :=
  [AOper.mk (some 11) (.mv (.tmp 1)) none [], AOper.mk (some 12) (.mv (.tmp 0)) none [], AOper.mk (some 13) (.mv (.tmp 5)) none [], AOper.mk (some 14) (.idxA 1 (.tmp 12) (.tmp 13)) none [1, 2], AOper.mk (some 15) (.load false 1 (.tmp 14)) none [3], AOper.mk (some 16) (.bin .eql (.tmp 11) (.tmp 15)) none [0, 4]]
def l107r5 : List AOper :=
  [AOper.mk (some 17) (.mv (.tmp 5)) none [], AOper.mk (some 4) (.mv (.tmp 17)) none [0, 0]]
def l107r6 : List AOper :=
  [AOper.mk (some 18) (.bin .add (.tmp 8) (.const (.int .i64 1))) none [], AOper.mk (some 8) (.mv (.tmp 18)) none [0]]
def l107r7 : List AOper :=
  [AOper.mk (some 4) (.mv (.const (.int .i64 (-1)))) none []]
def l107 : AFn :=
  (AFn.mk 19 2 (ACode.seq (ACode.reg l107r0) (ACode.seq (ACode.seq (ACode.reg l107r1) (ACode.block 0 (ACode.loop (ACode.seq (ACode.reg l107r2) (ACode.seq (ACode.cond (.tmp 9) ACode.skip (ACode.exit 0)) (ACode.seq (ACode.block 1 (ACode.seq (ACode.reg l107r3) (ACode.seq (ACode.reg l107r4) (ACode.cond (.tmp 16) (ACode.seq (ACode.reg l107r5) ACode.ret) ACode.skip)))) (ACode.reg l107r6))))))) (ACode.seq (ACode.reg l107r7) ACode.ret))) [ARes.tmp 4])
theorem l107_eq : lowFn Try.prog 107 = some l107 := by kernel_rfl
end Go.Proofs.Ytlldjeggalkpgaa
