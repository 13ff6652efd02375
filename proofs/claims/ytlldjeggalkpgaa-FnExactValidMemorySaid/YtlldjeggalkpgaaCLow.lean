import Derived.Test.YtlldjeggalkpgaaCW3
import Derived.Test.YtlldjeggalkpgaaProg
import Derived.KernelRfl
set_option maxRecDepth 100000
namespace Go.Proofs.Ytlldjeggalkpgaa
open Vw Go
def l3r0 : List AOper :=
  [AOper.mk (some 2) (.mv (.const (.bool false))) none []]
def l3r1 : List AOper :=
  [AOper.mk (some 6) (.mv (.tmp 0)) none [], AOper.mk (some 7) (.len (.tmp 6)) none [0], AOper.mk (some 8) (.bin .gtr (.tmp 7) (.const (.int .i64 1048576))) none [1]]
def l3r2 : List AOper :=
  [AOper.mk (some 2) (.mv (.const (.bool true))) none []]
def l3r3 : List AOper :=
  [AOper.mk (some 9) (.mv (.tmp 0)) none [], AOper.mk (some 10) (.call 16 [.tmp 9]) none [0], AOper.mk (some 11) (.call 15 [.tmp 10]) none [1, 1], AOper.mk (some 3) (.mv (.tmp 11)) none [2, 2, 0, 1, 2]]
def l3r4 : List AOper :=
  [AOper.mk (some 12) (.mv (.tmp 0)) none [], AOper.mk (some 13) (.call 16 [.tmp 12]) none [0], AOper.mk (some 4) (.mv (.tmp 13)) none [1, 1, 0, 1]]
def l3r5 : List AOper :=
  [AOper.mk (some 14) (.mv (.tmp 4)) none [], AOper.mk (some 15) (.call 17 [.tmp 14]) none [0], AOper.mk (some 5) (.mv (.tmp 15)) none [1, 1, 0, 1]]
def l3r6 : List AOper :=
  [AOper.mk (some 16) (.mv (.tmp 5)) none [], AOper.mk (some 17) (.mv (.tmp 3)) none [], AOper.mk (some 18) (.binB .neq (.tmp 16) (.tmp 17)) none [0, 1]]
def l3r7 : List AOper :=
  [AOper.mk (some 2) (.mv (.const (.bool false))) none []]
def l3r8 : List AOper :=
  [AOper.mk (some 19) (.mv (.tmp 4)) none [], AOper.mk (some 20) (.mv (.tmp 0)) none [], AOper.mk (some 21) (.call 16 [.tmp 20]) none [1], AOper.mk (some 22) (.call 18 [.tmp 19, .tmp 21]) none [0, 2, 2], AOper.mk (some 23) (.un .not (.tmp 22)) none [3]]
def l3r9 : List AOper :=
  [AOper.mk (some 2) (.mv (.const (.bool false))) none []]
def l3r10 : List AOper :=
  [AOper.mk (some 2) (.mv (.const (.bool true))) none []]
def l3 : AFn :=
  (AFn.mk 24 1 (ACode.seq (ACode.reg l3r0) (ACode.seq (ACode.seq (ACode.reg l3r1) (ACode.cond (.tmp 8) (ACode.seq (ACode.reg l3r2) ACode.ret) ACode.skip)) (ACode.seq (ACode.reg l3r3) (ACode.seq (ACode.reg l3r4) (ACode.seq (ACode.reg l3r5) (ACode.seq (ACode.seq (ACode.reg l3r6) (ACode.cond (.tmp 18) (ACode.seq (ACode.reg l3r7) ACode.ret) ACode.skip)) (ACode.seq (ACode.seq (ACode.reg l3r8) (ACode.cond (.tmp 23) (ACode.seq (ACode.reg l3r9) ACode.ret) ACode.skip)) (ACode.seq (ACode.reg l3r10) ACode.ret)))))))) [ARes.tmp 2])
theorem l3_eq : lowFn Try.prog 3 = some l3 := by kernel_rfl
def l13r0 : List AOper :=
  [AOper.mk (some 4) (.mv (.const (.bool false))) none []]
def l13r1 : List AOper :=
  [AOper.mk (some 13) (.mv (.tmp 0)) none [], AOper.mk (some 14) (.len (.tmp 13)) none [0], AOper.mk (some 15) (.bin .gtr (.tmp 14) (.const (.int .i64 1048576))) none [1]]
def l13r2 : List AOper :=
  [AOper.mk (some 4) (.mv (.const (.bool true))) none []]
def l13r3 : List AOper :=
  [AOper.mk (some 16) (.mv (.tmp 1)) none [], AOper.mk (some 17) (.len (.tmp 16)) none [0], AOper.mk (some 18) (.bin .gtr (.tmp 17) (.const (.int .i64 1048576))) none [1]]
def l13r4 : List AOper :=
  [AOper.mk (some 4) (.mv (.const (.bool true))) none []]
def l13r5 : List AOper :=
  [AOper.mk (some 19) (.mv (.tmp 0)) none [], AOper.mk (some 20) (.call 16 [.tmp 19]) none [0], AOper.mk (some 21) (.mv (.tmp 1)) none [], AOper.mk (some 22) (.call 16 [.tmp 21]) none [2, 1], AOper.mk (some 23) (.call 43 [.tmp 20, .tmp 22]) none [1, 3, 3], AOper.mk (some 5) (.mv (.tmp 23)) none [4, 4, 0, 1, 2, 3, 4]]
def l13r6 : List AOper :=
  [AOper.mk (some 24) (.mv (.tmp 0)) none [], AOper.mk (some 25) (.call 16 [.tmp 24]) none [0], AOper.mk (some 6) (.mv (.tmp 25)) none [1, 1, 0, 1]]
def l13r7 : List AOper :=
  [AOper.mk (some 26) (.mv (.tmp 1)) none [], AOper.mk (some 27) (.call 16 [.tmp 26]) none [0], AOper.mk (some 7) (.mv (.tmp 27)) none [1, 1, 0, 1]]
def l13r8 : List AOper :=
  [AOper.mk (some 28) (.mv (.tmp 6)) none [], AOper.mk (some 29) (.mv (.tmp 7)) none [], AOper.mk (some 30) (.call 44 [.tmp 28, .tmp 29]) none [0, 1], AOper.mk (some 8) (.mv (.tmp 30)) none [2, 2, 0, 1, 2]]
def l13r9 : List AOper :=
  [AOper.mk (some 31) (.mv (.tmp 8)) none [], AOper.mk (some 32) (.mv (.tmp 5)) none [], AOper.mk (some 33) (.call 18 [.tmp 31, .tmp 32]) none [0, 1], AOper.mk (some 34) (.un .not (.tmp 33)) none [2]]
def l13r10 : List AOper :=
  [AOper.mk (some 4) (.mv (.const (.bool false))) none []]
def l13r11 : List AOper :=
  [AOper.mk (some 35) (.mv (.tmp 6)) none [], AOper.mk (some 36) (.mv (.tmp 0)) none [], AOper.mk (some 37) (.call 16 [.tmp 36]) none [1], AOper.mk (some 38) (.call 18 [.tmp 35, .tmp 37]) none [0, 2, 2], AOper.mk (some 39) (.un .not (.tmp 38)) none [3]]
def l13r12 : List AOper :=
  [AOper.mk (some 4) (.mv (.const (.bool false))) none []]
def l13r13 : List AOper :=
  [AOper.mk (some 40) (.mv (.tmp 7)) none [], AOper.mk (some 41) (.mv (.tmp 1)) none [], AOper.mk (some 42) (.call 16 [.tmp 41]) none [1], AOper.mk (some 43) (.call 18 [.tmp 40, .tmp 42]) none [0, 2, 2], AOper.mk (some 44) (.un .not (.tmp 43)) none [3]]
def l13r14 : List AOper :=
  [AOper.mk (some 4) (.mv (.const (.bool false))) none []]
def l13r15 : List AOper :=
  [AOper.mk (some 9) (.mv (.const (.int .i64 1))) none []]
def l13r16 : List AOper :=
  [AOper.mk (some 45) (.mv (.tmp 6)) none [], AOper.mk (some 46) (.mv (.tmp 9)) none [], AOper.mk (some 47) (.call 24 [.tmp 45, .tmp 46]) none [0, 1], AOper.mk (some 9) (.mv (.tmp 47)) none [2, 2, 0, 1, 2]]
def l13r17 : List AOper :=
  [AOper.mk (some 48) (.mv (.tmp 7)) none [], AOper.mk (some 49) (.mv (.tmp 9)) none [], AOper.mk (some 50) (.call 24 [.tmp 48, .tmp 49]) none [0, 1], AOper.mk (some 9) (.mv (.tmp 50)) none [2, 2, 0, 1, 2]]
def l13r18 : List AOper :=
  [AOper.mk (some 51) (.mv (.tmp 9)) none [], AOper.mk (some 52) (.bin .lss (.tmp 51) (.const (.int .i64 0))) none [0], AOper.mk (some 53) (.mv (.tmp 52)) none [1], AOper.mk (some 54) (.mv (.tmp 8)) (some (53, false)) [2], AOper.mk (some 55) (.mv (.tmp 5)) (some (53, false)) [2], AOper.mk (some 56) (.call 18 [.tmp 54, .tmp 55]) (some (53, false)) [3, 4, 2, 2], AOper.mk (some 57) (.un .not (.tmp 56)) (some (53, false)) [5, 2], AOper.mk (some 58) (.pick (.tmp 53) (.const (.bool true)) (.tmp 57)) none [2, 6]]
def l13r19 : List AOper :=
  [AOper.mk (some 4) (.mv (.const (.bool false))) none []]
def l13r20 : List AOper :=
  [AOper.mk (some 10) (.mv (.const (.int .i64 1))) none []]
def l13r21 : List AOper :=
  [AOper.mk (some 59) (.mv (.tmp 8)) none [], AOper.mk (some 60) (.mv (.tmp 10)) none [], AOper.mk (some 61) (.call 24 [.tmp 59, .tmp 60]) none [0, 1], AOper.mk (some 10) (.mv (.tmp 61)) none [2, 2, 0, 1, 2]]
def l13r22 : List AOper :=
  [AOper.mk (some 11) (.mv (.const (.int .i64 1))) none []]
def l13r23 : List AOper :=
  [AOper.mk (some 62) (.mv (.tmp 8)) none [], AOper.mk (some 63) (.mv (.tmp 11)) none [], AOper.mk (some 64) (.call 26 [.tmp 62, .tmp 63]) none [0, 1], AOper.mk (some 11) (.mv (.tmp 64)) none [2, 2, 0, 1, 2]]
def l13r24 : List AOper :=
  [AOper.mk (some 65) (.mv (.tmp 11)) none [], AOper.mk (some 66) (.bin .lss (.tmp 65) (.const (.int .i64 0))) none [0]]
def l13r25 : List AOper :=
  [AOper.mk (some 4) (.mv (.const (.bool false))) none []]
def l13r26 : List AOper :=
  [AOper.mk (some 67) (.mv (.tmp 11)) none [], AOper.mk (some 68) (.mv (.tmp 10)) none [], AOper.mk (some 69) (.bin .neq (.tmp 67) (.tmp 68)) none [0, 1]]
def l13r27 : List AOper :=
  [AOper.mk (some 4) (.mv (.const (.bool false))) none []]
def l13r28 : List AOper :=
  [AOper.mk (some 70) (.mv (.tmp 0)) none [], AOper.mk (some 71) (.call 16 [.tmp 70]) none [0], AOper.mk (some 72) (.mv (.tmp 1)) none [], AOper.mk (some 73) (.call 16 [.tmp 72]) none [2, 1], AOper.mk (some 74) (.call 44 [.tmp 71, .tmp 73]) none [1, 3, 3], AOper.mk (some 12) (.mv (.tmp 74)) none [4, 4, 0, 1, 2, 3, 4]]
def l13r29 : List AOper :=
  [AOper.mk (some 75) (.mv (.tmp 12)) none [], AOper.mk (some 76) (.mv (.tmp 5)) none [], AOper.mk (some 77) (.call 18 [.tmp 75, .tmp 76]) none [0, 1], AOper.mk (some 78) (.un .not (.tmp 77)) none [2]]
def l13r30 : List AOper :=
  [AOper.mk (some 4) (.mv (.const (.bool false))) none []]
def l13r31 : List AOper :=
  [AOper.mk (some 11) (.mv (.const (.int .i64 1))) none []]
def l13r32 : List AOper :=
  [AOper.mk (some 79) (.mv (.tmp 8)) none [], AOper.mk (some 80) (.mv (.tmp 11)) none [], AOper.mk (some 81) (.call 26 [.tmp 79, .tmp 80]) none [0, 1], AOper.mk (some 11) (.mv (.tmp 81)) none [2, 2, 0, 1, 2]]
def l13r33 : List AOper :=
  [AOper.mk (some 82) (.mv (.tmp 11)) none [], AOper.mk (some 83) (.bin .lss (.tmp 82) (.const (.int .i64 0))) none [0]]
def l13r34 : List AOper :=
  [AOper.mk (some 4) (.mv (.const (.bool false))) none []]
def l13r35 : List AOper :=
  [AOper.mk (some 84) (.mv (.tmp 11)) none [], AOper.mk (some 85) (.mv (.tmp 10)) none [], AOper.mk (some 86) (.bin .neq (.tmp 84) (.tmp 85)) none [0, 1]]
def l13r36 : List AOper :=
  [AOper.mk (some 4) (.mv (.const (.bool false))) none []]
def l13r37 : List AOper :=
  [AOper.mk (some 4) (.mv (.const (.bool true))) none []]
def l13 : AFn :=
  (AFn.mk 87 2 (ACode.seq (ACode.reg l13r0) (ACode.seq (ACode.seq (ACode.reg l13r1) (ACode.cond (.tmp 15) (ACode.seq (ACode.reg l13r2) ACode.ret) ACode.skip)) (ACode.seq (ACode.seq (ACode.reg l13r3) (ACode.cond (.tmp 18) (ACode.seq (ACode.reg l13r4) ACode.ret) ACode.skip)) (ACode.seq (ACode.reg l13r5) (ACode.seq (ACode.reg l13r6) (ACode.seq (ACode.reg l13r7) (ACode.seq (ACode.reg l13r8) (ACode.seq (ACode.seq (ACode.reg l13r9) (ACode.cond (.tmp 34) (ACode.seq (ACode.reg l13r10) ACode.ret) ACode.skip)) (ACode.seq (ACode.seq (ACode.reg l13r11) (ACode.cond (.tmp 39) (ACode.seq (ACode.reg l13r12) ACode.ret) ACode.skip)) (ACode.seq (ACode.seq (ACode.reg l13r13) (ACode.cond (.tmp 44) (ACode.seq (ACode.reg l13r14) ACode.ret) ACode.skip)) (ACode.seq (ACode.reg l13r15) (ACode.seq (ACode.reg l13r16) (ACode.seq (ACode.reg l13r17) (ACode.seq (ACode.seq (ACode.reg l13r18) (ACode.cond (.tmp 58) (ACode.seq (ACode.reg l13r19) ACode.ret) ACode.skip)) (ACode.seq (ACode.reg l13r20) (ACode.seq (ACode.reg l13r21) (ACode.seq (ACode.reg l13r22) (ACode.seq (ACode.reg l13r23) (ACode.seq (ACode.seq (ACode.reg l13r24) (ACode.cond (.tmp 66) (ACode.seq (ACode.reg l13r25) ACode.ret) ACode.skip)) (ACode.seq (ACode.seq (ACode.reg l13r26) (ACode.cond (.tmp 69) (ACode.seq (ACode.reg l13r27) ACode.ret) ACode.skip)) (ACode.seq (ACode.reg l13r28) (ACode.seq (ACode.seq (ACode.reg l13r29) (ACode.cond (.tmp 78) (ACode.seq (ACode.reg l13r30) ACode.ret) ACode.skip)) (ACode.seq (ACode.reg l13r31) (ACode.seq (ACode.reg l13r32) (ACode.seq (ACode.seq (ACode.reg l13r33) (ACode.cond (.tmp 83) (ACode.seq (ACode.reg l13r34) ACode.ret) ACode.skip)) (ACode.seq (ACode.seq (ACode.reg l13r35) (ACode.cond (.tmp 86) (ACode.seq (ACode.reg l13r36) ACode.ret) ACode.skip)) (ACode.seq (ACode.reg l13r37) ACode.ret))))))))))))))))))))))))))) [ARes.tmp 4])
theorem l13_eq : lowFn Try.prog 13 = some l13 := by kernel_rfl
def l15r0 : List AOper :=
  [AOper.mk (some 2) (.mv (.const (.bool false))) none []]
def l15r1 : List AOper :=
  [AOper.mk (some 3) (.mv (.tmp 0)) none [], AOper.mk (some 4) (.call 47 [.tmp 3]) none [0], AOper.mk (some 2) (.mv (.tmp 4)) none [1, 1, 0, 1]]
def l15 : AFn :=
  (AFn.mk 5 1 (ACode.seq (ACode.reg l15r0) (ACode.seq (ACode.reg l15r1) ACode.ret)) [ARes.tmp 2])
theorem l15_eq : lowFn Try.prog 15 = some l15 := by kernel_rfl
def l16r0 : List AOper :=
  [AOper.mk (some 2) (.mv (.const (.slice none 0 0))) none []]
def l16r1 : List AOper :=
  [AOper.mk (some 5) (.mv (.tmp 0)) none [], AOper.mk (some 6) (.len (.tmp 5)) none [0], AOper.mk (some 7) (.mkslice 1 [.int .i64 0] (.tmp 6) (.tmp 6)) none [1, 1], AOper.mk (some 3) (.mv (.tmp 7)) none [2, 0, 1, 2]]
def l16r2 : List AOper :=
  [AOper.mk (some 4) (.mv (.const (.int .i64 0))) none []]
def l16r3 : List AOper :=
  [AOper.mk (some 8) (.mv (.tmp 4)) none [], AOper.mk (some 9) (.mv (.tmp 0)) none [], AOper.mk (some 10) (.len (.tmp 9)) none [1], AOper.mk (some 11) (.bin .lss (.tmp 8) (.tmp 10)) none [0, 2]]
def l16r4 : List AOper :=
  [AOper.mk (some 14) (.mv (.tmp 3)) none [], AOper.mk (some 15) (.mv (.tmp 4)) none [], AOper.mk (some 16) (.mv (.tmp 0)) none [], AOper.mk (some 17) (.mv (.tmp 4)) none [], AOper.mk (some 18) (.idxA 1 (.tmp 16) (.tmp 17)) none [2, 3], AOper.mk (some 19) (.load false 1 (.tmp 18)) none [4], AOper.mk (some 20) (.idxA 1 (.tmp 14) (.tmp 15)) none [0, 1, 0, 1, 2, 3, 4, 5], AOper.mk none (.store 1 (.tmp 20) (.tmp 19)) none [6, 5, 0, 1, 2, 3, 4, 5]]
def l16r5 : List AOper :=
  [AOper.mk (some 12) (.mv (.tmp 4)) none [], AOper.mk (some 13) (.bin .add (.tmp 12) (.const (.int .i64 1))) none [0], AOper.mk (some 4) (.mv (.tmp 13)) none [1, 0, 1]]
def l16r6 : List AOper :=
  [AOper.mk (some 21) (.mv (.tmp 3)) none [], AOper.mk (some 2) (.mv (.tmp 21)) none [0, 0]]
def l16 : AFn :=
  (AFn.mk 22 1 (ACode.seq (ACode.reg l16r0) (ACode.seq (ACode.reg l16r1) (ACode.seq (ACode.seq (ACode.reg l16r2) (ACode.block 0 (ACode.loop (ACode.seq (ACode.seq (ACode.reg l16r3) (ACode.cond (.tmp 11) ACode.skip (ACode.exit 0))) (ACode.seq (ACode.block 1 (ACode.reg l16r4)) (ACode.reg l16r5)))))) (ACode.seq (ACode.reg l16r6) ACode.ret)))) [ARes.tmp 2])
theorem l16_eq : lowFn Try.prog 16 = some l16 := by kernel_rfl
def l17r0 : List AOper :=
  [AOper.mk (some 2) (.mv (.const (.bool false))) none []]
def l17r1 : List AOper :=
  [AOper.mk (some 3) (.mv (.tmp 0)) none [], AOper.mk (some 4) (.len (.tmp 3)) none [0], AOper.mk (some 5) (.call 48 [.tmp 4]) none [1], AOper.mk (some 6) (.mv (.tmp 5)) none [2, 2], AOper.mk (some 7) (.mv (.tmp 0)) (some (6, true)) [3], AOper.mk (some 8) (.call 49 [.tmp 7]) (some (6, true)) [4, 3, 3], AOper.mk (some 9) (.pick (.tmp 6) (.tmp 8) (.const (.bool false))) none [3, 5], AOper.mk (some 2) (.mv (.tmp 9)) none [6, 5, 0, 1, 2, 3, 4, 5, 6]]
def l17 : AFn :=
  (AFn.mk 10 1 (ACode.seq (ACode.reg l17r0) (ACode.seq (ACode.reg l17r1) ACode.ret)) [ARes.tmp 2])
theorem l17_eq : lowFn Try.prog 17 = some l17 := by kernel_rfl
def l18r0 : List AOper :=
  [AOper.mk (some 4) (.mv (.const (.bool false))) none []]
def l18r1 : List AOper :=
  [AOper.mk (some 6) (.mv (.tmp 0)) none [], AOper.mk (some 7) (.len (.tmp 6)) none [0], AOper.mk (some 8) (.mv (.tmp 1)) none [], AOper.mk (some 9) (.len (.tmp 8)) none [2], AOper.mk (some 10) (.bin .neq (.tmp 7) (.tmp 9)) none [1, 3]]
def l18r2 : List AOper :=
  [AOper.mk (some 4) (.mv (.const (.bool false))) none []]
def l18r3 : List AOper :=
  [AOper.mk (some 5) (.mv (.const (.int .i64 0))) none []]
def l18r4 : List AOper :=
  [AOper.mk (some 11) (.mv (.tmp 5)) none [], AOper.mk (some 12) (.mv (.tmp 0)) none [], AOper.mk (some 13) (.len (.tmp 12)) none [1], AOper.mk (some 14) (.bin .lss (.tmp 11) (.tmp 13)) none [0, 2]]
def l18r5a : List AOper :=
  [AOper.mk (some 17) (.mv (.tmp 0)) none [], AOper.mk (some 18) (.mv (.tmp 5)) none [], AOper.mk (some 19) (.idxA 1 (.tmp 17) (.tmp 18)) none [0, 1], AOper.mk (some 20) (.load false 1 (.tmp 19)) none [2], AOper.mk (some 21) (.mv (.tmp 1)) none [], AOper.mk (some 22) (.mv (.tmp 5)) none [], AOper.mk (some 23) (.idxA 1 (.tmp 21) (.tmp 22)) none [4, 5], AOper.mk (some 24) (.load false 1 (.tmp 23)) none [6]]
def l18r5b : List AOper :=
  [AOper.mk (some 25) (.bin .neq (.tmp 20) (.tmp 24)) none [3, 7]]
def l18r5 : List AOper := l18r5a ++ l18r5b
def l18r6 : List AOper :=
  [AOper.mk (some 4) (.mv (.const (.bool false))) none []]
def l18r7 : List AOper :=
  [AOper.mk (some 15) (.mv (.tmp 5)) none [], AOper.mk (some 16) (.bin .add (.tmp 15) (.const (.int .i64 1))) none [0], AOper.mk (some 5) (.mv (.tmp 16)) none [1, 0, 1]]
def l18r8 : List AOper :=
  [AOper.mk (some 4) (.mv (.const (.bool true))) none []]
def l18 : AFn :=
  (AFn.mk 26 2 (ACode.seq (ACode.reg l18r0) (ACode.seq (ACode.seq (ACode.reg l18r1) (ACode.cond (.tmp 10) (ACode.seq (ACode.reg l18r2) ACode.ret) ACode.skip)) (ACode.seq (ACode.seq (ACode.reg l18r3) (ACode.block 0 (ACode.loop (ACode.seq (ACode.seq (ACode.reg l18r4) (ACode.cond (.tmp 14) ACode.skip (ACode.exit 0))) (ACode.seq (ACode.block 1 (ACode.seq (ACode.draw l18r5) (ACode.cond (.tmp 25) (ACode.seq (ACode.reg l18r6) ACode.ret) ACode.skip))) (ACode.reg l18r7)))))) (ACode.seq (ACode.reg l18r8) ACode.ret)))) [ARes.tmp 4])
theorem l18_eq : lowFn Try.prog 18 = some l18 := by kernel_rfl
def l24r0 : List AOper :=
  [AOper.mk (some 4) (.mv (.const (.int .i64 0))) none []]
def l24r1 : List AOper :=
  [AOper.mk (some 5) (.mv (.const (.int .i64 0))) none []]
def l24r2 : List AOper :=
  [AOper.mk (some 6) (.mv (.tmp 5)) none [], AOper.mk (some 7) (.mv (.tmp 0)) none [], AOper.mk (some 8) (.len (.tmp 7)) none [1], AOper.mk (some 9) (.bin .lss (.tmp 6) (.tmp 8)) none [0, 2]]
def l24r3 : List AOper :=
  [AOper.mk (some 12) (.mv (.tmp 0)) none [], AOper.mk (some 13) (.mv (.tmp 5)) none [], AOper.mk (some 14) (.mv (.tmp 1)) none [], AOper.mk (some 15) (.idxA 1 (.tmp 12) (.tmp 13)) none [0, 1, 0, 1, 2], AOper.mk none (.store 1 (.tmp 15) (.tmp 14)) none [3, 2, 0, 1, 2]]
def l24r4 : List AOper :=
  [AOper.mk (some 16) (.mv (.tmp 1)) none [], AOper.mk (some 17) (.bin .add (.tmp 16) (.const (.int .i64 1))) none [0], AOper.mk (some 1) (.mv (.tmp 17)) none [1, 0, 1]]
def l24r5 : List AOper :=
  [AOper.mk (some 10) (.mv (.tmp 5)) none [], AOper.mk (some 11) (.bin .add (.tmp 10) (.const (.int .i64 1))) none [0], AOper.mk (some 5) (.mv (.tmp 11)) none [1, 0, 1]]
def l24r6 : List AOper :=
  [AOper.mk (some 18) (.mv (.tmp 1)) none [], AOper.mk (some 4) (.mv (.tmp 18)) none [0, 0]]
def l24 : AFn :=
  (AFn.mk 19 2 (ACode.seq (ACode.reg l24r0) (ACode.seq (ACode.seq (ACode.reg l24r1) (ACode.block 0 (ACode.loop (ACode.seq (ACode.seq (ACode.reg l24r2) (ACode.cond (.tmp 9) ACode.skip (ACode.exit 0))) (ACode.seq (ACode.block 1 (ACode.seq (ACode.reg l24r3) (ACode.reg l24r4))) (ACode.reg l24r5)))))) (ACode.seq (ACode.reg l24r6) ACode.ret))) [ARes.tmp 4])
theorem l24_eq : lowFn Try.prog 24 = some l24 := by kernel_rfl
def l26r0 : List AOper :=
  [AOper.mk (some 4) (.mv (.const (.int .i64 0))) none []]
def l26r1 : List AOper :=
  [AOper.mk (some 5) (.mv (.const (.int .i64 0))) none []]
def l26r2 : List AOper :=
  [AOper.mk (some 6) (.mv (.tmp 5)) none [], AOper.mk (some 7) (.mv (.tmp 0)) none [], AOper.mk (some 8) (.len (.tmp 7)) none [1], AOper.mk (some 9) (.bin .lss (.tmp 6) (.tmp 8)) none [0, 2]]
def l26r3 : List AOper :=
  [AOper.mk (some 12) (.mv (.tmp 0)) none [], AOper.mk (some 13) (.mv (.tmp 5)) none [], AOper.mk (some 14) (.idxA 1 (.tmp 12) (.tmp 13)) none [0, 1], AOper.mk (some 15) (.load false 1 (.tmp 14)) none [2], AOper.mk (some 16) (.mv (.tmp 1)) none [], AOper.mk (some 17) (.bin .neq (.tmp 15) (.tmp 16)) none [3, 4]]
def l26r4 : List AOper :=
  [AOper.mk (some 4) (.mv (.const (.int .i64 (-1)))) none []]
def l26r5 : List AOper :=
  [AOper.mk (some 18) (.mv (.tmp 1)) none [], AOper.mk (some 19) (.bin .add (.tmp 18) (.const (.int .i64 1))) none [0], AOper.mk (some 1) (.mv (.tmp 19)) none [1, 0, 1]]
def l26r6 : List AOper :=
  [AOper.mk (some 10) (.mv (.tmp 5)) none [], AOper.mk (some 11) (.bin .add (.tmp 10) (.const (.int .i64 1))) none [0], AOper.mk (some 5) (.mv (.tmp 11)) none [1, 0, 1]]
def l26r7 : List AOper :=
  [AOper.mk (some 20) (.mv (.tmp 1)) none [], AOper.mk (some 4) (.mv (.tmp 20)) none [0, 0]]
def l26 : AFn :=
  (AFn.mk 21 2 (ACode.seq (ACode.reg l26r0) (ACode.seq (ACode.seq (ACode.reg l26r1) (ACode.block 0 (ACode.loop (ACode.seq (ACode.seq (ACode.reg l26r2) (ACode.cond (.tmp 9) ACode.skip (ACode.exit 0))) (ACode.seq (ACode.block 1 (ACode.seq (ACode.seq (ACode.reg l26r3) (ACode.cond (.tmp 17) (ACode.seq (ACode.reg l26r4) ACode.ret) ACode.skip)) (ACode.reg l26r5))) (ACode.reg l26r6)))))) (ACode.seq (ACode.reg l26r7) ACode.ret))) [ARes.tmp 4])
theorem l26_eq : lowFn Try.prog 26 = some l26 := by kernel_rfl
def l43r0 : List AOper :=
  [AOper.mk (some 4) (.mv (.const (.slice none 0 0))) none []]
def l43r1 : List AOper :=
  [AOper.mk (some 7) (.mv (.tmp 0)) none [], AOper.mk (some 8) (.call 47 [.tmp 7]) none [0], AOper.mk (some 9) (.un .not (.tmp 8)) none [1], AOper.mk (some 10) (.mv (.tmp 9)) none [2, 1], AOper.mk (some 11) (.mv (.tmp 1)) (some (10, false)) [3], AOper.mk (some 12) (.call 47 [.tmp 11]) (some (10, false)) [4, 3, 3], AOper.mk (some 13) (.un .not (.tmp 12)) (some (10, false)) [5, 3], AOper.mk (some 14) (.pick (.tmp 10) (.const (.bool true)) (.tmp 13)) none [3, 6], AOper.mk (some 15) (.mv (.tmp 14)) none [7, 5], AOper.mk (some 16) (.mv (.tmp 0)) (some (15, false)) [8], AOper.mk (some 17) (.len (.tmp 16)) (some (15, false)) [9, 8], AOper.mk (some 18) (.mv (.tmp 1)) (some (15, false)) [8], AOper.mk (some 19) (.len (.tmp 18)) (some (15, false)) [11, 8], AOper.mk (some 20) (.bin .neq (.tmp 17) (.tmp 19)) (some (15, false)) [10, 12, 8], AOper.mk (some 21) (.pick (.tmp 15) (.const (.bool true)) (.tmp 20)) none [8, 13]]
def l43r2 : List AOper :=
  [AOper.mk (some 4) (.mv (.const (.slice none 0 0))) none []]
def l43r3 : List AOper :=
  [AOper.mk (some 22) (.bslice 1 [.int .i64 0] [] 0) none [], AOper.mk (some 5) (.mv (.tmp 22)) none [0, 0]]
def l43r4 : List AOper :=
  [AOper.mk (some 6) (.mv (.const (.int .i64 0))) none []]
def l43r5 : List AOper :=
  [AOper.mk (some 23) (.mv (.tmp 6)) none [], AOper.mk (some 24) (.mv (.tmp 0)) none [], AOper.mk (some 25) (.len (.tmp 24)) none [1], AOper.mk (some 26) (.bin .lss (.tmp 23) (.tmp 25)) none [0, 2]]
def l43r6a : List AOper :=
  [AOper.mk (some 29) (.mv (.tmp 0)) none [], AOper.mk (some 30) (.mv (.tmp 6)) none [], AOper.mk (some 31) (.idxA 1 (.tmp 29) (.tmp 30)) none [0, 1], AOper.mk (some 32) (.load false 1 (.tmp 31)) none [2], AOper.mk (some 33) (.mv (.tmp 1)) none [], AOper.mk (some 34) (.mv (.tmp 6)) none [], AOper.mk (some 35) (.idxA 1 (.tmp 33) (.tmp 34)) none [4, 5], AOper.mk (some 36) (.load false 1 (.tmp 35)) none [6]]
def l43r6b : List AOper :=
  [AOper.mk (some 37) (.bin .neq (.tmp 32) (.tmp 36)) none [3, 7]]
def l43r6 : List AOper := l43r6a ++ l43r6b
def l43r7 : List AOper :=
  [AOper.mk (some 38) (.mv (.tmp 5)) none [], AOper.mk (some 39) (.mv (.tmp 6)) none [], AOper.mk (some 40) (.bslice 1 [.int .i64 0] [(0, .tmp 39)] 1) none [1], AOper.mk (some 41) (.append 1 (.tmp 38) (.tmp 40)) none [0, 2], AOper.mk (some 5) (.mv (.tmp 41)) none [3, 3, 0, 1, 2, 3]]
def l43r8 : List AOper :=
  [AOper.mk (some 27) (.mv (.tmp 6)) none [], AOper.mk (some 28) (.bin .add (.tmp 27) (.const (.int .i64 1))) none [0], AOper.mk (some 6) (.mv (.tmp 28)) none [1, 0, 1]]
def l43r9 : List AOper :=
  [AOper.mk (some 42) (.mv (.tmp 5)) none [], AOper.mk (some 4) (.mv (.tmp 42)) none [0, 0]]
def l43 : AFn :=
  (AFn.mk 43 2 (ACode.seq (ACode.reg l43r0) (ACode.seq (ACode.seq (ACode.reg l43r1) (ACode.cond (.tmp 21) (ACode.seq (ACode.reg l43r2) ACode.ret) ACode.skip)) (ACode.seq (ACode.reg l43r3) (ACode.seq (ACode.seq (ACode.reg l43r4) (ACode.block 0 (ACode.loop (ACode.seq (ACode.seq (ACode.reg l43r5) (ACode.cond (.tmp 26) ACode.skip (ACode.exit 0))) (ACode.seq (ACode.block 1 (ACode.seq (ACode.draw l43r6) (ACode.cond (.tmp 37) (ACode.reg l43r7) ACode.skip))) (ACode.reg l43r8)))))) (ACode.seq (ACode.reg l43r9) ACode.ret))))) [ARes.tmp 4])
theorem l43_eq : lowFn Try.prog 43 = some l43 := by kernel_rfl
def l44r0 : List AOper :=
  [AOper.mk (some 4) (.mv (.const (.slice none 0 0))) none []]
def l44r1 : List AOper :=
  [AOper.mk (some 8) (.mv (.tmp 0)) none [], AOper.mk (some 9) (.call 17 [.tmp 8]) none [0], AOper.mk (some 10) (.un .not (.tmp 9)) none [1], AOper.mk (some 11) (.mv (.tmp 10)) none [2, 1], AOper.mk (some 12) (.mv (.tmp 1)) (some (11, false)) [3], AOper.mk (some 13) (.call 17 [.tmp 12]) (some (11, false)) [4, 3, 3], AOper.mk (some 14) (.un .not (.tmp 13)) (some (11, false)) [5, 3], AOper.mk (some 15) (.pick (.tmp 11) (.const (.bool true)) (.tmp 14)) none [3, 6], AOper.mk (some 16) (.mv (.tmp 15)) none [7, 5], AOper.mk (some 17) (.mv (.tmp 0)) (some (16, false)) [8], AOper.mk (some 18) (.len (.tmp 17)) (some (16, false)) [9, 8], AOper.mk (some 19) (.mv (.tmp 1)) (some (16, false)) [8], AOper.mk (some 20) (.len (.tmp 19)) (some (16, false)) [11, 8], AOper.mk (some 21) (.bin .neq (.tmp 18) (.tmp 20)) (some (16, false)) [10, 12, 8], AOper.mk (some 22) (.pick (.tmp 16) (.const (.bool true)) (.tmp 21)) none [8, 13]]
def l44r2 : List AOper :=
  [AOper.mk (some 4) (.mv (.const (.slice none 0 0))) none []]
def l44r3 : List AOper :=
  [AOper.mk (some 5) (.mv (.const (.slice none 0 0))) none []]
def l44r4 : List AOper :=
  [AOper.mk (some 23) (.mv (.tmp 0)) none [], AOper.mk (some 24) (.len (.tmp 23)) none [0], AOper.mk (some 25) (.mv (.const (.int .i64 0))) none []]
def l44r5 : List AOper :=
  [AOper.mk (some 26) (.bin .lss (.tmp 25) (.tmp 24)) none []]
def l44r6 : List AOper :=
  [AOper.mk (some 27) (.mv (.tmp 25)) none [], AOper.mk (some 28) (.idxA 1 (.tmp 23) (.tmp 25)) none [], AOper.mk (some 29) (.load false 1 (.tmp 28)) none [1], AOper.mk (some 6) (.mv (.tmp 27)) none [0, 0, 1, 2], AOper.mk (some 7) (.mv (.tmp 29)) none [2, 3, 0, 1, 2, 3]]
def l44r7 : List AOper :=
  [AOper.mk (some 30) (.mv (.tmp 7)) none [], AOper.mk (some 31) (.mv (.tmp 1)) none [], AOper.mk (some 32) (.mv (.tmp 6)) none [], AOper.mk (some 33) (.idxA 1 (.tmp 31) (.tmp 32)) none [1, 2], AOper.mk (some 34) (.load false 1 (.tmp 33)) none [3], AOper.mk (some 35) (.bin .neq (.tmp 30) (.tmp 34)) none [0, 4]]
def l44r8 : List AOper :=
  [AOper.mk (some 36) (.mv (.tmp 5)) none [], AOper.mk (some 37) (.mv (.tmp 6)) none [], AOper.mk (some 38) (.bslice 1 [.int .i64 0] [(0, .tmp 37)] 1) none [1], AOper.mk (some 39) (.append 1 (.tmp 36) (.tmp 38)) none [0, 2], AOper.mk (some 5) (.mv (.tmp 39)) none [3, 3, 0, 1, 2, 3]]
def l44r9 : List AOper :=
  [AOper.mk (some 40) (.bin .add (.tmp 25) (.const (.int .i64 1))) none [], AOper.mk (some 25) (.mv (.tmp 40)) none [0]]
def l44r10 : List AOper :=
  [AOper.mk (some 41) (.mv (.tmp 5)) none [], AOper.mk (some 4) (.mv (.tmp 41)) none [0, 0]]
def l44 : AFn :=
  (AFn.mk 42 2 (ACode.seq (ACode.reg l44r0) (ACode.seq (ACode.seq (ACode.reg l44r1) (ACode.cond (.tmp 22) (ACode.seq (ACode.reg l44r2) ACode.ret) ACode.skip)) (ACode.seq (ACode.reg l44r3) (ACode.seq (ACode.seq (ACode.reg l44r4) (ACode.block 0 (ACode.loop (ACode.seq (ACode.reg l44r5) (ACode.seq (ACode.cond (.tmp 26) ACode.skip (ACode.exit 0)) (ACode.seq (ACode.block 1 (ACode.seq (ACode.reg l44r6) (ACode.seq (ACode.reg l44r7) (ACode.cond (.tmp 35) (ACode.reg l44r8) ACode.skip)))) (ACode.reg l44r9))))))) (ACode.seq (ACode.reg l44r10) ACode.ret))))) [ARes.tmp 4])
theorem l44_eq : lowFn Try.prog 44 = some l44 := by kernel_rfl
def l47r0 : List AOper :=
  [AOper.mk (some 2) (.mv (.const (.bool false))) none []]
def l47r1 : List AOper :=
  [AOper.mk (some 3) (.mv (.tmp 0)) none [], AOper.mk (some 4) (.len (.tmp 3)) none [0], AOper.mk (some 5) (.bin .leq (.tmp 4) (.const (.int .i64 60))) none [1], AOper.mk (some 6) (.mv (.tmp 5)) none [2], AOper.mk (some 7) (.mv (.tmp 0)) (some (6, true)) [3], AOper.mk (some 8) (.call 56 [.tmp 7, .const (.int .i64 0), .const (.int .i64 255)]) (some (6, true)) [4, 3, 3], AOper.mk (some 9) (.pick (.tmp 6) (.tmp 8) (.const (.bool false))) none [3, 5], AOper.mk (some 2) (.mv (.tmp 9)) none [6, 5, 0, 1, 2, 3, 4, 5, 6]]
def l47 : AFn :=
  (AFn.mk 10 1 (ACode.seq (ACode.reg l47r0) (ACode.seq (ACode.reg l47r1) ACode.ret)) [ARes.tmp 2])
theorem l47_eq : lowFn Try.prog 47 = some l47 := by kernel_rfl
def l48r0 : List AOper :=
  [AOper.mk (some 2) (.mv (.const (.bool false))) none []]
def l48r1 : List AOper :=
  [AOper.mk (some 3) (.mv (.tmp 0)) none [], AOper.mk (some 4) (.bin .leq (.const (.int .i64 0)) (.tmp 3)) none [0], AOper.mk (some 5) (.mv (.tmp 4)) none [1], AOper.mk (some 6) (.mv (.tmp 0)) (some (5, true)) [2], AOper.mk (some 7) (.bin .leq (.tmp 6) (.const (.int .i64 60))) (some (5, true)) [3, 2], AOper.mk (some 8) (.pick (.tmp 5) (.tmp 7) (.const (.bool false))) none [2, 4], AOper.mk (some 2) (.mv (.tmp 8)) none [5, 2, 0, 1, 2, 3, 4, 5]]
def l48 : AFn :=
  (AFn.mk 9 1 (ACode.seq (ACode.reg l48r0) (ACode.seq (ACode.reg l48r1) ACode.ret)) [ARes.tmp 2])
theorem l48_eq : lowFn Try.prog 48 = some l48 := by kernel_rfl
def l49r0 : List AOper :=
  [AOper.mk (some 2) (.mv (.const (.bool false))) none []]
def l49r1 : List AOper :=
  [AOper.mk (some 5) (.mv (.tmp 0)) none [], AOper.mk (some 6) (.len (.tmp 5)) none [0], AOper.mk (some 7) (.mv (.const (.int .i64 0))) none []]
def l49r2 : List AOper :=
  [AOper.mk (some 8) (.bin .lss (.tmp 7) (.tmp 6)) none []]
def l49r3 : List AOper :=
  [AOper.mk (some 9) (.idxA 1 (.tmp 5) (.tmp 7)) none [], AOper.mk (some 10) (.load false 1 (.tmp 9)) none [0], AOper.mk (some 4) (.mv (.tmp 10)) none [1, 0, 1]]
def l49r4 : List AOper :=
  [AOper.mk (some 11) (.mv (.tmp 4)) none [], AOper.mk (some 12) (.call 84 [.tmp 11, .const (.int .i64 255)]) none [0], AOper.mk (some 13) (.un .not (.tmp 12)) none [1]]
def l49r5 : List AOper :=
  [AOper.mk (some 2) (.mv (.const (.bool false))) none []]
def l49r6 : List AOper :=
  [AOper.mk (some 14) (.bin .add (.tmp 7) (.const (.int .i64 1))) none [], AOper.mk (some 7) (.mv (.tmp 14)) none [0]]
def l49r7 : List AOper :=
  [AOper.mk (some 2) (.mv (.const (.bool true))) none []]
def l49 : AFn :=
  (AFn.mk 15 1 (ACode.seq (ACode.reg l49r0) (ACode.seq (ACode.seq (ACode.reg l49r1) (ACode.block 0 (ACode.loop (ACode.seq (ACode.reg l49r2) (ACode.seq (ACode.cond (.tmp 8) ACode.skip (ACode.exit 0)) (ACode.seq (ACode.block 1 (ACode.seq (ACode.reg l49r3) (ACode.seq (ACode.reg l49r4) (ACode.cond (.tmp 13) (ACode.seq (ACode.reg l49r5) ACode.ret) ACode.skip)))) (ACode.reg l49r6))))))) (ACode.seq (ACode.reg l49r7) ACode.ret))) [ARes.tmp 2])
theorem l49_eq : lowFn Try.prog 49 = some l49 := by kernel_rfl
def l56r0 : List AOper :=
  [AOper.mk (some 6) (.mv (.const (.bool false))) none []]
def l56r1 : List AOper :=
  [AOper.mk (some 7) (.mv (.const (.int .i64 0))) none []]
def l56r2 : List AOper :=
  [AOper.mk (some 8) (.mv (.tmp 7)) none [], AOper.mk (some 9) (.mv (.tmp 0)) none [], AOper.mk (some 10) (.len (.tmp 9)) none [1], AOper.mk (some 11) (.bin .lss (.tmp 8) (.tmp 10)) none [0, 2]]
def l56r3 : List AOper :=
  [AOper.mk (some 14) (.mv (.tmp 0)) none [], AOper.mk (some 15) (.mv (.tmp 7)) none [], AOper.mk (some 16) (.idxA 1 (.tmp 14) (.tmp 15)) none [0, 1], AOper.mk (some 17) (.load false 1 (.tmp 16)) none [2], AOper.mk (some 18) (.mv (.tmp 1)) none [], AOper.mk (some 19) (.mv (.tmp 2)) none [], AOper.mk (some 20) (.call 60 [.tmp 17, .tmp 18, .tmp 19]) none [3, 4, 5], AOper.mk (some 21) (.un .not (.tmp 20)) none [6]]
def l56r4 : List AOper :=
  [AOper.mk (some 6) (.mv (.const (.bool false))) none []]
def l56r5 : List AOper :=
  [AOper.mk (some 12) (.mv (.tmp 7)) none [], AOper.mk (some 13) (.bin .add (.tmp 12) (.const (.int .i64 1))) none [0], AOper.mk (some 7) (.mv (.tmp 13)) none [1, 0, 1]]
def l56r6 : List AOper :=
  [AOper.mk (some 6) (.mv (.const (.bool true))) none []]
def l56 : AFn :=
  (AFn.mk 22 3 (ACode.seq (ACode.reg l56r0) (ACode.seq (ACode.seq (ACode.reg l56r1) (ACode.block 0 (ACode.loop (ACode.seq (ACode.seq (ACode.reg l56r2) (ACode.cond (.tmp 11) ACode.skip (ACode.exit 0))) (ACode.seq (ACode.block 1 (ACode.seq (ACode.reg l56r3) (ACode.cond (.tmp 21) (ACode.seq (ACode.reg l56r4) ACode.ret) ACode.skip))) (ACode.reg l56r5)))))) (ACode.seq (ACode.reg l56r6) ACode.ret))) [ARes.tmp 6])
theorem l56_eq : lowFn Try.prog 56 = some l56 := by kernel_rfl
def l60r0 : List AOper :=
  [AOper.mk (some 6) (.mv (.const (.bool false))) none []]
def l60r1 : List AOper :=
  [AOper.mk (some 7) (.mv (.tmp 1)) none [], AOper.mk (some 8) (.mv (.tmp 0)) none [], AOper.mk (some 9) (.bin .leq (.tmp 7) (.tmp 8)) none [0, 1], AOper.mk (some 10) (.mv (.tmp 9)) none [2], AOper.mk (some 11) (.mv (.tmp 0)) (some (10, true)) [3], AOper.mk (some 12) (.mv (.tmp 2)) (some (10, true)) [3], AOper.mk (some 13) (.bin .leq (.tmp 11) (.tmp 12)) (some (10, true)) [4, 5, 3], AOper.mk (some 14) (.pick (.tmp 10) (.tmp 13) (.const (.bool false))) none [3, 6], AOper.mk (some 6) (.mv (.tmp 14)) none [7, 3, 0, 1, 2, 3, 4, 5, 6, 7]]
def l60 : AFn :=
  (AFn.mk 15 3 (ACode.seq (ACode.reg l60r0) (ACode.seq (ACode.reg l60r1) ACode.ret)) [ARes.tmp 6])
theorem l60_eq : lowFn Try.prog 60 = some l60 := by kernel_rfl
def l84r0 : List AOper :=
  [AOper.mk (some 4) (.mv (.const (.bool false))) none []]
def l84r1 : List AOper :=
  [AOper.mk (some 5) (.mv (.tmp 0)) none [], AOper.mk (some 6) (.bin .leq (.const (.int .i64 0)) (.tmp 5)) none [0], AOper.mk (some 7) (.mv (.tmp 6)) none [1], AOper.mk (some 8) (.mv (.tmp 0)) (some (7, true)) [2], AOper.mk (some 9) (.mv (.tmp 1)) (some (7, true)) [2], AOper.mk (some 10) (.bin .leq (.tmp 8) (.tmp 9)) (some (7, true)) [3, 4, 2], AOper.mk (some 11) (.pick (.tmp 7) (.tmp 10) (.const (.bool false))) none [2, 5], AOper.mk (some 4) (.mv (.tmp 11)) none [6, 2, 0, 1, 2, 3, 4, 5, 6]]
def l84 : AFn :=
  (AFn.mk 12 2 (ACode.seq (ACode.reg l84r0) (ACode.seq (ACode.reg l84r1) ACode.ret)) [ARes.tmp 4])
theorem l84_eq : lowFn Try.prog 84 = some l84 := by kernel_rfl
end Go.Proofs.Ytlldjeggalkpgaa
