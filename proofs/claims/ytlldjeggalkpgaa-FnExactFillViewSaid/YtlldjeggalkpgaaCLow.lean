import Derived.Test.YtlldjeggalkpgaaCW3
import Derived.Test.YtlldjeggalkpgaaProg
import Derived.KernelRfl
set_option maxRecDepth 100000
namespace Go.Proofs.Ytlldjeggalkpgaa
open Vw Go
def l6r0 : List AOper :=
  [AOper.mk (some 4) (.box (.tmp 1)) none [], AOper.mk (some 6) (.mv (.const (.bool false))) none []]
def l6r1 : List AOper :=
  [AOper.mk (some 19) (.mv (.tmp 0)) none [], AOper.mk (some 20) (.len (.tmp 19)) none [0], AOper.mk (some 21) (.bin .gtr (.tmp 20) (.const (.int .i64 1048576))) none [1]]
def l6r2 : List AOper :=
  [AOper.mk (some 6) (.mv (.const (.bool true))) none []]
def l6r3 : List AOper :=
  [AOper.mk (some 7) (.mv (.const (.int .i64 1048576))) none []]
def l6r4 : List AOper :=
  [AOper.mk (some 22) (.load true 3 (.tmp 4)) none [], AOper.mk (some 23) (.mv (.tmp 7)) none [], AOper.mk (some 24) (.call 19 [.tmp 22, .tmp 23]) none [0, 1], AOper.mk (some 7) (.mv (.tmp 24)) none [2, 2, 0, 1, 2]]
def l6r5 : List AOper :=
  [AOper.mk (some 25) (.mv (.tmp 7)) none [], AOper.mk (some 26) (.bin .lss (.tmp 25) (.const (.int .i64 0))) none [0]]
def l6r6 : List AOper :=
  [AOper.mk (some 6) (.mv (.const (.bool true))) none []]
def l6r7a : List AOper :=
  [AOper.mk (some 28) (.mv (.tmp 0)) none [], AOper.mk (some 29) (.call 16 [.tmp 28]) none [0], AOper.mk (some 30) (.load true 3 (.tmp 4)) none [], AOper.mk (some 31) (.call 21 [.tmp 30]) none [2, 1], AOper.mk (some 32) (.mv (.tmp 2)) none [], AOper.mk (some 33) (.call 29 [.tmp 29, .tmp 31, .tmp 32]) none [1, 3, 4, 3], AOper.mk (some 27) (.mv (.tmp 33)) none [5], AOper.mk (some 34) (.extract (.tmp 27) 0) none [6], AOper.mk (some 35) (.extract (.tmp 27) 1) none [6], AOper.mk (some 8) (.mv (.tmp 34)) none [7, 5, 0, 1, 2, 3, 4, 5, 6, 7]]
def l6r7b : List AOper :=
  [AOper.mk (some 9) (.mv (.tmp 35)) none [8, 9, 0, 1, 2, 3, 4, 5, 6, 7, 8, 9]]
def l6r7 : List AOper := l6r7a ++ l6r7b
def l6r8 : List AOper :=
  [AOper.mk (some 36) (.mv (.tmp 0)) none [], AOper.mk (some 37) (.call 16 [.tmp 36]) none [0], AOper.mk (some 10) (.mv (.tmp 37)) none [1, 1, 0, 1]]
def l6r9 : List AOper :=
  [AOper.mk (some 38) (.load true 3 (.tmp 4)) none [], AOper.mk (some 39) (.call 21 [.tmp 38]) none [0], AOper.mk (some 11) (.alloc [.int .i64 0, .slice none 0 0, .slice none 0 0]) none [], AOper.mk none (.store 3 (.tmp 11) (.tmp 39)) none [2, 1, 1, 0, 1, 2]]
def l6r10 : List AOper :=
  [AOper.mk (some 41) (.mv (.tmp 10)) none [], AOper.mk (some 42) (.load true 3 (.tmp 11)) none [], AOper.mk (some 43) (.mv (.tmp 2)) none [], AOper.mk (some 44) (.call 30 [.tmp 41, .tmp 42, .tmp 43]) none [0, 1, 2], AOper.mk (some 40) (.mv (.tmp 44)) none [3], AOper.mk (some 45) (.extract (.tmp 40) 0) none [4], AOper.mk (some 46) (.extract (.tmp 40) 1) none [4], AOper.mk (some 12) (.mv (.tmp 45)) none [5, 3, 0, 1, 2, 3, 4, 5], AOper.mk (some 13) (.mv (.tmp 46)) none [6, 7, 0, 1, 2, 3, 4, 5, 6, 7]]
def l6r11 : List AOper :=
  [AOper.mk (some 47) (.mv (.tmp 12)) none [], AOper.mk (some 48) (.mv (.tmp 8)) none [], AOper.mk (some 49) (.call 18 [.tmp 47, .tmp 48]) none [0, 1], AOper.mk (some 50) (.un .not (.tmp 49)) none [2], AOper.mk (some 51) (.mv (.tmp 50)) none [3, 2], AOper.mk (some 52) (.mv (.tmp 13)) (some (51, false)) [4], AOper.mk (some 53) (.mv (.tmp 9)) (some (51, false)) [4], AOper.mk (some 54) (.binB .neq (.tmp 52) (.tmp 53)) (some (51, false)) [5, 6, 4], AOper.mk (some 55) (.pick (.tmp 51) (.const (.bool true)) (.tmp 54)) none [4, 7]]
def l6r12 : List AOper :=
  [AOper.mk (some 6) (.mv (.const (.bool false))) none []]
def l6r13 : List AOper :=
  [AOper.mk (some 56) (.mv (.tmp 10)) none [], AOper.mk (some 57) (.mv (.tmp 0)) none [], AOper.mk (some 58) (.call 16 [.tmp 57]) none [1], AOper.mk (some 59) (.call 18 [.tmp 56, .tmp 58]) none [0, 2, 2], AOper.mk (some 60) (.un .not (.tmp 59)) none [3]]
def l6r14 : List AOper :=
  [AOper.mk (some 6) (.mv (.const (.bool false))) none []]
def l6r15a : List AOper :=
  [AOper.mk (some 61) (.load true 3 (.tmp 11)) none [], AOper.mk (some 62) (.load true 3 (.tmp 4)) none [], AOper.mk (some 63) (.call 21 [.tmp 62]) none [1]]
def l6r15b : List AOper :=
  [AOper.mk (some 64) (.call 23 [.tmp 61, .tmp 63]) none [0, 2, 2], AOper.mk (some 65) (.un .not (.tmp 64)) none [3]]
def l6r15 : List AOper := l6r15a ++ l6r15b
def l6r16 : List AOper :=
  [AOper.mk (some 6) (.mv (.const (.bool false))) none []]
def l6r17 : List AOper :=
  [AOper.mk (some 14) (.mv (.const (.int .i64 1))) none []]
def l6r18 : List AOper :=
  [AOper.mk (some 66) (.mv (.tmp 10)) none [], AOper.mk (some 67) (.mv (.tmp 14)) none [], AOper.mk (some 68) (.call 24 [.tmp 66, .tmp 67]) none [0, 1], AOper.mk (some 14) (.mv (.tmp 68)) none [2, 2, 0, 1, 2]]
def l6r19 : List AOper :=
  [AOper.mk (some 69) (.load true 3 (.tmp 11)) none [], AOper.mk (some 70) (.mv (.tmp 14)) none [], AOper.mk (some 71) (.call 25 [.tmp 69, .tmp 70]) none [0, 1], AOper.mk (some 14) (.mv (.tmp 71)) none [2, 2, 0, 1, 2]]
def l6r20 : List AOper :=
  [AOper.mk (some 72) (.mv (.tmp 14)) none [], AOper.mk (some 73) (.bin .lss (.tmp 72) (.const (.int .i64 0))) none [0], AOper.mk (some 74) (.mv (.tmp 73)) none [1], AOper.mk (some 75) (.mv (.tmp 12)) (some (74, false)) [2], AOper.mk (some 76) (.mv (.tmp 8)) (some (74, false)) [2], AOper.mk (some 77) (.call 18 [.tmp 75, .tmp 76]) (some (74, false)) [3, 4, 2, 2], AOper.mk (some 78) (.un .not (.tmp 77)) (some (74, false)) [5, 2], AOper.mk (some 79) (.pick (.tmp 74) (.const (.bool true)) (.tmp 78)) none [2, 6], AOper.mk (some 80) (.mv (.tmp 79)) none [7, 5], AOper.mk (some 81) (.mv (.tmp 13)) (some (80, false)) [8], AOper.mk (some 82) (.mv (.tmp 9)) (some (80, false)) [8], AOper.mk (some 83) (.binB .neq (.tmp 81) (.tmp 82)) (some (80, false)) [9, 10, 8], AOper.mk (some 84) (.pick (.tmp 80) (.const (.bool true)) (.tmp 83)) none [8, 11]]
def l6r21 : List AOper :=
  [AOper.mk (some 6) (.mv (.const (.bool false))) none []]
def l6r22 : List AOper :=
  [AOper.mk (some 15) (.mv (.const (.int .i64 1))) none []]
def l6r23 : List AOper :=
  [AOper.mk (some 85) (.mv (.tmp 12)) none [], AOper.mk (some 86) (.mv (.tmp 15)) none [], AOper.mk (some 87) (.call 24 [.tmp 85, .tmp 86]) none [0, 1], AOper.mk (some 15) (.mv (.tmp 87)) none [2, 2, 0, 1, 2]]
def l6r24 : List AOper :=
  [AOper.mk (some 16) (.mv (.const (.int .i64 1))) none []]
def l6r25 : List AOper :=
  [AOper.mk (some 88) (.mv (.tmp 12)) none [], AOper.mk (some 89) (.mv (.tmp 16)) none [], AOper.mk (some 90) (.call 26 [.tmp 88, .tmp 89]) none [0, 1], AOper.mk (some 16) (.mv (.tmp 90)) none [2, 2, 0, 1, 2]]
def l6r26 : List AOper :=
  [AOper.mk (some 91) (.mv (.tmp 16)) none [], AOper.mk (some 92) (.bin .lss (.tmp 91) (.const (.int .i64 0))) none [0]]
def l6r27 : List AOper :=
  [AOper.mk (some 6) (.mv (.const (.bool false))) none []]
def l6r28 : List AOper :=
  [AOper.mk (some 93) (.mv (.tmp 16)) none [], AOper.mk (some 94) (.mv (.tmp 15)) none [], AOper.mk (some 95) (.bin .neq (.tmp 93) (.tmp 94)) none [0, 1]]
def l6r29 : List AOper :=
  [AOper.mk (some 6) (.mv (.const (.bool false))) none []]
def l6r30a : List AOper :=
  [AOper.mk (some 97) (.mv (.tmp 0)) none [], AOper.mk (some 98) (.call 16 [.tmp 97]) none [0], AOper.mk (some 99) (.load true 3 (.tmp 4)) none [], AOper.mk (some 100) (.call 21 [.tmp 99]) none [2, 1], AOper.mk (some 101) (.mv (.tmp 2)) none [], AOper.mk (some 102) (.call 30 [.tmp 98, .tmp 100, .tmp 101]) none [1, 3, 4, 3], AOper.mk (some 96) (.mv (.tmp 102)) none [5], AOper.mk (some 103) (.extract (.tmp 96) 0) none [6], AOper.mk (some 104) (.extract (.tmp 96) 1) none [6], AOper.mk (some 17) (.mv (.tmp 103)) none [7, 5, 0, 1, 2, 3, 4, 5, 6, 7]]
def l6r30b : List AOper :=
  [AOper.mk (some 18) (.mv (.tmp 104)) none [8, 9, 0, 1, 2, 3, 4, 5, 6, 7, 8, 9]]
def l6r30 : List AOper := l6r30a ++ l6r30b
def l6r31 : List AOper :=
  [AOper.mk (some 105) (.mv (.tmp 17)) none [], AOper.mk (some 106) (.mv (.tmp 8)) none [], AOper.mk (some 107) (.call 18 [.tmp 105, .tmp 106]) none [0, 1], AOper.mk (some 108) (.un .not (.tmp 107)) none [2], AOper.mk (some 109) (.mv (.tmp 108)) none [3, 2], AOper.mk (some 110) (.mv (.tmp 18)) (some (109, false)) [4], AOper.mk (some 111) (.mv (.tmp 9)) (some (109, false)) [4], AOper.mk (some 112) (.binB .neq (.tmp 110) (.tmp 111)) (some (109, false)) [5, 6, 4], AOper.mk (some 113) (.pick (.tmp 109) (.const (.bool true)) (.tmp 112)) none [4, 7]]
def l6r32 : List AOper :=
  [AOper.mk (some 6) (.mv (.const (.bool false))) none []]
def l6r33 : List AOper :=
  [AOper.mk (some 16) (.mv (.const (.int .i64 1))) none []]
def l6r34 : List AOper :=
  [AOper.mk (some 114) (.mv (.tmp 12)) none [], AOper.mk (some 115) (.mv (.tmp 16)) none [], AOper.mk (some 116) (.call 26 [.tmp 114, .tmp 115]) none [0, 1], AOper.mk (some 16) (.mv (.tmp 116)) none [2, 2, 0, 1, 2]]
def l6r35 : List AOper :=
  [AOper.mk (some 117) (.mv (.tmp 16)) none [], AOper.mk (some 118) (.bin .lss (.tmp 117) (.const (.int .i64 0))) none [0]]
def l6r36 : List AOper :=
  [AOper.mk (some 6) (.mv (.const (.bool false))) none []]
def l6r37 : List AOper :=
  [AOper.mk (some 119) (.mv (.tmp 16)) none [], AOper.mk (some 120) (.mv (.tmp 15)) none [], AOper.mk (some 121) (.bin .neq (.tmp 119) (.tmp 120)) none [0, 1]]
def l6r38 : List AOper :=
  [AOper.mk (some 6) (.mv (.const (.bool false))) none []]
def l6r39 : List AOper :=
  [AOper.mk (some 6) (.mv (.const (.bool true))) none []]
def l6 : AFn :=
  (AFn.mk 122 3 (ACode.seq (ACode.reg l6r0) (ACode.seq (ACode.seq (ACode.reg l6r1) (ACode.cond (.tmp 21) (ACode.seq (ACode.reg l6r2) ACode.ret) ACode.skip)) (ACode.seq (ACode.reg l6r3) (ACode.seq (ACode.reg l6r4) (ACode.seq (ACode.seq (ACode.reg l6r5) (ACode.cond (.tmp 26) (ACode.seq (ACode.reg l6r6) ACode.ret) ACode.skip)) (ACode.seq (ACode.draw l6r7) (ACode.seq (ACode.reg l6r8) (ACode.seq (ACode.reg l6r9) (ACode.seq (ACode.reg l6r10) (ACode.seq (ACode.seq (ACode.reg l6r11) (ACode.cond (.tmp 55) (ACode.seq (ACode.reg l6r12) ACode.ret) ACode.skip)) (ACode.seq (ACode.seq (ACode.reg l6r13) (ACode.cond (.tmp 60) (ACode.seq (ACode.reg l6r14) ACode.ret) ACode.skip)) (ACode.seq (ACode.seq (ACode.draw l6r15) (ACode.cond (.tmp 65) (ACode.seq (ACode.reg l6r16) ACode.ret) ACode.skip)) (ACode.seq (ACode.reg l6r17) (ACode.seq (ACode.reg l6r18) (ACode.seq (ACode.reg l6r19) (ACode.seq (ACode.seq (ACode.reg l6r20) (ACode.cond (.tmp 84) (ACode.seq (ACode.reg l6r21) ACode.ret) ACode.skip)) (ACode.seq (ACode.reg l6r22) (ACode.seq (ACode.reg l6r23) (ACode.seq (ACode.reg l6r24) (ACode.seq (ACode.reg l6r25) (ACode.seq (ACode.seq (ACode.reg l6r26) (ACode.cond (.tmp 92) (ACode.seq (ACode.reg l6r27) ACode.ret) ACode.skip)) (ACode.seq (ACode.seq (ACode.reg l6r28) (ACode.cond (.tmp 95) (ACode.seq (ACode.reg l6r29) ACode.ret) ACode.skip)) (ACode.seq (ACode.draw l6r30) (ACode.seq (ACode.seq (ACode.reg l6r31) (ACode.cond (.tmp 113) (ACode.seq (ACode.reg l6r32) ACode.ret) ACode.skip)) (ACode.seq (ACode.reg l6r33) (ACode.seq (ACode.reg l6r34) (ACode.seq (ACode.seq (ACode.reg l6r35) (ACode.cond (.tmp 118) (ACode.seq (ACode.reg l6r36) ACode.ret) ACode.skip)) (ACode.seq (ACode.seq (ACode.reg l6r37) (ACode.cond (.tmp 121) (ACode.seq (ACode.reg l6r38) ACode.ret) ACode.skip)) (ACode.seq (ACode.reg l6r39) ACode.ret))))))))))))))))))))))))))))) [ARes.tmp 6])
theorem l6_eq : lowFn Try.prog 6 = some l6 := by kernel_rfl
def l16r0 : List AOper :=
  [AOper.mk (some 2) (.mv (.const (.slice none 0 0))) none []]
def l16r1 : List AOper :=
  [AOper.mk (some 5) (.mv (.tmp 0)) none [], AOper.mk (some 6) (.len (.tmp 5)) none [0], AOper.mk (some 7) (.mkslice 1 [.int .i64 0] (.tmp 6) (.tmp 6)) none [1, 1], AOper.mk (some 3) (.mv (.tmp 7)) none [2, 0, 1, 2]]
def l16r2 : List AOper :=
  [AOper.mk (some 4) (.mv (.const (.int .i64 0))) none []]
def l16r3 : List AOper :=
  [AOper.mk (some 8) (.mv (.tmp 4)) none [], AOper.mk (some 9) (.mv (.tmp 0)) none [], AOper.mk (some 10) (.len (.tmp 9)) none [1], AOper.mk (some 11) (.bin .lss (.tmp 8) (.tmp 10)) none [0, 2]]
def l16r4 : List AOper :=
  [AOper.mk (some 14) (.mv (.tmp 3)) none [], AOper.mk (some 15) (.mv (.tmp 4)) none [], AOper.mk (some 16) (.mv (.tmp 0)) none [], AOper.mk (some 17) (.mv (.tmp 4)) none [], AOper.mk (some 18) (.idxA 1 (.tmp 16) (.tmp 17)) none [2, 3], AOper.mk (some 19) (.load false 1 (.tmp 18)) none [4], AOper.mk (some 20) (.idxA 1 (.tmp 14) (.tmp 15)) none [0, 1, 0, 1, 2, 3, 4, 5], AOper.mk none (.store 1 (.tmp 20) (.tmp 19)) none [6, 5, 0, 1, 2, 3, 4, 5]]
def l16r5 : List AOper :=
  [AOper.mk (some 12) (.mv (.tmp 4)) none [], AOper.mk (some 13) (.bin .add (.tmp 12) (.const (.int .i64 1))) none [0], AOper.mk (some 4) (.mv (.tmp 13)) none [1, 0, 1]]
def l16r6 : List AOper :=
  [AOper.mk (some 21) (.mv (.tmp 3)) none [], AOper.mk (some 2) (.mv (.tmp 21)) none [0, 0]]
def l16 : AFn :=
  (AFn.mk 22 1 (ACode.seq (ACode.reg l16r0) (ACode.seq (ACode.reg l16r1) (ACode.seq (ACode.seq (ACode.reg l16r2) (ACode.block 0 (ACode.loop (ACode.seq (ACode.seq (ACode.reg l16r3) (ACode.cond (.tmp 11) ACode.skip (ACode.exit 0))) (ACode.seq (ACode.block 1 (ACode.reg l16r4)) (ACode.reg l16r5)))))) (ACode.seq (ACode.reg l16r6) ACode.ret)))) [ARes.tmp 2])
theorem l16_eq : lowFn Try.prog 16 = some l16 := by kernel_rfl
def l17r0 : List AOper :=
  [AOper.mk (some 2) (.mv (.const (.bool false))) none []]
def l17r1 : List AOper :=
  [AOper.mk (some 3) (.mv (.tmp 0)) none [], AOper.mk (some 4) (.len (.tmp 3)) none [0], AOper.mk (some 5) (.call 48 [.tmp 4]) none [1], AOper.mk (some 6) (.mv (.tmp 5)) none [2, 2], AOper.mk (some 7) (.mv (.tmp 0)) (some (6, true)) [3], AOper.mk (some 8) (.call 49 [.tmp 7]) (some (6, true)) [4, 3, 3], AOper.mk (some 9) (.pick (.tmp 6) (.tmp 8) (.const (.bool false))) none [3, 5], AOper.mk (some 2) (.mv (.tmp 9)) none [6, 5, 0, 1, 2, 3, 4, 5, 6]]
def l17 : AFn :=
  (AFn.mk 10 1 (ACode.seq (ACode.reg l17r0) (ACode.seq (ACode.reg l17r1) ACode.ret)) [ARes.tmp 2])
theorem l17_eq : lowFn Try.prog 17 = some l17 := by kernel_rfl
def l18r0 : List AOper :=
  [AOper.mk (some 4) (.mv (.const (.bool false))) none []]
def l18r1 : List AOper :=
  [AOper.mk (some 6) (.mv (.tmp 0)) none [], AOper.mk (some 7) (.len (.tmp 6)) none [0], AOper.mk (some 8) (.mv (.tmp 1)) none [], AOper.mk (some 9) (.len (.tmp 8)) none [2], AOper.mk (some 10) (.bin .neq (.tmp 7) (.tmp 9)) none [1, 3]]
def l18r2 : List AOper :=
  [AOper.mk (some 4) (.mv (.const (.bool false))) none []]
def l18r3 : List AOper :=
  [AOper.mk (some 5) (.mv (.const (.int .i64 0))) none []]
def l18r4 : List AOper :=
  [AOper.mk (some 11) (.mv (.tmp 5)) none [], AOper.mk (some 12) (.mv (.tmp 0)) none [], AOper.mk (some 13) (.len (.tmp 12)) none [1], AOper.mk (some 14) (.bin .lss (.tmp 11) (.tmp 13)) none [0, 2]]
def l18r5a : List AOper :=
  [AOper.mk (some 17) (.mv (.tmp 0)) none [], AOper.mk (some 18) (.mv (.tmp 5)) none [], AOper.mk (some 19) (.idxA 1 (.tmp 17) (.tmp 18)) none [0, 1], AOper.mk (some 20) (.load false 1 (.tmp 19)) none [2], AOper.mk (some 21) (.mv (.tmp 1)) none [], AOper.mk (some 22) (.mv (.tmp 5)) none [], AOper.mk (some 23) (.idxA 1 (.tmp 21) (.tmp 22)) none [4, 5], AOper.mk (some 24) (.load false 1 (.tmp 23)) none [6]]
def l18r5b : List AOper :=
  [AOper.mk (some 25) (.bin .neq (.tmp 20) (.tmp 24)) none [3, 7]]
def l18r5 : List AOper := l18r5a ++ l18r5b
def l18r6 : List AOper :=
  [AOper.mk (some 4) (.mv (.const (.bool false))) none []]
def l18r7 : List AOper :=
  [AOper.mk (some 15) (.mv (.tmp 5)) none [], AOper.mk (some 16) (.bin .add (.tmp 15) (.const (.int .i64 1))) none [0], AOper.mk (some 5) (.mv (.tmp 16)) none [1, 0, 1]]
def l18r8 : List AOper :=
  [AOper.mk (some 4) (.mv (.const (.bool true))) none []]
def l18 : AFn :=
  (AFn.mk 26 2 (ACode.seq (ACode.reg l18r0) (ACode.seq (ACode.seq (ACode.reg l18r1) (ACode.cond (.tmp 10) (ACode.seq (ACode.reg l18r2) ACode.ret) ACode.skip)) (ACode.seq (ACode.seq (ACode.reg l18r3) (ACode.block 0 (ACode.loop (ACode.seq (ACode.seq (ACode.reg l18r4) (ACode.cond (.tmp 14) ACode.skip (ACode.exit 0))) (ACode.seq (ACode.block 1 (ACode.seq (ACode.draw l18r5) (ACode.cond (.tmp 25) (ACode.seq (ACode.reg l18r6) ACode.ret) ACode.skip))) (ACode.reg l18r7)))))) (ACode.seq (ACode.reg l18r8) ACode.ret)))) [ARes.tmp 4])
theorem l18_eq : lowFn Try.prog 18 = some l18 := by kernel_rfl
def l19r0 : List AOper :=
  [AOper.mk (some 2) (.box (.tmp 0)) none [], AOper.mk (some 4) (.mv (.const (.int .i64 0))) none []]
def l19r1 : List AOper :=
  [AOper.mk (some 5) (.fld 1 (.tmp 2)) none [], AOper.mk (some 6) (.load false 1 (.tmp 5)) none [0], AOper.mk (some 7) (.mv (.tmp 1)) none [], AOper.mk (some 8) (.call 50 [.tmp 6, .tmp 7]) none [1, 2], AOper.mk (some 1) (.mv (.tmp 8)) none [3, 3, 0, 1, 2, 3]]
def l19r2 : List AOper :=
  [AOper.mk (some 9) (.mv (.tmp 1)) none [], AOper.mk (some 10) (.bin .lss (.tmp 9) (.const (.int .i64 0))) none [0]]
def l19r3 : List AOper :=
  [AOper.mk (some 4) (.mv (.const (.int .i64 (-1)))) none []]
def l19r4 : List AOper :=
  [AOper.mk (some 11) (.fld 2 (.tmp 2)) none [], AOper.mk (some 12) (.load false 1 (.tmp 11)) none [0], AOper.mk (some 13) (.mv (.tmp 1)) none [], AOper.mk (some 14) (.call 50 [.tmp 12, .tmp 13]) none [1, 2], AOper.mk (some 1) (.mv (.tmp 14)) none [3, 3, 0, 1, 2, 3]]
def l19r5 : List AOper :=
  [AOper.mk (some 15) (.mv (.tmp 1)) none [], AOper.mk (some 16) (.bin .lss (.tmp 15) (.const (.int .i64 0))) none [0]]
def l19r6 : List AOper :=
  [AOper.mk (some 4) (.mv (.const (.int .i64 (-1)))) none []]
def l19r7 : List AOper :=
  [AOper.mk (some 17) (.mv (.tmp 1)) none [], AOper.mk (some 4) (.mv (.tmp 17)) none [0, 0]]
def l19 : AFn :=
  (AFn.mk 18 2 (ACode.seq (ACode.reg l19r0) (ACode.seq (ACode.reg l19r1) (ACode.seq (ACode.seq (ACode.reg l19r2) (ACode.cond (.tmp 10) (ACode.seq (ACode.reg l19r3) ACode.ret) ACode.skip)) (ACode.seq (ACode.reg l19r4) (ACode.seq (ACode.seq (ACode.reg l19r5) (ACode.cond (.tmp 16) (ACode.seq (ACode.reg l19r6) ACode.ret) ACode.skip)) (ACode.seq (ACode.reg l19r7) ACode.ret)))))) [ARes.tmp 4])
theorem l19_eq : lowFn Try.prog 19 = some l19 := by kernel_rfl
def l21r0 : List AOper :=
  [AOper.mk (some 1) (.box (.tmp 0)) none [], AOper.mk (some 2) (.alloc [.int .i64 0, .slice none 0 0, .slice none 0 0]) none []]
def l21r1 : List AOper :=
  [AOper.mk (some 3) (.alloc [.int .i64 0, .slice none 0 0, .slice none 0 0]) none []]
def l21r2 : List AOper :=
  [AOper.mk (some 4) (.fld 0 (.tmp 1)) none [], AOper.mk (some 5) (.load false 1 (.tmp 4)) none [0], AOper.mk (some 6) (.fld 0 (.tmp 3)) none [0, 1], AOper.mk none (.store 1 (.tmp 6) (.tmp 5)) none [2, 1, 0, 1]]
def l21r3 : List AOper :=
  [AOper.mk (some 7) (.fld 1 (.tmp 1)) none [], AOper.mk (some 8) (.load false 1 (.tmp 7)) none [0], AOper.mk (some 9) (.call 16 [.tmp 8]) none [1], AOper.mk (some 10) (.fld 1 (.tmp 3)) none [0, 1, 2], AOper.mk none (.store 1 (.tmp 10) (.tmp 9)) none [3, 2, 2, 0, 1, 2]]
def l21r4 : List AOper :=
  [AOper.mk (some 11) (.fld 2 (.tmp 1)) none [], AOper.mk (some 12) (.load false 1 (.tmp 11)) none [0], AOper.mk (some 13) (.call 16 [.tmp 12]) none [1], AOper.mk (some 14) (.fld 2 (.tmp 3)) none [0, 1, 2], AOper.mk none (.store 1 (.tmp 14) (.tmp 13)) none [3, 2, 2, 0, 1, 2]]
def l21r5 : List AOper :=
  [AOper.mk (some 15) (.load true 3 (.tmp 3)) none [], AOper.mk none (.store 3 (.tmp 2) (.tmp 15)) none [0, 0]]
def l21 : AFn :=
  (AFn.mk 16 1 (ACode.seq (ACode.reg l21r0) (ACode.seq (ACode.reg l21r1) (ACode.seq (ACode.reg l21r2) (ACode.seq (ACode.reg l21r3) (ACode.seq (ACode.reg l21r4) (ACode.seq (ACode.reg l21r5) ACode.ret)))))) [ARes.cell 2 true 3])
theorem l21_eq : lowFn Try.prog 21 = some l21 := by kernel_rfl
def l23r0 : List AOper :=
  [AOper.mk (some 2) (.box (.tmp 0)) none [], AOper.mk (some 3) (.box (.tmp 1)) none [], AOper.mk (some 4) (.mv (.const (.bool false))) none []]
def l23r1 : List AOper :=
  [AOper.mk (some 5) (.fld 0 (.tmp 2)) none [], AOper.mk (some 6) (.load false 1 (.tmp 5)) none [0], AOper.mk (some 7) (.fld 0 (.tmp 3)) none [], AOper.mk (some 8) (.load false 1 (.tmp 7)) none [2], AOper.mk (some 9) (.bin .neq (.tmp 6) (.tmp 8)) none [1, 3]]
def l23r2 : List AOper :=
  [AOper.mk (some 4) (.mv (.const (.bool false))) none []]
def l23r3 : List AOper :=
  [AOper.mk (some 10) (.fld 1 (.tmp 2)) none [], AOper.mk (some 11) (.load false 1 (.tmp 10)) none [0], AOper.mk (some 12) (.fld 1 (.tmp 3)) none [], AOper.mk (some 13) (.load false 1 (.tmp 12)) none [2], AOper.mk (some 14) (.call 18 [.tmp 11, .tmp 13]) none [1, 3], AOper.mk (some 15) (.un .not (.tmp 14)) none [4]]
def l23r4 : List AOper :=
  [AOper.mk (some 4) (.mv (.const (.bool false))) none []]
def l23r5 : List AOper :=
  [AOper.mk (some 16) (.fld 2 (.tmp 2)) none [], AOper.mk (some 17) (.load false 1 (.tmp 16)) none [0], AOper.mk (some 18) (.fld 2 (.tmp 3)) none [], AOper.mk (some 19) (.load false 1 (.tmp 18)) none [2], AOper.mk (some 20) (.call 18 [.tmp 17, .tmp 19]) none [1, 3], AOper.mk (some 21) (.un .not (.tmp 20)) none [4]]
def l23r6 : List AOper :=
  [AOper.mk (some 4) (.mv (.const (.bool false))) none []]
def l23r7 : List AOper :=
  [AOper.mk (some 4) (.mv (.const (.bool true))) none []]
def l23 : AFn :=
  (AFn.mk 22 2 (ACode.seq (ACode.reg l23r0) (ACode.seq (ACode.seq (ACode.reg l23r1) (ACode.cond (.tmp 9) (ACode.seq (ACode.reg l23r2) ACode.ret) ACode.skip)) (ACode.seq (ACode.seq (ACode.reg l23r3) (ACode.cond (.tmp 15) (ACode.seq (ACode.reg l23r4) ACode.ret) ACode.skip)) (ACode.seq (ACode.seq (ACode.reg l23r5) (ACode.cond (.tmp 21) (ACode.seq (ACode.reg l23r6) ACode.ret) ACode.skip)) (ACode.seq (ACode.reg l23r7) ACode.ret))))) [ARes.tmp 4])
theorem l23_eq : lowFn Try.prog 23 = some l23 := by kernel_rfl
def l24r0 : List AOper :=
  [AOper.mk (some 4) (.mv (.const (.int .i64 0))) none []]
def l24r1 : List AOper :=
  [AOper.mk (some 5) (.mv (.const (.int .i64 0))) none []]
def l24r2 : List AOper :=
  [AOper.mk (some 6) (.mv (.tmp 5)) none [], AOper.mk (some 7) (.mv (.tmp 0)) none [], AOper.mk (some 8) (.len (.tmp 7)) none [1], AOper.mk (some 9) (.bin .lss (.tmp 6) (.tmp 8)) none [0, 2]]
def l24r3 : List AOper :=
  [AOper.mk (some 12) (.mv (.tmp 0)) none [], AOper.mk (some 13) (.mv (.tmp 5)) none [], AOper.mk (some 14) (.mv (.tmp 1)) none [], AOper.mk (some 15) (.idxA 1 (.tmp 12) (.tmp 13)) none [0, 1, 0, 1, 2], AOper.mk none (.store 1 (.tmp 15) (.tmp 14)) none [3, 2, 0, 1, 2]]
def l24r4 : List AOper :=
  [AOper.mk (some 16) (.mv (.tmp 1)) none [], AOper.mk (some 17) (.bin .add (.tmp 16) (.const (.int .i64 1))) none [0], AOper.mk (some 1) (.mv (.tmp 17)) none [1, 0, 1]]
def l24r5 : List AOper :=
  [AOper.mk (some 10) (.mv (.tmp 5)) none [], AOper.mk (some 11) (.bin .add (.tmp 10) (.const (.int .i64 1))) none [0], AOper.mk (some 5) (.mv (.tmp 11)) none [1, 0, 1]]
def l24r6 : List AOper :=
  [AOper.mk (some 18) (.mv (.tmp 1)) none [], AOper.mk (some 4) (.mv (.tmp 18)) none [0, 0]]
def l24 : AFn :=
  (AFn.mk 19 2 (ACode.seq (ACode.reg l24r0) (ACode.seq (ACode.seq (ACode.reg l24r1) (ACode.block 0 (ACode.loop (ACode.seq (ACode.seq (ACode.reg l24r2) (ACode.cond (.tmp 9) ACode.skip (ACode.exit 0))) (ACode.seq (ACode.block 1 (ACode.seq (ACode.reg l24r3) (ACode.reg l24r4))) (ACode.reg l24r5)))))) (ACode.seq (ACode.reg l24r6) ACode.ret))) [ARes.tmp 4])
theorem l24_eq : lowFn Try.prog 24 = some l24 := by kernel_rfl
def l25r0 : List AOper :=
  [AOper.mk (some 2) (.box (.tmp 0)) none [], AOper.mk (some 4) (.mv (.const (.int .i64 0))) none []]
def l25r1 : List AOper :=
  [AOper.mk (some 5) (.fld 1 (.tmp 2)) none [], AOper.mk (some 6) (.load false 1 (.tmp 5)) none [0], AOper.mk (some 7) (.mv (.tmp 1)) none [], AOper.mk (some 8) (.call 24 [.tmp 6, .tmp 7]) none [1, 2], AOper.mk (some 1) (.mv (.tmp 8)) none [3, 3, 0, 1, 2, 3]]
def l25r2 : List AOper :=
  [AOper.mk (some 9) (.fld 2 (.tmp 2)) none [], AOper.mk (some 10) (.load false 1 (.tmp 9)) none [0], AOper.mk (some 11) (.mv (.tmp 1)) none [], AOper.mk (some 12) (.call 24 [.tmp 10, .tmp 11]) none [1, 2], AOper.mk (some 1) (.mv (.tmp 12)) none [3, 3, 0, 1, 2, 3]]
def l25r3 : List AOper :=
  [AOper.mk (some 13) (.mv (.tmp 1)) none [], AOper.mk (some 4) (.mv (.tmp 13)) none [0, 0]]
def l25 : AFn :=
  (AFn.mk 14 2 (ACode.seq (ACode.reg l25r0) (ACode.seq (ACode.reg l25r1) (ACode.seq (ACode.reg l25r2) (ACode.seq (ACode.reg l25r3) ACode.ret)))) [ARes.tmp 4])
theorem l25_eq : lowFn Try.prog 25 = some l25 := by kernel_rfl
def l26r0 : List AOper :=
  [AOper.mk (some 4) (.mv (.const (.int .i64 0))) none []]
def l26r1 : List AOper :=
  [AOper.mk (some 5) (.mv (.const (.int .i64 0))) none []]
def l26r2 : List AOper :=
  [AOper.mk (some 6) (.mv (.tmp 5)) none [], AOper.mk (some 7) (.mv (.tmp 0)) none [], AOper.mk (some 8) (.len (.tmp 7)) none [1], AOper.mk (some 9) (.bin .lss (.tmp 6) (.tmp 8)) none [0, 2]]
def l26r3 : List AOper :=
  [AOper.mk (some 12) (.mv (.tmp 0)) none [], AOper.mk (some 13) (.mv (.tmp 5)) none [], AOper.mk (some 14) (.idxA 1 (.tmp 12) (.tmp 13)) none [0, 1], AOper.mk (some 15) (.load false 1 (.tmp 14)) none [2], AOper.mk (some 16) (.mv (.tmp 1)) none [], AOper.mk (some 17) (.bin .neq (.tmp 15) (.tmp 16)) none [3, 4]]
def l26r4 : List AOper :=
  [AOper.mk (some 4) (.mv (.const (.int .i64 (-1)))) none []]
def l26r5 : List AOper :=
  [AOper.mk (some 18) (.mv (.tmp 1)) none [], AOper.mk (some 19) (.bin .add (.tmp 18) (.const (.int .i64 1))) none [0], AOper.mk (some 1) (.mv (.tmp 19)) none [1, 0, 1]]
def l26r6 : List AOper :=
  [AOper.mk (some 10) (.mv (.tmp 5)) none [], AOper.mk (some 11) (.bin .add (.tmp 10) (.const (.int .i64 1))) none [0], AOper.mk (some 5) (.mv (.tmp 11)) none [1, 0, 1]]
def l26r7 : List AOper :=
  [AOper.mk (some 20) (.mv (.tmp 1)) none [], AOper.mk (some 4) (.mv (.tmp 20)) none [0, 0]]
def l26 : AFn :=
  (AFn.mk 21 2 (ACode.seq (ACode.reg l26r0) (ACode.seq (ACode.seq (ACode.reg l26r1) (ACode.block 0 (ACode.loop (ACode.seq (ACode.seq (ACode.reg l26r2) (ACode.cond (.tmp 9) ACode.skip (ACode.exit 0))) (ACode.seq (ACode.block 1 (ACode.seq (ACode.seq (ACode.reg l26r3) (ACode.cond (.tmp 17) (ACode.seq (ACode.reg l26r4) ACode.ret) ACode.skip)) (ACode.reg l26r5))) (ACode.reg l26r6)))))) (ACode.seq (ACode.reg l26r7) ACode.ret))) [ARes.tmp 4])
theorem l26_eq : lowFn Try.prog 26 = some l26 := by kernel_rfl
def l29r0 : List AOper :=
  [AOper.mk (some 4) (.box (.tmp 1)) none [], AOper.mk (some 6) (.mv (.const (.slice none 0 0))) none [], AOper.mk (some 7) (.mv (.const (.bool false))) none [1]]
def l29r1 : List AOper :=
  [AOper.mk (some 11) (.mv (.tmp 0)) none [], AOper.mk (some 12) (.load true 3 (.tmp 4)) none [], AOper.mk (some 13) (.call 51 [.tmp 11, .tmp 12]) none [0, 1], AOper.mk (some 14) (.un .not (.tmp 13)) none [2], AOper.mk (some 15) (.mv (.tmp 14)) none [3, 2], AOper.mk (some 16) (.mv (.tmp 2)) (some (15, false)) [4], AOper.mk (some 17) (.call 60 [.tmp 16, .const (.int .i64 0), .const (.int .i64 255)]) (some (15, false)) [5, 4, 4], AOper.mk (some 18) (.un .not (.tmp 17)) (some (15, false)) [6, 4], AOper.mk (some 19) (.pick (.tmp 15) (.const (.bool true)) (.tmp 18)) none [4, 7]]
def l29r2 : List AOper :=
  [AOper.mk (some 6) (.mv (.const (.slice none 0 0))) none [], AOper.mk (some 7) (.mv (.const (.bool false))) none [0, 0]]
def l29r3 : List AOper :=
  [AOper.mk (some 20) (.mv (.tmp 0)) none [], AOper.mk (some 21) (.call 61 [.tmp 20]) none [0], AOper.mk (some 8) (.mv (.tmp 21)) none [1, 1, 0, 1]]
def l29r4 : List AOper :=
  [AOper.mk (some 22) (.load true 3 (.tmp 4)) none [], AOper.mk (some 23) (.call 62 [.tmp 22]) none [0], AOper.mk (some 9) (.mv (.tmp 23)) none [1, 1, 0, 1]]
def l29r5 : List AOper :=
  [AOper.mk (some 10) (.mv (.const (.int .i64 0))) none []]
def l29r6 : List AOper :=
  [AOper.mk (some 24) (.mv (.tmp 10)) none [], AOper.mk (some 25) (.mv (.tmp 9)) none [], AOper.mk (some 26) (.len (.tmp 25)) none [1], AOper.mk (some 27) (.bin .lss (.tmp 24) (.tmp 26)) none [0, 2]]
def l29r7 : List AOper :=
  [AOper.mk (some 30) (.mv (.tmp 8)) none [], AOper.mk (some 31) (.mv (.tmp 9)) none [], AOper.mk (some 32) (.mv (.tmp 10)) none [], AOper.mk (some 33) (.idxA 1 (.tmp 31) (.tmp 32)) none [1, 2], AOper.mk (some 34) (.load false 1 (.tmp 33)) none [3], AOper.mk (some 35) (.mv (.tmp 2)) none [], AOper.mk (some 36) (.idxA 1 (.tmp 30) (.tmp 34)) none [0, 4, 0, 1, 2, 3, 4, 5], AOper.mk none (.store 1 (.tmp 36) (.tmp 35)) none [6, 5, 0, 1, 2, 3, 4, 5]]
def l29r8 : List AOper :=
  [AOper.mk (some 28) (.mv (.tmp 10)) none [], AOper.mk (some 29) (.bin .add (.tmp 28) (.const (.int .i64 1))) none [0], AOper.mk (some 10) (.mv (.tmp 29)) none [1, 0, 1]]
def l29r9 : List AOper :=
  [AOper.mk (some 37) (.mv (.tmp 8)) none [], AOper.mk (some 6) (.mv (.tmp 37)) none [0, 0], AOper.mk (some 7) (.mv (.const (.bool true))) none [1, 0, 1]]
def l29 : AFn :=
  (AFn.mk 38 3 (ACode.seq (ACode.reg l29r0) (ACode.seq (ACode.seq (ACode.reg l29r1) (ACode.cond (.tmp 19) (ACode.seq (ACode.reg l29r2) ACode.ret) ACode.skip)) (ACode.seq (ACode.reg l29r3) (ACode.seq (ACode.reg l29r4) (ACode.seq (ACode.seq (ACode.reg l29r5) (ACode.block 0 (ACode.loop (ACode.seq (ACode.seq (ACode.reg l29r6) (ACode.cond (.tmp 27) ACode.skip (ACode.exit 0))) (ACode.seq (ACode.block 1 (ACode.reg l29r7)) (ACode.reg l29r8)))))) (ACode.seq (ACode.reg l29r9) ACode.ret)))))) [ARes.tmp 6, ARes.tmp 7])
theorem l29_eq : lowFn Try.prog 29 = some l29 := by kernel_rfl
def l30r0 : List AOper :=
  [AOper.mk (some 4) (.box (.tmp 1)) none [], AOper.mk (some 6) (.mv (.const (.slice none 0 0))) none [], AOper.mk (some 7) (.mv (.const (.bool false))) none [1]]
def l30r1 : List AOper :=
  [AOper.mk (some 8) (.mv (.tmp 0)) none [], AOper.mk (some 9) (.load true 3 (.tmp 4)) none [], AOper.mk (some 10) (.call 53 [.tmp 8, .tmp 9]) none [0, 1], AOper.mk (some 11) (.un .not (.tmp 10)) none [2], AOper.mk (some 12) (.mv (.tmp 11)) none [3, 2], AOper.mk (some 13) (.mv (.tmp 2)) (some (12, false)) [4], AOper.mk (some 14) (.bslice 1 [.int .i64 0] [(0, .tmp 13)] 1) (some (12, false)) [5, 4], AOper.mk (some 15) (.call 49 [.tmp 14]) (some (12, false)) [6, 4, 4], AOper.mk (some 16) (.un .not (.tmp 15)) (some (12, false)) [7, 4], AOper.mk (some 17) (.pick (.tmp 12) (.const (.bool true)) (.tmp 16)) none [4, 8]]
def l30r2 : List AOper :=
  [AOper.mk (some 6) (.mv (.const (.slice none 0 0))) none [], AOper.mk (some 7) (.mv (.const (.bool false))) none [0, 0]]
def l30r3a : List AOper :=
  [AOper.mk (some 18) (.mv (.tmp 0)) none [], AOper.mk (some 19) (.load true 3 (.tmp 4)) none [], AOper.mk (some 20) (.mv (.tmp 2)) none [], AOper.mk (some 21) (.bslice 1 [.int .i64 0] [(0, .tmp 20)] 1) none [2], AOper.mk (some 22) (.load true 3 (.tmp 4)) none [], AOper.mk (some 23) (.call 64 [.tmp 22]) none [4], AOper.mk (some 24) (.call 63 [.tmp 21, .tmp 23]) none [3, 5, 5]]
def l30r3b : List AOper :=
  [AOper.mk (some 25) (.call 59 [.tmp 18, .tmp 19, .tmp 24]) none [0, 1, 6, 6], AOper.mk (some 6) (.mv (.tmp 25)) none [7, 7, 0, 1, 2, 3, 4, 5, 6, 7], AOper.mk (some 7) (.mv (.const (.bool true))) none [8, 0, 1, 2, 3, 4, 5, 6, 7, 8]]
def l30r3 : List AOper := l30r3a ++ l30r3b
def l30 : AFn :=
  (AFn.mk 26 3 (ACode.seq (ACode.reg l30r0) (ACode.seq (ACode.seq (ACode.reg l30r1) (ACode.cond (.tmp 17) (ACode.seq (ACode.reg l30r2) ACode.ret) ACode.skip)) (ACode.seq (ACode.draw l30r3) ACode.ret))) [ARes.tmp 6, ARes.tmp 7])
theorem l30_eq : lowFn Try.prog 30 = some l30 := by kernel_rfl
def l47r0 : List AOper :=
  [AOper.mk (some 2) (.mv (.const (.bool false))) none []]
def l47r1 : List AOper :=
  [AOper.mk (some 3) (.mv (.tmp 0)) none [], AOper.mk (some 4) (.len (.tmp 3)) none [0], AOper.mk (some 5) (.bin .leq (.tmp 4) (.const (.int .i64 60))) none [1], AOper.mk (some 6) (.mv (.tmp 5)) none [2], AOper.mk (some 7) (.mv (.tmp 0)) (some (6, true)) [3], AOper.mk (some 8) (.call 56 [.tmp 7, .const (.int .i64 0), .const (.int .i64 255)]) (some (6, true)) [4, 3, 3], AOper.mk (some 9) (.pick (.tmp 6) (.tmp 8) (.const (.bool false))) none [3, 5], AOper.mk (some 2) (.mv (.tmp 9)) none [6, 5, 0, 1, 2, 3, 4, 5, 6]]
def l47 : AFn :=
  (AFn.mk 10 1 (ACode.seq (ACode.reg l47r0) (ACode.seq (ACode.reg l47r1) ACode.ret)) [ARes.tmp 2])
theorem l47_eq : lowFn Try.prog 47 = some l47 := by kernel_rfl
def l48r0 : List AOper :=
  [AOper.mk (some 2) (.mv (.const (.bool false))) none []]
def l48r1 : List AOper :=
  [AOper.mk (some 3) (.mv (.tmp 0)) none [], AOper.mk (some 4) (.bin .leq (.const (.int .i64 0)) (.tmp 3)) none [0], AOper.mk (some 5) (.mv (.tmp 4)) none [1], AOper.mk (some 6) (.mv (.tmp 0)) (some (5, true)) [2], AOper.mk (some 7) (.bin .leq (.tmp 6) (.const (.int .i64 60))) (some (5, true)) [3, 2], AOper.mk (some 8) (.pick (.tmp 5) (.tmp 7) (.const (.bool false))) none [2, 4], AOper.mk (some 2) (.mv (.tmp 8)) none [5, 2, 0, 1, 2, 3, 4, 5]]
def l48 : AFn :=
  (AFn.mk 9 1 (ACode.seq (ACode.reg l48r0) (ACode.seq (ACode.reg l48r1) ACode.ret)) [ARes.tmp 2])
theorem l48_eq : lowFn Try.prog 48 = some l48 := by kernel_rfl
def l49r0 : List AOper :=
  [AOper.mk (some 2) (.mv (.const (.bool false))) none []]
def l49r1 : List AOper :=
  [AOper.mk (some 5) (.mv (.tmp 0)) none [], AOper.mk (some 6) (.len (.tmp 5)) none [0], AOper.mk (some 7) (.mv (.const (.int .i64 0))) none []]
def l49r2 : List AOper :=
  [AOper.mk (some 8) (.bin .lss (.tmp 7) (.tmp 6)) none []]
def l49r3 : List AOper :=
  [AOper.mk (some 9) (.idxA 1 (.tmp 5) (.tmp 7)) none [], AOper.mk (some 10) (.load false 1 (.tmp 9)) none [0], AOper.mk (some 4) (.mv (.tmp 10)) none [1, 0, 1]]
def l49r4 : List AOper :=
  [AOper.mk (some 11) (.mv (.tmp 4)) none [], AOper.mk (some 12) (.call 84 [.tmp 11, .const (.int .i64 255)]) none [0], AOper.mk (some 13) (.un .not (.tmp 12)) none [1]]
def l49r5 : List AOper :=
  [AOper.mk (some 2) (.mv (.const (.bool false))) none []]
def l49r6 : List AOper :=
  [AOper.mk (some 14) (.bin .add (.tmp 7) (.const (.int .i64 1))) none [], AOper.mk (some 7) (.mv (.tmp 14)) none [0]]
def l49r7 : List AOper :=
  [AOper.mk (some 2) (.mv (.const (.bool true))) none []]
def l49 : AFn :=
  (AFn.mk 15 1 (ACode.seq (ACode.reg l49r0) (ACode.seq (ACode.seq (ACode.reg l49r1) (ACode.block 0 (ACode.loop (ACode.seq (ACode.reg l49r2) (ACode.seq (ACode.cond (.tmp 8) ACode.skip (ACode.exit 0)) (ACode.seq (ACode.block 1 (ACode.seq (ACode.reg l49r3) (ACode.seq (ACode.reg l49r4) (ACode.cond (.tmp 13) (ACode.seq (ACode.reg l49r5) ACode.ret) ACode.skip)))) (ACode.reg l49r6))))))) (ACode.seq (ACode.reg l49r7) ACode.ret))) [ARes.tmp 2])
theorem l49_eq : lowFn Try.prog 49 = some l49 := by kernel_rfl
def l50r0 : List AOper :=
  [AOper.mk (some 4) (.mv (.const (.int .i64 0))) none []]
def l50r1 : List AOper :=
  [AOper.mk (some 5) (.mv (.tmp 1)) none [], AOper.mk (some 6) (.mv (.tmp 0)) none [], AOper.mk (some 7) (.len (.tmp 6)) none [1], AOper.mk (some 8) (.bin .sub (.tmp 5) (.tmp 7)) none [0, 2], AOper.mk (some 1) (.mv (.tmp 8)) none [3, 0, 1, 2, 3]]
def l50r2 : List AOper :=
  [AOper.mk (some 9) (.mv (.tmp 1)) none [], AOper.mk (some 10) (.bin .lss (.tmp 9) (.const (.int .i64 0))) none [0]]
def l50r3 : List AOper :=
  [AOper.mk (some 4) (.mv (.const (.int .i64 (-1)))) none []]
def l50r4 : List AOper :=
  [AOper.mk (some 11) (.mv (.tmp 1)) none [], AOper.mk (some 4) (.mv (.tmp 11)) none [0, 0]]
def l50 : AFn :=
  (AFn.mk 12 2 (ACode.seq (ACode.reg l50r0) (ACode.seq (ACode.reg l50r1) (ACode.seq (ACode.seq (ACode.reg l50r2) (ACode.cond (.tmp 10) (ACode.seq (ACode.reg l50r3) ACode.ret) ACode.skip)) (ACode.seq (ACode.reg l50r4) ACode.ret)))) [ARes.tmp 4])
theorem l50_eq : lowFn Try.prog 50 = some l50 := by kernel_rfl
def l51r0 : List AOper :=
  [AOper.mk (some 3) (.box (.tmp 1)) none [], AOper.mk (some 4) (.mv (.const (.bool false))) none []]
def l51r1 : List AOper :=
  [AOper.mk (some 5) (.mv (.tmp 0)) none [], AOper.mk (some 6) (.call 47 [.tmp 5]) none [0], AOper.mk (some 7) (.mv (.tmp 6)) none [1, 1], AOper.mk (some 8) (.load true 3 (.tmp 3)) (some (7, true)) [2], AOper.mk (some 9) (.call 73 [.tmp 8]) (some (7, true)) [3, 2, 2], AOper.mk (some 10) (.pick (.tmp 7) (.tmp 9) (.const (.bool false))) none [2, 4], AOper.mk (some 11) (.mv (.tmp 10)) none [5, 4], AOper.mk (some 12) (.load true 3 (.tmp 3)) (some (11, true)) [6], AOper.mk (some 13) (.mv (.tmp 0)) (some (11, true)) [6], AOper.mk (some 14) (.len (.tmp 13)) (some (11, true)) [8, 6], AOper.mk (some 15) (.call 85 [.tmp 12, .tmp 14]) (some (11, true)) [7, 9, 6, 6], AOper.mk (some 16) (.pick (.tmp 11) (.tmp 15) (.const (.bool false))) none [6, 10], AOper.mk (some 4) (.mv (.tmp 16)) none [11, 10, 0, 1, 2, 3, 4, 5, 6, 7, 8, 9, 10, 11]]
def l51 : AFn :=
  (AFn.mk 17 2 (ACode.seq (ACode.reg l51r0) (ACode.seq (ACode.reg l51r1) ACode.ret)) [ARes.tmp 4])
theorem l51_eq : lowFn Try.prog 51 = some l51 := by kernel_rfl
def l53r0 : List AOper :=
  [AOper.mk (some 3) (.box (.tmp 1)) none [], AOper.mk (some 4) (.mv (.const (.bool false))) none []]
def l53r1 : List AOper :=
  [AOper.mk (some 5) (.mv (.tmp 0)) none [], AOper.mk (some 6) (.call 17 [.tmp 5]) none [0], AOper.mk (some 7) (.mv (.tmp 6)) none [1, 1], AOper.mk (some 8) (.load true 3 (.tmp 3)) (some (7, true)) [2], AOper.mk (some 9) (.mv (.tmp 0)) (some (7, true)) [2], AOper.mk (some 10) (.len (.tmp 9)) (some (7, true)) [4, 2], AOper.mk (some 11) (.call 86 [.tmp 8, .tmp 10]) (some (7, true)) [3, 5, 2, 2], AOper.mk (some 12) (.pick (.tmp 7) (.tmp 11) (.const (.bool false))) none [2, 6], AOper.mk (some 4) (.mv (.tmp 12)) none [7, 6, 0, 1, 2, 3, 4, 5, 6, 7]]
def l53 : AFn :=
  (AFn.mk 13 2 (ACode.seq (ACode.reg l53r0) (ACode.seq (ACode.reg l53r1) ACode.ret)) [ARes.tmp 4])
theorem l53_eq : lowFn Try.prog 53 = some l53 := by kernel_rfl
def l55r0 : List AOper :=
  [AOper.mk (some 2) (.mv (.const (.int .i64 0))) none []]
def l55r1 : List AOper :=
  [AOper.mk (some 3) (.mv (.const (.int .i64 1))) none []]
def l55r2 : List AOper :=
  [AOper.mk (some 4) (.mv (.const (.int .i64 0))) none []]
def l55r3 : List AOper :=
  [AOper.mk (some 5) (.mv (.tmp 4)) none [], AOper.mk (some 6) (.mv (.tmp 0)) none [], AOper.mk (some 7) (.len (.tmp 6)) none [1], AOper.mk (some 8) (.bin .lss (.tmp 5) (.tmp 7)) none [0, 2]]
def l55r4 : List AOper :=
  [AOper.mk (some 11) (.mv (.tmp 3)) none [], AOper.mk (some 12) (.mv (.tmp 0)) none [], AOper.mk (some 13) (.mv (.tmp 4)) none [], AOper.mk (some 14) (.idxA 1 (.tmp 12) (.tmp 13)) none [1, 2], AOper.mk (some 15) (.load false 1 (.tmp 14)) none [3], AOper.mk (some 16) (.bin .mul (.tmp 11) (.tmp 15)) none [0, 4], AOper.mk (some 3) (.mv (.tmp 16)) none [5, 0, 1, 2, 3, 4, 5]]
def l55r5 : List AOper :=
  [AOper.mk (some 9) (.mv (.tmp 4)) none [], AOper.mk (some 10) (.bin .add (.tmp 9) (.const (.int .i64 1))) none [0], AOper.mk (some 4) (.mv (.tmp 10)) none [1, 0, 1]]
def l55r6 : List AOper :=
  [AOper.mk (some 17) (.mv (.tmp 3)) none [], AOper.mk (some 2) (.mv (.tmp 17)) none [0, 0]]
def l55 : AFn :=
  (AFn.mk 18 1 (ACode.seq (ACode.reg l55r0) (ACode.seq (ACode.reg l55r1) (ACode.seq (ACode.seq (ACode.reg l55r2) (ACode.block 0 (ACode.loop (ACode.seq (ACode.seq (ACode.reg l55r3) (ACode.cond (.tmp 8) ACode.skip (ACode.exit 0))) (ACode.seq (ACode.block 1 (ACode.reg l55r4)) (ACode.reg l55r5)))))) (ACode.seq (ACode.reg l55r6) ACode.ret)))) [ARes.tmp 2])
theorem l55_eq : lowFn Try.prog 55 = some l55 := by kernel_rfl
def l56r0 : List AOper :=
  [AOper.mk (some 6) (.mv (.const (.bool false))) none []]
def l56r1 : List AOper :=
  [AOper.mk (some 7) (.mv (.const (.int .i64 0))) none []]
def l56r2 : List AOper :=
  [AOper.mk (some 8) (.mv (.tmp 7)) none [], AOper.mk (some 9) (.mv (.tmp 0)) none [], AOper.mk (some 10) (.len (.tmp 9)) none [1], AOper.mk (some 11) (.bin .lss (.tmp 8) (.tmp 10)) none [0, 2]]
def l56r3 : List AOper :=
  [AOper.mk (some 14) (.mv (.tmp 0)) none [], AOper.mk (some 15) (.mv (.tmp 7)) none [], AOper.mk (some 16) (.idxA 1 (.tmp 14) (.tmp 15)) none [0, 1], AOper.mk (some 17) (.load false 1 (.tmp 16)) none [2], AOper.mk (some 18) (.mv (.tmp 1)) none [], AOper.mk (some 19) (.mv (.tmp 2)) none [], AOper.mk (some 20) (.call 60 [.tmp 17, .tmp 18, .tmp 19]) none [3, 4, 5], AOper.mk (some 21) (.un .not (.tmp 20)) none [6]]
def l56r4 : List AOper :=
  [AOper.mk (some 6) (.mv (.const (.bool false))) none []]
def l56r5 : List AOper :=
  [AOper.mk (some 12) (.mv (.tmp 7)) none [], AOper.mk (some 13) (.bin .add (.tmp 12) (.const (.int .i64 1))) none [0], AOper.mk (some 7) (.mv (.tmp 13)) none [1, 0, 1]]
def l56r6 : List AOper :=
  [AOper.mk (some 6) (.mv (.const (.bool true))) none []]
def l56 : AFn :=
  (AFn.mk 22 3 (ACode.seq (ACode.reg l56r0) (ACode.seq (ACode.seq (ACode.reg l56r1) (ACode.block 0 (ACode.loop (ACode.seq (ACode.seq (ACode.reg l56r2) (ACode.cond (.tmp 11) ACode.skip (ACode.exit 0))) (ACode.seq (ACode.block 1 (ACode.seq (ACode.reg l56r3) (ACode.cond (.tmp 21) (ACode.seq (ACode.reg l56r4) ACode.ret) ACode.skip))) (ACode.reg l56r5)))))) (ACode.seq (ACode.reg l56r6) ACode.ret))) [ARes.tmp 6])
theorem l56_eq : lowFn Try.prog 56 = some l56 := by kernel_rfl
def l59r0 : List AOper :=
  [AOper.mk (some 4) (.box (.tmp 1)) none [], AOper.mk (some 6) (.mv (.const (.slice none 0 0))) none []]
def l59r1 : List AOper :=
  [AOper.mk (some 11) (.mv (.tmp 0)) none [], AOper.mk (some 12) (.call 81 [.tmp 11]) none [0], AOper.mk (some 7) (.mv (.tmp 12)) none [1, 1, 0, 1]]
def l59r2a : List AOper :=
  [AOper.mk (some 13) (.load true 3 (.tmp 4)) none [], AOper.mk (some 14) (.call 70 [.tmp 13]) none [0], AOper.mk (some 15) (.load true 3 (.tmp 4)) none []]
def l59r2b : List AOper :=
  [AOper.mk (some 16) (.call 87 [.tmp 15]) none [2, 1], AOper.mk (some 8) (.mv (.tmp 14)) none [1, 3, 0, 1], AOper.mk (some 9) (.mv (.tmp 16)) none [3, 4, 0, 1, 2, 3, 4]]
def l59r2 : List AOper := l59r2a ++ l59r2b
def l59r3 : List AOper :=
  [AOper.mk (some 10) (.mv (.const (.int .i64 0))) none []]
def l59r4 : List AOper :=
  [AOper.mk (some 17) (.mv (.tmp 10)) none [], AOper.mk (some 18) (.mv (.tmp 8)) none [], AOper.mk (some 19) (.len (.tmp 18)) none [1], AOper.mk (some 20) (.bin .lss (.tmp 17) (.tmp 19)) none [0, 2]]
def l59r5 : List AOper :=
  [AOper.mk (some 24) (.mv (.tmp 7)) none [], AOper.mk (some 25) (.mv (.tmp 8)) none [], AOper.mk (some 26) (.mv (.tmp 10)) none [], AOper.mk (some 27) (.idxA 1 (.tmp 25) (.tmp 26)) none [1, 2], AOper.mk (some 28) (.load false 1 (.tmp 27)) none [3], AOper.mk (some 29) (.mv (.tmp 9)) none [], AOper.mk (some 30) (.call 88 [.tmp 24, .tmp 28, .tmp 29]) none [0, 4, 5], AOper.mk (some 31) (.mv (.tmp 2)) none [], AOper.mk (some 32) (.mv (.tmp 10)) none [], AOper.mk (some 33) (.mv (.tmp 9)) none [], AOper.mk (some 34) (.call 88 [.tmp 31, .tmp 32, .tmp 33]) none [7, 8, 9, 6], AOper.mk (some 35) (.cpy 1 (.tmp 30) (.tmp 34)) none [6, 10, 10]]
def l59r6 : List AOper :=
  [AOper.mk (some 21) (.mv (.tmp 10)) none [], AOper.mk (some 22) (.mv (.tmp 9)) none [], AOper.mk (some 23) (.bin .add (.tmp 21) (.tmp 22)) none [0, 1], AOper.mk (some 10) (.mv (.tmp 23)) none [2, 0, 1, 2]]
def l59r7 : List AOper :=
  [AOper.mk (some 36) (.mv (.tmp 7)) none [], AOper.mk (some 6) (.mv (.tmp 36)) none [0, 0]]
def l59 : AFn :=
  (AFn.mk 37 3 (ACode.seq (ACode.reg l59r0) (ACode.seq (ACode.reg l59r1) (ACode.seq (ACode.draw l59r2) (ACode.seq (ACode.seq (ACode.reg l59r3) (ACode.block 0 (ACode.loop (ACode.seq (ACode.seq (ACode.reg l59r4) (ACode.cond (.tmp 20) ACode.skip (ACode.exit 0))) (ACode.seq (ACode.block 1 (ACode.reg l59r5)) (ACode.reg l59r6)))))) (ACode.seq (ACode.reg l59r7) ACode.ret))))) [ARes.tmp 6])
theorem l59_eq : lowFn Try.prog 59 = some l59 := by kernel_rfl
def l60r0 : List AOper :=
  [AOper.mk (some 6) (.mv (.const (.bool false))) none []]
def l60r1 : List AOper :=
  [AOper.mk (some 7) (.mv (.tmp 1)) none [], AOper.mk (some 8) (.mv (.tmp 0)) none [], AOper.mk (some 9) (.bin .leq (.tmp 7) (.tmp 8)) none [0, 1], AOper.mk (some 10) (.mv (.tmp 9)) none [2], AOper.mk (some 11) (.mv (.tmp 0)) (some (10, true)) [3], AOper.mk (some 12) (.mv (.tmp 2)) (some (10, true)) [3], AOper.mk (some 13) (.bin .leq (.tmp 11) (.tmp 12)) (some (10, true)) [4, 5, 3], AOper.mk (some 14) (.pick (.tmp 10) (.tmp 13) (.const (.bool false))) none [3, 6], AOper.mk (some 6) (.mv (.tmp 14)) none [7, 3, 0, 1, 2, 3, 4, 5, 6, 7]]
def l60 : AFn :=
  (AFn.mk 15 3 (ACode.seq (ACode.reg l60r0) (ACode.seq (ACode.reg l60r1) ACode.ret)) [ARes.tmp 6])
theorem l60_eq : lowFn Try.prog 60 = some l60 := by kernel_rfl
def l61r0 : List AOper :=
  [AOper.mk (some 2) (.mv (.const (.slice none 0 0))) none []]
def l61r1 : List AOper :=
  [AOper.mk (some 3) (.bslice 1 [.int .i64 0] [] 0) none [], AOper.mk (some 4) (.mv (.tmp 0)) none [], AOper.mk (some 5) (.append 1 (.tmp 3) (.tmp 4)) none [0, 1], AOper.mk (some 2) (.mv (.tmp 5)) none [2, 2, 0, 1, 2]]
def l61 : AFn :=
  (AFn.mk 6 1 (ACode.seq (ACode.reg l61r0) (ACode.seq (ACode.reg l61r1) ACode.ret)) [ARes.tmp 2])
theorem l61_eq : lowFn Try.prog 61 = some l61 := by kernel_rfl
def l62r0 : List AOper :=
  [AOper.mk (some 1) (.box (.tmp 0)) none [], AOper.mk (some 2) (.mv (.const (.slice none 0 0))) none []]
def l62r1 : List AOper :=
  [AOper.mk (some 5) (.bslice 1 [.int .i64 0] [] 0) none [], AOper.mk (some 3) (.mv (.tmp 5)) none [0, 0]]
def l62r2 : List AOper :=
  [AOper.mk (some 4) (.mv (.const (.int .i64 0))) none []]
def l62r3 : List AOper :=
  [AOper.mk (some 6) (.mv (.tmp 4)) none [], AOper.mk (some 7) (.fld 1 (.tmp 1)) none [], AOper.mk (some 8) (.load false 1 (.tmp 7)) none [1], AOper.mk (some 9) (.call 55 [.tmp 8]) none [2], AOper.mk (some 10) (.bin .lss (.tmp 6) (.tmp 9)) none [0, 3]]
def l62r4a : List AOper :=
  [AOper.mk (some 13) (.mv (.tmp 3)) none [], AOper.mk (some 14) (.load true 3 (.tmp 1)) none [], AOper.mk (some 15) (.fld 1 (.tmp 1)) none [], AOper.mk (some 16) (.load false 1 (.tmp 15)) none [2], AOper.mk (some 17) (.mv (.tmp 4)) none [], AOper.mk (some 18) (.call 90 [.tmp 16, .tmp 17]) none [3, 4], AOper.mk (some 19) (.call 89 [.tmp 14, .tmp 18]) none [1, 5, 5], AOper.mk (some 20) (.bslice 1 [.int .i64 0] [(0, .tmp 19)] 1) none [6]]
def l62r4b : List AOper :=
  [AOper.mk (some 21) (.append 1 (.tmp 13) (.tmp 20)) none [0, 7, 6], AOper.mk (some 3) (.mv (.tmp 21)) none [8, 8, 0, 1, 2, 3, 4, 5, 6, 7, 8]]
def l62r4 : List AOper := l62r4a ++ l62r4b
def l62r5 : List AOper :=
  [AOper.mk (some 11) (.mv (.tmp 4)) none [], AOper.mk (some 12) (.bin .add (.tmp 11) (.const (.int .i64 1))) none [0], AOper.mk (some 4) (.mv (.tmp 12)) none [1, 0, 1]]
def l62r6 : List AOper :=
  [AOper.mk (some 22) (.mv (.tmp 3)) none [], AOper.mk (some 2) (.mv (.tmp 22)) none [0, 0]]
def l62 : AFn :=
  (AFn.mk 23 1 (ACode.seq (ACode.reg l62r0) (ACode.seq (ACode.reg l62r1) (ACode.seq (ACode.seq (ACode.reg l62r2) (ACode.block 0 (ACode.loop (ACode.seq (ACode.seq (ACode.reg l62r3) (ACode.cond (.tmp 10) ACode.skip (ACode.exit 0))) (ACode.seq (ACode.block 1 (ACode.draw l62r4)) (ACode.reg l62r5)))))) (ACode.seq (ACode.reg l62r6) ACode.ret)))) [ARes.tmp 2])
theorem l62_eq : lowFn Try.prog 62 = some l62 := by kernel_rfl
def l63r0 : List AOper :=
  [AOper.mk (some 4) (.mv (.const (.slice none 0 0))) none []]
def l63r1 : List AOper :=
  [AOper.mk (some 9) (.mv (.tmp 1)) none [], AOper.mk (some 10) (.bin .lss (.tmp 9) (.const (.int .i64 0))) none [0]]
def l63r2 : List AOper :=
  [AOper.mk (some 11) (.raw (Op.makeInterface 9 (.const (.string (ByteArray.mk (Array.mk [(99 : UInt8), (97 : UInt8), (110 : UInt8), (110 : UInt8), (111 : UInt8), (116 : UInt8), (32 : UInt8), (98 : UInt8), (101 : UInt8), (32 : UInt8), (110 : UInt8), (101 : UInt8), (103 : UInt8), (97 : UInt8), (116 : UInt8), (105 : UInt8), (118 : UInt8), (101 : UInt8)])))))) none [], AOper.mk none (.raw (Op.panic (.tmp 11))) none [0]]
def l63r3 : List AOper :=
  [AOper.mk (some 13) (.mv (.tmp 0)) none [], AOper.mk (some 14) (.len (.tmp 13)) none [0], AOper.mk (some 15) (.conv .u64 (.tmp 14)) none [1], AOper.mk (some 16) (.mv (.tmp 1)) none [], AOper.mk (some 17) (.conv .u64 (.tmp 16)) none [3], AOper.mk (some 18) (.call 91 [.tmp 15, .tmp 17]) none [2, 4], AOper.mk (some 12) (.mv (.tmp 18)) none [5], AOper.mk (some 19) (.extract (.tmp 12) 0) none [6], AOper.mk (some 20) (.extract (.tmp 12) 1) none [6], AOper.mk (some 5) (.mv (.tmp 19)) none [7, 5, 0, 1, 2, 3, 4, 5, 6, 7], AOper.mk (some 6) (.mv (.tmp 20)) none [8, 9, 0, 1, 2, 3, 4, 5, 6, 7, 8, 9]]
def l63r4 : List AOper :=
  [AOper.mk (some 21) (.mv (.tmp 5)) none [], AOper.mk (some 22) (.bin .gtr (.tmp 21) (.const (.int .u64 0))) none [0], AOper.mk (some 23) (.mv (.tmp 22)) none [1], AOper.mk (some 24) (.mv (.tmp 6)) (some (23, false)) [2], AOper.mk (some 25) (.bin .gtr (.tmp 24) (.const (.int .u64 9223372036854775807))) (some (23, false)) [3, 2], AOper.mk (some 26) (.pick (.tmp 23) (.const (.bool true)) (.tmp 25)) none [2, 4]]
def l63r5 : List AOper :=
  [AOper.mk (some 27) (.raw (Op.makeInterface 9 (.const (.string (ByteArray.mk (Array.mk [(116 : UInt8), (104 : UInt8), (101 : UInt8), (32 : UInt8), (114 : UInt8), (101 : UInt8), (115 : UInt8), (117 : UInt8), (108 : UInt8), (116 : UInt8), (32 : UInt8), (111 : UInt8), (102 : UInt8), (32 : UInt8), (40 : UInt8), (108 : UInt8), (101 : UInt8), (110 : UInt8), (40 : UInt8), (120 : UInt8), (41 : UInt8), (32 : UInt8), (42 : UInt8), (32 : UInt8), (99 : UInt8), (111 : UInt8), (117 : UInt8), (110 : UInt8), (116 : UInt8), (41 : UInt8), (32 : UInt8), (111 : UInt8), (118 : UInt8), (101 : UInt8), (114 : UInt8), (102 : UInt8), (108 : UInt8), (111 : UInt8), (119 : UInt8), (115 : UInt8)])))))) none [], AOper.mk none (.raw (Op.panic (.tmp 27))) none [0]]
def l63r6 : List AOper :=
  [AOper.mk (some 28) (.mv (.tmp 6)) none [], AOper.mk (some 29) (.conv .i64 (.tmp 28)) none [0], AOper.mk (some 30) (.mkslice 1 [.int .i64 0] (.tmp 29) (.tmp 29)) none [1, 1], AOper.mk (some 7) (.mv (.tmp 30)) none [2, 0, 1, 2]]
def l63r7 : List AOper :=
  [AOper.mk (some 31) (.mv (.tmp 7)) none [], AOper.mk (some 32) (.mv (.tmp 0)) none [], AOper.mk (some 33) (.cpy 1 (.tmp 31) (.tmp 32)) none [0, 1], AOper.mk (some 8) (.mv (.tmp 33)) none [2, 2, 0, 1, 2]]
def l63r8 : List AOper :=
  [AOper.mk (some 34) (.mv (.tmp 8)) none [], AOper.mk (some 35) (.mv (.tmp 7)) none [], AOper.mk (some 36) (.len (.tmp 35)) none [1], AOper.mk (some 37) (.bin .lss (.tmp 34) (.tmp 36)) none [0, 2]]
def l63r9a : List AOper :=
  [AOper.mk (some 38) (.mv (.tmp 8)) none [], AOper.mk (some 39) (.mv (.tmp 7)) none [], AOper.mk (some 40) (.mv (.tmp 8)) none [], AOper.mk (some 41) (.slice 1 (.tmp 39) (some (.tmp 40)) none) none [1, 2], AOper.mk (some 42) (.mv (.tmp 7)) none [], AOper.mk (some 43) (.mv (.tmp 8)) none [], AOper.mk (some 44) (.slice 1 (.tmp 42) none (some (.tmp 43))) none [4, 5], AOper.mk (some 45) (.cpy 1 (.tmp 41) (.tmp 44)) none [3, 6]]
def l63r9b : List AOper :=
  [AOper.mk (some 46) (.bin .add (.tmp 38) (.tmp 45)) none [0, 7], AOper.mk (some 8) (.mv (.tmp 46)) none [8, 7, 0, 1, 2, 3, 4, 5, 6, 7, 8]]
def l63r9 : List AOper := l63r9a ++ l63r9b
def l63r10 : List AOper :=
  [AOper.mk (some 47) (.mv (.tmp 7)) none [], AOper.mk (some 4) (.mv (.tmp 47)) none [0, 0]]
def l63 : AFn :=
  (AFn.mk 48 2 (ACode.seq (ACode.reg l63r0) (ACode.seq (ACode.seq (ACode.reg l63r1) (ACode.cond (.tmp 10) (ACode.reg l63r2) ACode.skip)) (ACode.seq (ACode.reg l63r3) (ACode.seq (ACode.seq (ACode.reg l63r4) (ACode.cond (.tmp 26) (ACode.reg l63r5) ACode.skip)) (ACode.seq (ACode.reg l63r6) (ACode.seq (ACode.reg l63r7) (ACode.seq (ACode.block 0 (ACode.loop (ACode.seq (ACode.seq (ACode.reg l63r8) (ACode.cond (.tmp 37) ACode.skip (ACode.exit 0))) (ACode.block 1 (ACode.draw l63r9))))) (ACode.seq (ACode.reg l63r10) ACode.ret)))))))) [ARes.tmp 4])
theorem l63_eq : lowFn Try.prog 63 = some l63 := by kernel_rfl
def l64r0 : List AOper :=
  [AOper.mk (some 1) (.box (.tmp 0)) none [], AOper.mk (some 2) (.mv (.const (.int .i64 0))) none []]
def l64r1 : List AOper :=
  [AOper.mk (some 3) (.fld 1 (.tmp 1)) none [], AOper.mk (some 4) (.load false 1 (.tmp 3)) none [0], AOper.mk (some 5) (.call 92 [.tmp 4]) none [1], AOper.mk (some 2) (.mv (.tmp 5)) none [2, 2, 0, 1, 2]]
def l64 : AFn :=
  (AFn.mk 6 1 (ACode.seq (ACode.reg l64r0) (ACode.seq (ACode.reg l64r1) ACode.ret)) [ARes.tmp 2])
theorem l64_eq : lowFn Try.prog 64 = some l64 := by kernel_rfl
def l70r0 : List AOper :=
  [AOper.mk (some 1) (.box (.tmp 0)) none [], AOper.mk (some 2) (.mv (.const (.slice none 0 0))) none []]
def l70r1 : List AOper :=
  [AOper.mk (some 5) (.load true 3 (.tmp 1)) none [], AOper.mk (some 6) (.call 64 [.tmp 5]) none [0], AOper.mk (some 7) (.mkslice 1 [.int .i64 0] (.tmp 6) (.tmp 6)) none [1, 1], AOper.mk (some 3) (.mv (.tmp 7)) none [2, 1, 0, 1, 2]]
def l70r2 : List AOper :=
  [AOper.mk (some 8) (.mv (.tmp 3)) none [], AOper.mk (some 9) (.len (.tmp 8)) none [0], AOper.mk (some 10) (.mv (.const (.int .i64 0))) none []]
def l70r3 : List AOper :=
  [AOper.mk (some 11) (.bin .lss (.tmp 10) (.tmp 9)) none []]
def l70r4 : List AOper :=
  [AOper.mk (some 12) (.mv (.tmp 10)) none [], AOper.mk (some 4) (.mv (.tmp 12)) none [0, 0]]
def l70r5a : List AOper :=
  [AOper.mk (some 13) (.mv (.tmp 3)) none [], AOper.mk (some 14) (.mv (.tmp 4)) none [], AOper.mk (some 15) (.load true 3 (.tmp 1)) none [], AOper.mk (some 16) (.fld 1 (.tmp 1)) none [], AOper.mk (some 17) (.load false 1 (.tmp 16)) none [3], AOper.mk (some 18) (.mv (.tmp 4)) none [], AOper.mk (some 19) (.call 94 [.tmp 17, .tmp 18]) none [4, 5], AOper.mk (some 20) (.call 93 [.tmp 15, .tmp 19]) none [2, 6, 6]]
def l70r5b : List AOper :=
  [AOper.mk (some 21) (.idxA 1 (.tmp 13) (.tmp 14)) none [0, 1, 0, 1, 2, 3, 4, 5, 6, 7], AOper.mk none (.store 1 (.tmp 21) (.tmp 20)) none [8, 7, 7, 0, 1, 2, 3, 4, 5, 6, 7]]
def l70r5 : List AOper := l70r5a ++ l70r5b
def l70r6 : List AOper :=
  [AOper.mk (some 22) (.bin .add (.tmp 10) (.const (.int .i64 1))) none [], AOper.mk (some 10) (.mv (.tmp 22)) none [0]]
def l70r7 : List AOper :=
  [AOper.mk (some 23) (.mv (.tmp 3)) none [], AOper.mk (some 2) (.mv (.tmp 23)) none [0, 0]]
def l70 : AFn :=
  (AFn.mk 24 1 (ACode.seq (ACode.reg l70r0) (ACode.seq (ACode.reg l70r1) (ACode.seq (ACode.seq (ACode.reg l70r2) (ACode.block 0 (ACode.loop (ACode.seq (ACode.reg l70r3) (ACode.seq (ACode.cond (.tmp 11) ACode.skip (ACode.exit 0)) (ACode.seq (ACode.block 1 (ACode.seq (ACode.reg l70r4) (ACode.draw l70r5))) (ACode.reg l70r6))))))) (ACode.seq (ACode.reg l70r7) ACode.ret)))) [ARes.tmp 2])
theorem l70_eq : lowFn Try.prog 70 = some l70 := by kernel_rfl
def l73r0 : List AOper :=
  [AOper.mk (some 1) (.box (.tmp 0)) none [], AOper.mk (some 2) (.mv (.const (.bool false))) none []]
def l73r1 : List AOper :=
  [AOper.mk (some 3) (.fld 1 (.tmp 1)) none [], AOper.mk (some 4) (.load false 1 (.tmp 3)) none [0], AOper.mk (some 5) (.call 96 [.tmp 4]) none [1], AOper.mk (some 6) (.mv (.tmp 5)) none [2, 2], AOper.mk (some 7) (.fld 2 (.tmp 1)) (some (6, true)) [3], AOper.mk (some 8) (.load false 1 (.tmp 7)) (some (6, true)) [4, 3], AOper.mk (some 9) (.len (.tmp 8)) (some (6, true)) [5, 3], AOper.mk (some 10) (.fld 1 (.tmp 1)) (some (6, true)) [3], AOper.mk (some 11) (.load false 1 (.tmp 10)) (some (6, true)) [7, 3], AOper.mk (some 12) (.len (.tmp 11)) (some (6, true)) [8, 3], AOper.mk (some 13) (.bin .eql (.tmp 9) (.tmp 12)) (some (6, true)) [6, 9, 3], AOper.mk (some 14) (.pick (.tmp 6) (.tmp 13) (.const (.bool false))) none [3, 10], AOper.mk (some 15) (.mv (.tmp 14)) none [11, 3], AOper.mk (some 16) (.fld 2 (.tmp 1)) (some (15, true)) [12], AOper.mk (some 17) (.load false 1 (.tmp 16)) (some (15, true)) [13, 12], AOper.mk (some 18) (.call 56 [.tmp 17, .const (.int .i64 (-60)), .const (.int .i64 60)]) (some (15, true)) [14, 12, 12], AOper.mk (some 19) (.pick (.tmp 15) (.tmp 18) (.const (.bool false))) none [12, 15], AOper.mk (some 20) (.mv (.tmp 19)) none [16, 15], AOper.mk (some 21) (.fld 0 (.tmp 1)) (some (20, true)) [17], AOper.mk (some 22) (.load false 1 (.tmp 21)) (some (20, true)) [18, 17], AOper.mk (some 23) (.call 60 [.tmp 22, .const (.int .i64 0), .const (.int .i64 60)]) (some (20, true)) [19, 17, 17], AOper.mk (some 24) (.pick (.tmp 20) (.tmp 23) (.const (.bool false))) none [17, 20], AOper.mk (some 25) (.mv (.tmp 24)) none [21, 20], AOper.mk (some 26) (.fld 1 (.tmp 1)) (some (25, true)) [22], AOper.mk (some 27) (.load false 1 (.tmp 26)) (some (25, true)) [23, 22], AOper.mk (some 28) (.call 55 [.tmp 27]) (some (25, true)) [24, 22, 22], AOper.mk (some 29) (.bin .eql (.tmp 28) (.const (.int .i64 0))) (some (25, true)) [25, 22], AOper.mk (some 30) (.mv (.tmp 29)) (some (25, true)) [26, 25, 22], AOper.mk (some 31) (.load true 3 (.tmp 1)) (some (30, false)) [27], AOper.mk (some 32) (.call 62 [.tmp 31]) (some (30, false)) [28, 27, 27], AOper.mk (some 33) (.call 56 [.tmp 32, .const (.int .i64 0), .const (.int .i64 59)]) (some (30, false)) [29, 29, 27], AOper.mk (some 34) (.pick (.tmp 30) (.const (.bool true)) (.tmp 33)) (some (25, true)) [27, 30, 22], AOper.mk (some 35) (.pick (.tmp 25) (.tmp 34) (.const (.bool false))) none [22, 31], AOper.mk (some 2) (.mv (.tmp 35)) none [32, 30, 0, 1, 2, 3, 4, 5, 6, 7, 8, 9, 10, 11, 12, 13, 14, 15, 16, 17, 18, 19, 20, 21, 22, 23, 24, 25, 26, 27, 28, 29, 30, 31, 32]]
def l73 : AFn :=
  (AFn.mk 36 1 (ACode.seq (ACode.reg l73r0) (ACode.seq (ACode.reg l73r1) ACode.ret)) [ARes.tmp 2])
theorem l73_eq : lowFn Try.prog 73 = some l73 := by kernel_rfl
def l77r0 : List AOper :=
  [AOper.mk (some 1) (.box (.tmp 0)) none [], AOper.mk (some 2) (.mv (.const (.bool false))) none []]
def l77r1 : List AOper :=
  [AOper.mk (some 5) (.fld 1 (.tmp 1)) none [], AOper.mk (some 6) (.load false 1 (.tmp 5)) none [0], AOper.mk (some 7) (.call 98 [.tmp 6]) none [1], AOper.mk (some 8) (.un .not (.tmp 7)) none [2], AOper.mk (some 9) (.mv (.tmp 8)) none [3, 2], AOper.mk (some 10) (.fld 2 (.tmp 1)) (some (9, false)) [4], AOper.mk (some 11) (.load false 1 (.tmp 10)) (some (9, false)) [5, 4], AOper.mk (some 12) (.fld 1 (.tmp 1)) (some (9, false)) [4], AOper.mk (some 13) (.load false 1 (.tmp 12)) (some (9, false)) [7, 4], AOper.mk (some 14) (.len (.tmp 13)) (some (9, false)) [8, 4], AOper.mk (some 15) (.call 99 [.tmp 11, .tmp 14]) (some (9, false)) [6, 9, 4, 4], AOper.mk (some 16) (.un .not (.tmp 15)) (some (9, false)) [10, 4], AOper.mk (some 17) (.pick (.tmp 9) (.const (.bool true)) (.tmp 16)) none [4, 11], AOper.mk (some 18) (.mv (.tmp 17)) none [12, 10], AOper.mk (some 19) (.fld 0 (.tmp 1)) (some (18, false)) [13], AOper.mk (some 20) (.load false 1 (.tmp 19)) (some (18, false)) [14, 13], AOper.mk (some 21) (.call 84 [.tmp 20, .const (.int .i64 60)]) (some (18, false)) [15, 13, 13], AOper.mk (some 22) (.un .not (.tmp 21)) (some (18, false)) [16, 13], AOper.mk (some 23) (.pick (.tmp 18) (.const (.bool true)) (.tmp 22)) none [13, 17]]
def l77r2 : List AOper :=
  [AOper.mk (some 2) (.mv (.const (.bool false))) none []]
def l77r3 : List AOper :=
  [AOper.mk (some 25) (.load true 3 (.tmp 1)) none [], AOper.mk (some 26) (.call 100 [.tmp 25]) none [0], AOper.mk (some 24) (.mv (.tmp 26)) none [1], AOper.mk (some 27) (.extract (.tmp 24) 0) none [2], AOper.mk (some 28) (.extract (.tmp 24) 1) none [2], AOper.mk (some 3) (.mv (.tmp 27)) none [3, 1, 0, 1, 2, 3], AOper.mk (some 4) (.mv (.tmp 28)) none [4, 5, 0, 1, 2, 3, 4, 5]]
def l77r4 : List AOper :=
  [AOper.mk (some 29) (.load true 3 (.tmp 1)) none [], AOper.mk (some 30) (.call 64 [.tmp 29]) none [0], AOper.mk (some 31) (.bin .eql (.tmp 30) (.const (.int .i64 0))) none [1], AOper.mk (some 32) (.mv (.tmp 31)) none [2, 1], AOper.mk (some 33) (.mv (.tmp 3)) (some (32, false)) [3], AOper.mk (some 34) (.bin .geq (.tmp 33) (.const (.int .i64 0))) (some (32, false)) [4, 3], AOper.mk (some 35) (.mv (.tmp 34)) (some (32, false)) [5, 3, 3], AOper.mk (some 36) (.mv (.tmp 4)) (some (35, true)) [6], AOper.mk (some 37) (.bin .lss (.tmp 36) (.const (.int .i64 60))) (some (35, true)) [7, 6], AOper.mk (some 38) (.pick (.tmp 35) (.tmp 37) (.const (.bool false))) (some (32, false)) [6, 8, 3], AOper.mk (some 39) (.pick (.tmp 32) (.const (.bool true)) (.tmp 38)) none [3, 9], AOper.mk (some 2) (.mv (.tmp 39)) none [10, 6, 0, 1, 2, 3, 4, 5, 6, 7, 8, 9, 10]]
def l77 : AFn :=
  (AFn.mk 40 1 (ACode.seq (ACode.reg l77r0) (ACode.seq (ACode.seq (ACode.reg l77r1) (ACode.cond (.tmp 23) (ACode.seq (ACode.reg l77r2) ACode.ret) ACode.skip)) (ACode.seq (ACode.reg l77r3) (ACode.seq (ACode.reg l77r4) ACode.ret)))) [ARes.tmp 2])
theorem l77_eq : lowFn Try.prog 77 = some l77 := by kernel_rfl
def l81r0 : List AOper :=
  [AOper.mk (some 2) (.mv (.const (.slice none 0 0))) none []]
def l81r1 : List AOper :=
  [AOper.mk (some 3) (.mv (.tmp 0)) none [], AOper.mk (some 4) (.isnil false (.tmp 3)) none [0]]
def l81r2 : List AOper :=
  [AOper.mk (some 2) (.mv (.const (.slice none 0 0))) none []]
def l81r3 : List AOper :=
  [AOper.mk (some 5) (.bslice 1 [.int .i64 0] [] 0) none [], AOper.mk (some 6) (.mv (.tmp 0)) none [], AOper.mk (some 7) (.append 1 (.tmp 5) (.tmp 6)) none [0, 1], AOper.mk (some 2) (.mv (.tmp 7)) none [2, 2, 0, 1, 2]]
def l81 : AFn :=
  (AFn.mk 8 1 (ACode.seq (ACode.reg l81r0) (ACode.seq (ACode.seq (ACode.reg l81r1) (ACode.cond (.tmp 4) (ACode.seq (ACode.reg l81r2) ACode.ret) ACode.skip)) (ACode.seq (ACode.reg l81r3) ACode.ret))) [ARes.tmp 2])
theorem l81_eq : lowFn Try.prog 81 = some l81 := by kernel_rfl
def l84r0 : List AOper :=
  [AOper.mk (some 4) (.mv (.const (.bool false))) none []]
def l84r1 : List AOper :=
  [AOper.mk (some 5) (.mv (.tmp 0)) none [], AOper.mk (some 6) (.bin .leq (.const (.int .i64 0)) (.tmp 5)) none [0], AOper.mk (some 7) (.mv (.tmp 6)) none [1], AOper.mk (some 8) (.mv (.tmp 0)) (some (7, true)) [2], AOper.mk (some 9) (.mv (.tmp 1)) (some (7, true)) [2], AOper.mk (some 10) (.bin .leq (.tmp 8) (.tmp 9)) (some (7, true)) [3, 4, 2], AOper.mk (some 11) (.pick (.tmp 7) (.tmp 10) (.const (.bool false))) none [2, 5], AOper.mk (some 4) (.mv (.tmp 11)) none [6, 2, 0, 1, 2, 3, 4, 5, 6]]
def l84 : AFn :=
  (AFn.mk 12 2 (ACode.seq (ACode.reg l84r0) (ACode.seq (ACode.reg l84r1) ACode.ret)) [ARes.tmp 4])
theorem l84_eq : lowFn Try.prog 84 = some l84 := by kernel_rfl
def l85r0 : List AOper :=
  [AOper.mk (some 2) (.box (.tmp 0)) none [], AOper.mk (some 4) (.mv (.const (.bool false))) none []]
def l85r1 : List AOper :=
  [AOper.mk (some 5) (.load true 3 (.tmp 2)) none [], AOper.mk (some 6) (.call 62 [.tmp 5]) none [0], AOper.mk (some 7) (.mv (.tmp 1)) none [], AOper.mk (some 8) (.bin .sub (.tmp 7) (.const (.int .i64 1))) none [2], AOper.mk (some 9) (.call 56 [.tmp 6, .const (.int .i64 0), .tmp 8]) none [1, 3, 1], AOper.mk (some 4) (.mv (.tmp 9)) none [4, 4, 0, 1, 2, 3, 4]]
def l85 : AFn :=
  (AFn.mk 10 2 (ACode.seq (ACode.reg l85r0) (ACode.seq (ACode.reg l85r1) ACode.ret)) [ARes.tmp 4])
theorem l85_eq : lowFn Try.prog 85 = some l85 := by kernel_rfl
def l86r0 : List AOper :=
  [AOper.mk (some 2) (.box (.tmp 0)) none [], AOper.mk (some 4) (.mv (.const (.bool false))) none []]
def l86r1 : List AOper :=
  [AOper.mk (some 7) (.load true 3 (.tmp 2)) none [], AOper.mk (some 8) (.call 77 [.tmp 7]) none [0], AOper.mk (some 9) (.un .not (.tmp 8)) none [1], AOper.mk (some 10) (.mv (.tmp 9)) none [2, 1], AOper.mk (some 11) (.mv (.tmp 1)) (some (10, false)) [3], AOper.mk (some 12) (.call 84 [.tmp 11, .const (.int .i64 60)]) (some (10, false)) [4, 3, 3], AOper.mk (some 13) (.un .not (.tmp 12)) (some (10, false)) [5, 3], AOper.mk (some 14) (.pick (.tmp 10) (.const (.bool true)) (.tmp 13)) none [3, 6]]
def l86r2 : List AOper :=
  [AOper.mk (some 4) (.mv (.const (.bool false))) none []]
def l86r3 : List AOper :=
  [AOper.mk (some 16) (.load true 3 (.tmp 2)) none [], AOper.mk (some 17) (.call 100 [.tmp 16]) none [0], AOper.mk (some 15) (.mv (.tmp 17)) none [1], AOper.mk (some 18) (.extract (.tmp 15) 0) none [2], AOper.mk (some 19) (.extract (.tmp 15) 1) none [2], AOper.mk (some 5) (.mv (.tmp 18)) none [3, 1, 0, 1, 2, 3], AOper.mk (some 6) (.mv (.tmp 19)) none [4, 5, 0, 1, 2, 3, 4, 5]]
def l86r4 : List AOper :=
  [AOper.mk (some 20) (.mv (.tmp 6)) none [], AOper.mk (some 21) (.mv (.tmp 1)) none [], AOper.mk (some 22) (.bin .lss (.tmp 20) (.tmp 21)) none [0, 1], AOper.mk (some 4) (.mv (.tmp 22)) none [2, 0, 1, 2]]
def l86 : AFn :=
  (AFn.mk 23 2 (ACode.seq (ACode.reg l86r0) (ACode.seq (ACode.seq (ACode.reg l86r1) (ACode.cond (.tmp 14) (ACode.seq (ACode.reg l86r2) ACode.ret) ACode.skip)) (ACode.seq (ACode.reg l86r3) (ACode.seq (ACode.reg l86r4) ACode.ret)))) [ARes.tmp 4])
theorem l86_eq : lowFn Try.prog 86 = some l86 := by kernel_rfl
def l87r0 : List AOper :=
  [AOper.mk (some 1) (.box (.tmp 0)) none [], AOper.mk (some 2) (.mv (.const (.int .i64 0))) none []]
def l87r1 : List AOper :=
  [AOper.mk (some 4) (.fld 1 (.tmp 1)) none [], AOper.mk (some 5) (.load false 1 (.tmp 4)) none [0], AOper.mk (some 6) (.len (.tmp 5)) none [1], AOper.mk (some 7) (.bin .sub (.tmp 6) (.const (.int .i64 1))) none [2], AOper.mk (some 3) (.mv (.tmp 7)) none [3, 0, 1, 2, 3]]
def l87r2 : List AOper :=
  [AOper.mk (some 8) (.mv (.tmp 3)) none [], AOper.mk (some 9) (.bin .lss (.tmp 8) (.const (.int .i64 0))) none [0], AOper.mk (some 10) (.mv (.tmp 9)) none [1], AOper.mk (some 11) (.fld 2 (.tmp 1)) (some (10, false)) [2], AOper.mk (some 12) (.load false 1 (.tmp 11)) (some (10, false)) [3, 2], AOper.mk (some 13) (.mv (.tmp 3)) (some (10, false)) [2], AOper.mk (some 14) (.idxA 1 (.tmp 12) (.tmp 13)) (some (10, false)) [4, 5, 2], AOper.mk (some 15) (.load false 1 (.tmp 14)) (some (10, false)) [6, 2], AOper.mk (some 16) (.bin .neq (.tmp 15) (.const (.int .i64 1))) (some (10, false)) [7, 2], AOper.mk (some 17) (.pick (.tmp 10) (.const (.bool true)) (.tmp 16)) none [2, 8]]
def l87r3 : List AOper :=
  [AOper.mk (some 2) (.mv (.const (.int .i64 1))) none []]
def l87r4 : List AOper :=
  [AOper.mk (some 18) (.fld 1 (.tmp 1)) none [], AOper.mk (some 19) (.load false 1 (.tmp 18)) none [0], AOper.mk (some 20) (.mv (.tmp 3)) none [], AOper.mk (some 21) (.idxA 1 (.tmp 19) (.tmp 20)) none [1, 2], AOper.mk (some 22) (.load false 1 (.tmp 21)) none [3], AOper.mk (some 2) (.mv (.tmp 22)) none [4, 0, 1, 2, 3, 4]]
def l87 : AFn :=
  (AFn.mk 23 1 (ACode.seq (ACode.reg l87r0) (ACode.seq (ACode.reg l87r1) (ACode.seq (ACode.seq (ACode.reg l87r2) (ACode.cond (.tmp 17) (ACode.seq (ACode.reg l87r3) ACode.ret) ACode.skip)) (ACode.seq (ACode.reg l87r4) ACode.ret)))) [ARes.tmp 2])
theorem l87_eq : lowFn Try.prog 87 = some l87 := by kernel_rfl
def l88r0 : List AOper :=
  [AOper.mk (some 6) (.mv (.const (.slice none 0 0))) none []]
def l88r1 : List AOper :=
  [AOper.mk (some 8) (.mv (.tmp 1)) none [], AOper.mk (some 9) (.mv (.tmp 2)) none [], AOper.mk (some 10) (.bin .add (.tmp 8) (.tmp 9)) none [0, 1], AOper.mk (some 7) (.mv (.tmp 10)) none [2, 0, 1, 2]]
def l88r2 : List AOper :=
  [AOper.mk (some 11) (.mv (.tmp 0)) none [], AOper.mk (some 12) (.mv (.tmp 1)) none [], AOper.mk (some 13) (.mv (.tmp 7)) none [], AOper.mk (some 14) (.mv (.tmp 7)) none [], AOper.mk (some 15) (.slice3 1 (.tmp 11) (some (.tmp 12)) (.tmp 13) (.tmp 14)) none [0, 1, 2, 3], AOper.mk (some 6) (.mv (.tmp 15)) none [4, 0, 1, 2, 3, 4]]
def l88 : AFn :=
  (AFn.mk 16 3 (ACode.seq (ACode.reg l88r0) (ACode.seq (ACode.reg l88r1) (ACode.seq (ACode.reg l88r2) ACode.ret))) [ARes.tmp 6])
theorem l88_eq : lowFn Try.prog 88 = some l88 := by kernel_rfl
def l89r0 : List AOper :=
  [AOper.mk (some 2) (.box (.tmp 0)) none [], AOper.mk (some 4) (.mv (.const (.int .i64 0))) none []]
def l89r1 : List AOper :=
  [AOper.mk (some 7) (.fld 0 (.tmp 2)) none [], AOper.mk (some 8) (.load false 1 (.tmp 7)) none [0], AOper.mk (some 5) (.mv (.tmp 8)) none [1, 0, 1]]
def l89r2 : List AOper :=
  [AOper.mk (some 6) (.mv (.const (.int .i64 0))) none []]
def l89r3 : List AOper :=
  [AOper.mk (some 9) (.mv (.tmp 6)) none [], AOper.mk (some 10) (.mv (.tmp 1)) none [], AOper.mk (some 11) (.len (.tmp 10)) none [1], AOper.mk (some 12) (.bin .lss (.tmp 9) (.tmp 11)) none [0, 2]]
def l89r4a : List AOper :=
  [AOper.mk (some 15) (.mv (.tmp 5)) none [], AOper.mk (some 16) (.mv (.tmp 1)) none [], AOper.mk (some 17) (.mv (.tmp 6)) none [], AOper.mk (some 18) (.idxA 1 (.tmp 16) (.tmp 17)) none [1, 2], AOper.mk (some 19) (.load false 1 (.tmp 18)) none [3], AOper.mk (some 20) (.fld 2 (.tmp 2)) none [], AOper.mk (some 21) (.load false 1 (.tmp 20)) none [5], AOper.mk (some 22) (.mv (.tmp 6)) none [], AOper.mk (some 23) (.idxA 1 (.tmp 21) (.tmp 22)) none [6, 7], AOper.mk (some 24) (.load false 1 (.tmp 23)) none [8], AOper.mk (some 25) (.bin .mul (.tmp 19) (.tmp 24)) none [4, 9]]
def l89r4b : List AOper :=
  [AOper.mk (some 26) (.bin .add (.tmp 15) (.tmp 25)) none [0, 10], AOper.mk (some 5) (.mv (.tmp 26)) none [11, 0, 1, 2, 3, 4, 5, 6, 7, 8, 9, 10, 11]]
def l89r4 : List AOper := l89r4a ++ l89r4b
def l89r5 : List AOper :=
  [AOper.mk (some 13) (.mv (.tmp 6)) none [], AOper.mk (some 14) (.bin .add (.tmp 13) (.const (.int .i64 1))) none [0], AOper.mk (some 6) (.mv (.tmp 14)) none [1, 0, 1]]
def l89r6 : List AOper :=
  [AOper.mk (some 27) (.mv (.tmp 5)) none [], AOper.mk (some 4) (.mv (.tmp 27)) none [0, 0]]
def l89 : AFn :=
  (AFn.mk 28 2 (ACode.seq (ACode.reg l89r0) (ACode.seq (ACode.reg l89r1) (ACode.seq (ACode.seq (ACode.reg l89r2) (ACode.block 0 (ACode.loop (ACode.seq (ACode.seq (ACode.reg l89r3) (ACode.cond (.tmp 12) ACode.skip (ACode.exit 0))) (ACode.seq (ACode.block 1 (ACode.draw l89r4)) (ACode.reg l89r5)))))) (ACode.seq (ACode.reg l89r6) ACode.ret)))) [ARes.tmp 4])
theorem l89_eq : lowFn Try.prog 89 = some l89 := by kernel_rfl
def l90r0 : List AOper :=
  [AOper.mk (some 4) (.mv (.const (.slice none 0 0))) none []]
def l90r1 : List AOper :=
  [AOper.mk (some 7) (.mv (.tmp 0)) none [], AOper.mk (some 8) (.len (.tmp 7)) none [0], AOper.mk (some 9) (.mkslice 1 [.int .i64 0] (.tmp 8) (.tmp 8)) none [1, 1], AOper.mk (some 5) (.mv (.tmp 9)) none [2, 0, 1, 2]]
def l90r2 : List AOper :=
  [AOper.mk (some 10) (.mv (.tmp 0)) none [], AOper.mk (some 11) (.len (.tmp 10)) none [0], AOper.mk (some 12) (.bin .sub (.tmp 11) (.const (.int .i64 1))) none [1], AOper.mk (some 6) (.mv (.tmp 12)) none [2, 0, 1, 2]]
def l90r3 : List AOper :=
  [AOper.mk (some 13) (.mv (.tmp 6)) none [], AOper.mk (some 14) (.bin .geq (.tmp 13) (.const (.int .i64 0))) none [0]]
def l90r4 : List AOper :=
  [AOper.mk (some 17) (.mv (.tmp 5)) none [], AOper.mk (some 18) (.mv (.tmp 6)) none [], AOper.mk (some 19) (.mv (.tmp 1)) none [], AOper.mk (some 20) (.mv (.tmp 0)) none [], AOper.mk (some 21) (.mv (.tmp 6)) none [], AOper.mk (some 22) (.idxA 1 (.tmp 20) (.tmp 21)) none [3, 4], AOper.mk (some 23) (.load false 1 (.tmp 22)) none [5], AOper.mk (some 24) (.bin .rem (.tmp 19) (.tmp 23)) none [2, 6], AOper.mk (some 25) (.idxA 1 (.tmp 17) (.tmp 18)) none [0, 1, 0, 1, 2, 3, 4, 5, 6, 7], AOper.mk none (.store 1 (.tmp 25) (.tmp 24)) none [8, 7, 0, 1, 2, 3, 4, 5, 6, 7]]
def l90r5 : List AOper :=
  [AOper.mk (some 26) (.mv (.tmp 1)) none [], AOper.mk (some 27) (.mv (.tmp 0)) none [], AOper.mk (some 28) (.mv (.tmp 6)) none [], AOper.mk (some 29) (.idxA 1 (.tmp 27) (.tmp 28)) none [1, 2], AOper.mk (some 30) (.load false 1 (.tmp 29)) none [3], AOper.mk (some 31) (.bin .quo (.tmp 26) (.tmp 30)) none [0, 4], AOper.mk (some 1) (.mv (.tmp 31)) none [5, 0, 1, 2, 3, 4, 5]]
def l90r6 : List AOper :=
  [AOper.mk (some 15) (.mv (.tmp 6)) none [], AOper.mk (some 16) (.bin .sub (.tmp 15) (.const (.int .i64 1))) none [0], AOper.mk (some 6) (.mv (.tmp 16)) none [1, 0, 1]]
def l90r7 : List AOper :=
  [AOper.mk (some 32) (.mv (.tmp 5)) none [], AOper.mk (some 4) (.mv (.tmp 32)) none [0, 0]]
def l90 : AFn :=
  (AFn.mk 33 2 (ACode.seq (ACode.reg l90r0) (ACode.seq (ACode.reg l90r1) (ACode.seq (ACode.seq (ACode.reg l90r2) (ACode.block 0 (ACode.loop (ACode.seq (ACode.seq (ACode.reg l90r3) (ACode.cond (.tmp 14) ACode.skip (ACode.exit 0))) (ACode.seq (ACode.block 1 (ACode.seq (ACode.reg l90r4) (ACode.reg l90r5))) (ACode.reg l90r6)))))) (ACode.seq (ACode.reg l90r7) ACode.ret)))) [ARes.tmp 4])
theorem l90_eq : lowFn Try.prog 90 = some l90 := by kernel_rfl
def l91r0 : List AOper :=
  [AOper.mk (some 4) (.mv (.const (.int .u64 0))) none [], AOper.mk (some 5) (.mv (.const (.int .u64 0))) none [0]]
def l91r1 : List AOper :=
  [AOper.mk (some 11) (.mv (.tmp 0)) none [], AOper.mk (some 12) (.conv .u32 (.tmp 11)) none [0], AOper.mk (some 13) (.mv (.tmp 1)) none [], AOper.mk (some 14) (.conv .u32 (.tmp 13)) none [2], AOper.mk (some 15) (.call 103 [.tmp 12, .tmp 14]) none [1, 3], AOper.mk (some 10) (.mv (.tmp 15)) none [4], AOper.mk (some 16) (.extract (.tmp 10) 0) none [5], AOper.mk (some 17) (.extract (.tmp 10) 1) none [5], AOper.mk (some 6) (.mv (.tmp 16)) none [6, 4, 0, 1, 2, 3, 4, 5, 6], AOper.mk (some 7) (.mv (.tmp 17)) none [7, 8, 0, 1, 2, 3, 4, 5, 6, 7, 8]]
def l91r2 : List AOper :=
  [AOper.mk (some 18) (.mv (.tmp 6)) none [], AOper.mk (some 19) (.conv .u64 (.tmp 18)) none [0], AOper.mk (some 20) (.mv (.tmp 7)) none [], AOper.mk (some 21) (.conv .u64 (.tmp 20)) none [2], AOper.mk (some 4) (.mv (.tmp 19)) none [1, 0, 1], AOper.mk (some 5) (.mv (.tmp 21)) none [3, 4, 0, 1, 2, 3, 4]]
def l91r3 : List AOper :=
  [AOper.mk (some 23) (.mv (.tmp 0)) none [], AOper.mk (some 24) (.mv (.tmp 1)) none [], AOper.mk (some 25) (.call 104 [.tmp 23, .tmp 24]) none [0, 1], AOper.mk (some 22) (.mv (.tmp 25)) none [2], AOper.mk (some 26) (.extract (.tmp 22) 0) none [3], AOper.mk (some 27) (.extract (.tmp 22) 1) none [3], AOper.mk (some 8) (.mv (.tmp 26)) none [4, 2, 0, 1, 2, 3, 4], AOper.mk (some 9) (.mv (.tmp 27)) none [5, 6, 0, 1, 2, 3, 4, 5, 6]]
def l91r4 : List AOper :=
  [AOper.mk (some 28) (.mv (.tmp 8)) none [], AOper.mk (some 29) (.mv (.tmp 9)) none [], AOper.mk (some 4) (.mv (.tmp 28)) none [0, 0], AOper.mk (some 5) (.mv (.tmp 29)) none [1, 2, 0, 1, 2]]
def l91 : AFn :=
  (AFn.mk 30 2 (ACode.seq (ACode.reg l91r0) (ACode.seq (ACode.cond (.const (.bool false)) (ACode.seq (ACode.reg l91r1) (ACode.seq (ACode.reg l91r2) ACode.ret)) ACode.skip) (ACode.seq (ACode.reg l91r3) (ACode.seq (ACode.reg l91r4) ACode.ret)))) [ARes.tmp 4, ARes.tmp 5])
theorem l91_eq : lowFn Try.prog 91 = some l91 := by kernel_rfl
def l92r0 : List AOper :=
  [AOper.mk (some 2) (.mv (.const (.int .i64 0))) none []]
def l92r1 : List AOper :=
  [AOper.mk (some 3) (.mv (.const (.int .i64 1))) none []]
def l92r2 : List AOper :=
  [AOper.mk (some 6) (.mv (.tmp 0)) none [], AOper.mk (some 7) (.len (.tmp 6)) none [0], AOper.mk (some 8) (.mv (.const (.int .i64 0))) none []]
def l92r3 : List AOper :=
  [AOper.mk (some 9) (.bin .lss (.tmp 8) (.tmp 7)) none []]
def l92r4 : List AOper :=
  [AOper.mk (some 10) (.idxA 1 (.tmp 6) (.tmp 8)) none [], AOper.mk (some 11) (.load false 1 (.tmp 10)) none [0], AOper.mk (some 5) (.mv (.tmp 11)) none [1, 0, 1]]
def l92r5 : List AOper :=
  [AOper.mk (some 12) (.mv (.tmp 3)) none [], AOper.mk (some 13) (.mv (.tmp 5)) none [], AOper.mk (some 14) (.bin .mul (.tmp 12) (.tmp 13)) none [0, 1], AOper.mk (some 3) (.mv (.tmp 14)) none [2, 0, 1, 2]]
def l92r6 : List AOper :=
  [AOper.mk (some 15) (.bin .add (.tmp 8) (.const (.int .i64 1))) none [], AOper.mk (some 8) (.mv (.tmp 15)) none [0]]
def l92r7 : List AOper :=
  [AOper.mk (some 16) (.mv (.tmp 3)) none [], AOper.mk (some 2) (.mv (.tmp 16)) none [0, 0]]
def l92 : AFn :=
  (AFn.mk 17 1 (ACode.seq (ACode.reg l92r0) (ACode.seq (ACode.reg l92r1) (ACode.seq (ACode.seq (ACode.reg l92r2) (ACode.block 0 (ACode.loop (ACode.seq (ACode.reg l92r3) (ACode.seq (ACode.cond (.tmp 9) ACode.skip (ACode.exit 0)) (ACode.seq (ACode.block 1 (ACode.seq (ACode.reg l92r4) (ACode.reg l92r5))) (ACode.reg l92r6))))))) (ACode.seq (ACode.reg l92r7) ACode.ret)))) [ARes.tmp 2])
theorem l92_eq : lowFn Try.prog 92 = some l92 := by kernel_rfl
def l93r0 : List AOper :=
  [AOper.mk (some 2) (.box (.tmp 0)) none [], AOper.mk (some 3) (.box (.tmp 1)) none [], AOper.mk (some 4) (.mv (.const (.int .i64 0))) none []]
def l93r1a : List AOper :=
  [AOper.mk (some 5) (.fld 0 (.tmp 2)) none [], AOper.mk (some 6) (.load false 1 (.tmp 5)) none [0], AOper.mk (some 7) (.load true 4 (.tmp 3)) none [], AOper.mk (some 8) (.fld 2 (.tmp 2)) none [], AOper.mk (some 9) (.load false 1 (.tmp 8)) none [3], AOper.mk (some 10) (.call 105 [.tmp 7, .tmp 9]) none [2, 4]]
def l93r1b : List AOper :=
  [AOper.mk (some 11) (.bin .add (.tmp 6) (.tmp 10)) none [1, 5], AOper.mk (some 4) (.mv (.tmp 11)) none [6, 5, 0, 1, 2, 3, 4, 5, 6]]
def l93r1 : List AOper := l93r1a ++ l93r1b
def l93 : AFn :=
  (AFn.mk 12 2 (ACode.seq (ACode.reg l93r0) (ACode.seq (ACode.draw l93r1) ACode.ret)) [ARes.tmp 4])
theorem l93_eq : lowFn Try.prog 93 = some l93 := by kernel_rfl
def l94r0 : List AOper :=
  [AOper.mk (some 4) (.alloc [.int .i64 0, .int .i64 0, .int .i64 0, .int .i64 0]) none []]
def l94r1 : List AOper :=
  [AOper.mk (some 5) (.alloc [.int .i64 0, .int .i64 0, .int .i64 0, .int .i64 0]) none []]
def l94r2 : List AOper :=
  [AOper.mk (some 7) (.mv (.tmp 0)) none [], AOper.mk (some 8) (.len (.tmp 7)) none [0], AOper.mk (some 9) (.bin .sub (.tmp 8) (.const (.int .i64 1))) none [1], AOper.mk (some 6) (.mv (.tmp 9)) none [2, 0, 1, 2]]
def l94r3 : List AOper :=
  [AOper.mk (some 10) (.mv (.tmp 6)) none [], AOper.mk (some 11) (.bin .geq (.tmp 10) (.const (.int .i64 0))) none [0]]
def l94r4 : List AOper :=
  [AOper.mk (some 14) (.mv (.tmp 6)) none [], AOper.mk (some 15) (.mv (.tmp 1)) none [], AOper.mk (some 16) (.mv (.tmp 0)) none [], AOper.mk (some 17) (.mv (.tmp 6)) none [], AOper.mk (some 18) (.idxA 1 (.tmp 16) (.tmp 17)) none [2, 3], AOper.mk (some 19) (.load false 1 (.tmp 18)) none [4], AOper.mk (some 20) (.bin .rem (.tmp 15) (.tmp 19)) none [1, 5], AOper.mk (some 21) (.idxP 1 4 (.tmp 5) (.tmp 14)) none [0, 0, 1, 2, 3, 4, 5, 6], AOper.mk none (.store 1 (.tmp 21) (.tmp 20)) none [7, 6, 0, 1, 2, 3, 4, 5, 6]]
def l94r5 : List AOper :=
  [AOper.mk (some 22) (.mv (.tmp 1)) none [], AOper.mk (some 23) (.mv (.tmp 0)) none [], AOper.mk (some 24) (.mv (.tmp 6)) none [], AOper.mk (some 25) (.idxA 1 (.tmp 23) (.tmp 24)) none [1, 2], AOper.mk (some 26) (.load false 1 (.tmp 25)) none [3], AOper.mk (some 27) (.bin .quo (.tmp 22) (.tmp 26)) none [0, 4], AOper.mk (some 1) (.mv (.tmp 27)) none [5, 0, 1, 2, 3, 4, 5]]
def l94r6 : List AOper :=
  [AOper.mk (some 12) (.mv (.tmp 6)) none [], AOper.mk (some 13) (.bin .sub (.tmp 12) (.const (.int .i64 1))) none [0], AOper.mk (some 6) (.mv (.tmp 13)) none [1, 0, 1]]
def l94r7 : List AOper :=
  [AOper.mk (some 28) (.load true 4 (.tmp 5)) none [], AOper.mk none (.store 4 (.tmp 4) (.tmp 28)) none [0, 0]]
def l94 : AFn :=
  (AFn.mk 29 2 (ACode.seq (ACode.reg l94r0) (ACode.seq (ACode.reg l94r1) (ACode.seq (ACode.seq (ACode.reg l94r2) (ACode.block 0 (ACode.loop (ACode.seq (ACode.seq (ACode.reg l94r3) (ACode.cond (.tmp 11) ACode.skip (ACode.exit 0))) (ACode.seq (ACode.block 1 (ACode.seq (ACode.reg l94r4) (ACode.reg l94r5))) (ACode.reg l94r6)))))) (ACode.seq (ACode.reg l94r7) ACode.ret)))) [ARes.cell 4 true 4])
theorem l94_eq : lowFn Try.prog 94 = some l94 := by kernel_rfl
def l96r0 : List AOper :=
  [AOper.mk (some 2) (.mv (.const (.bool false))) none []]
def l96r1 : List AOper :=
  [AOper.mk (some 3) (.mv (.tmp 0)) none [], AOper.mk (some 4) (.len (.tmp 3)) none [0], AOper.mk (some 5) (.bin .leq (.tmp 4) (.const (.int .i64 4))) none [1], AOper.mk (some 6) (.mv (.tmp 5)) none [2], AOper.mk (some 7) (.mv (.tmp 0)) (some (6, true)) [3], AOper.mk (some 8) (.call 56 [.tmp 7, .const (.int .i64 0), .const (.int .i64 60)]) (some (6, true)) [4, 3, 3], AOper.mk (some 9) (.pick (.tmp 6) (.tmp 8) (.const (.bool false))) none [3, 5], AOper.mk (some 10) (.mv (.tmp 9)) none [6, 5], AOper.mk (some 11) (.mv (.tmp 0)) (some (10, true)) [7], AOper.mk (some 12) (.call 55 [.tmp 11]) (some (10, true)) [8, 7, 7], AOper.mk (some 13) (.bin .leq (.tmp 12) (.const (.int .i64 60))) (some (10, true)) [9, 7], AOper.mk (some 14) (.pick (.tmp 10) (.tmp 13) (.const (.bool false))) none [7, 10], AOper.mk (some 2) (.mv (.tmp 14)) none [11, 9, 0, 1, 2, 3, 4, 5, 6, 7, 8, 9, 10, 11]]
def l96 : AFn :=
  (AFn.mk 15 1 (ACode.seq (ACode.reg l96r0) (ACode.seq (ACode.reg l96r1) ACode.ret)) [ARes.tmp 2])
theorem l96_eq : lowFn Try.prog 96 = some l96 := by kernel_rfl
def l98r0 : List AOper :=
  [AOper.mk (some 2) (.mv (.const (.bool false))) none []]
def l98r1 : List AOper :=
  [AOper.mk (some 5) (.mv (.tmp 0)) none [], AOper.mk (some 6) (.len (.tmp 5)) none [0], AOper.mk (some 7) (.bin .gtr (.tmp 6) (.const (.int .i64 4))) none [1]]
def l98r2 : List AOper :=
  [AOper.mk (some 2) (.mv (.const (.bool false))) none []]
def l98r3 : List AOper :=
  [AOper.mk (some 8) (.mv (.tmp 0)) none [], AOper.mk (some 9) (.len (.tmp 8)) none [0], AOper.mk (some 10) (.mv (.const (.int .i64 0))) none []]
def l98r4 : List AOper :=
  [AOper.mk (some 11) (.bin .lss (.tmp 10) (.tmp 9)) none []]
def l98r5 : List AOper :=
  [AOper.mk (some 12) (.idxA 1 (.tmp 8) (.tmp 10)) none [], AOper.mk (some 13) (.load false 1 (.tmp 12)) none [0], AOper.mk (some 4) (.mv (.tmp 13)) none [1, 0, 1]]
def l98r6 : List AOper :=
  [AOper.mk (some 14) (.mv (.tmp 4)) none [], AOper.mk (some 15) (.call 84 [.tmp 14, .const (.int .i64 60)]) none [0], AOper.mk (some 16) (.un .not (.tmp 15)) none [1]]
def l98r7 : List AOper :=
  [AOper.mk (some 2) (.mv (.const (.bool false))) none []]
def l98r8 : List AOper :=
  [AOper.mk (some 17) (.bin .add (.tmp 10) (.const (.int .i64 1))) none [], AOper.mk (some 10) (.mv (.tmp 17)) none [0]]
def l98r9 : List AOper :=
  [AOper.mk (some 18) (.mv (.tmp 0)) none [], AOper.mk (some 19) (.call 92 [.tmp 18]) none [0], AOper.mk (some 20) (.bin .leq (.tmp 19) (.const (.int .i64 60))) none [1], AOper.mk (some 2) (.mv (.tmp 20)) none [2, 1, 0, 1, 2]]
def l98 : AFn :=
  (AFn.mk 21 1 (ACode.seq (ACode.reg l98r0) (ACode.seq (ACode.seq (ACode.reg l98r1) (ACode.cond (.tmp 7) (ACode.seq (ACode.reg l98r2) ACode.ret) ACode.skip)) (ACode.seq (ACode.seq (ACode.reg l98r3) (ACode.block 0 (ACode.loop (ACode.seq (ACode.reg l98r4) (ACode.seq (ACode.cond (.tmp 11) ACode.skip (ACode.exit 0)) (ACode.seq (ACode.block 1 (ACode.seq (ACode.reg l98r5) (ACode.seq (ACode.reg l98r6) (ACode.cond (.tmp 16) (ACode.seq (ACode.reg l98r7) ACode.ret) ACode.skip)))) (ACode.reg l98r8))))))) (ACode.seq (ACode.reg l98r9) ACode.ret)))) [ARes.tmp 2])
theorem l98_eq : lowFn Try.prog 98 = some l98 := by kernel_rfl
def l99r0 : List AOper :=
  [AOper.mk (some 4) (.mv (.const (.bool false))) none []]
def l99r1 : List AOper :=
  [AOper.mk (some 7) (.mv (.tmp 0)) none [], AOper.mk (some 8) (.len (.tmp 7)) none [0], AOper.mk (some 9) (.mv (.tmp 1)) none [], AOper.mk (some 10) (.bin .neq (.tmp 8) (.tmp 9)) none [1, 2]]
def l99r2 : List AOper :=
  [AOper.mk (some 4) (.mv (.const (.bool false))) none []]
def l99r3 : List AOper :=
  [AOper.mk (some 11) (.mv (.tmp 0)) none [], AOper.mk (some 12) (.len (.tmp 11)) none [0], AOper.mk (some 13) (.mv (.const (.int .i64 0))) none []]
def l99r4 : List AOper :=
  [AOper.mk (some 14) (.bin .lss (.tmp 13) (.tmp 12)) none []]
def l99r5 : List AOper :=
  [AOper.mk (some 15) (.idxA 1 (.tmp 11) (.tmp 13)) none [], AOper.mk (some 16) (.load false 1 (.tmp 15)) none [0], AOper.mk (some 6) (.mv (.tmp 16)) none [1, 0, 1]]
def l99r6 : List AOper :=
  [AOper.mk (some 17) (.mv (.tmp 6)) none [], AOper.mk (some 18) (.call 106 [.tmp 17, .const (.int .i64 60)]) none [0], AOper.mk (some 19) (.un .not (.tmp 18)) none [1]]
def l99r7 : List AOper :=
  [AOper.mk (some 4) (.mv (.const (.bool false))) none []]
def l99r8 : List AOper :=
  [AOper.mk (some 20) (.bin .add (.tmp 13) (.const (.int .i64 1))) none [], AOper.mk (some 13) (.mv (.tmp 20)) none [0]]
def l99r9 : List AOper :=
  [AOper.mk (some 4) (.mv (.const (.bool true))) none []]
def l99 : AFn :=
  (AFn.mk 21 2 (ACode.seq (ACode.reg l99r0) (ACode.seq (ACode.seq (ACode.reg l99r1) (ACode.cond (.tmp 10) (ACode.seq (ACode.reg l99r2) ACode.ret) ACode.skip)) (ACode.seq (ACode.seq (ACode.reg l99r3) (ACode.block 0 (ACode.loop (ACode.seq (ACode.reg l99r4) (ACode.seq (ACode.cond (.tmp 14) ACode.skip (ACode.exit 0)) (ACode.seq (ACode.block 1 (ACode.seq (ACode.reg l99r5) (ACode.seq (ACode.reg l99r6) (ACode.cond (.tmp 19) (ACode.seq (ACode.reg l99r7) ACode.ret) ACode.skip)))) (ACode.reg l99r8))))))) (ACode.seq (ACode.reg l99r9) ACode.ret)))) [ARes.tmp 4])
theorem l99_eq : lowFn Try.prog 99 = some l99 := by kernel_rfl
def l100r0 : List AOper :=
  [AOper.mk (some 1) (.box (.tmp 0)) none [], AOper.mk (some 2) (.mv (.const (.int .i64 0))) none [], AOper.mk (some 3) (.mv (.const (.int .i64 0))) none [1]]
def l100r1 : List AOper :=
  [AOper.mk (some 9) (.load true 3 (.tmp 1)) none [], AOper.mk (some 10) (.call 64 [.tmp 9]) none [0], AOper.mk (some 11) (.bin .eql (.tmp 10) (.const (.int .i64 0))) none [1]]
def l100r2 : List AOper :=
  [AOper.mk (some 2) (.mv (.const (.int .i64 (-1)))) none [], AOper.mk (some 3) (.mv (.const (.int .i64 (-1)))) none [0, 0]]
def l100r3a : List AOper :=
  [AOper.mk (some 12) (.fld 0 (.tmp 1)) none [], AOper.mk (some 13) (.load false 1 (.tmp 12)) none [0], AOper.mk (some 14) (.fld 0 (.tmp 1)) none [], AOper.mk (some 15) (.load false 1 (.tmp 14)) none [2], AOper.mk (some 4) (.mv (.tmp 13)) none [1, 0, 1]]
def l100r3b : List AOper :=
  [AOper.mk (some 5) (.mv (.tmp 15)) none [3, 4, 0, 1, 2, 3, 4]]
def l100r3 : List AOper := l100r3a ++ l100r3b
def l100r4 : List AOper :=
  [AOper.mk (some 16) (.fld 2 (.tmp 1)) none [], AOper.mk (some 17) (.load false 1 (.tmp 16)) none [0], AOper.mk (some 18) (.len (.tmp 17)) none [1], AOper.mk (some 19) (.mv (.const (.int .i64 0))) none []]
def l100r5 : List AOper :=
  [AOper.mk (some 20) (.bin .lss (.tmp 19) (.tmp 18)) none []]
def l100r6 : List AOper :=
  [AOper.mk (some 21) (.mv (.tmp 19)) none [], AOper.mk (some 22) (.idxA 1 (.tmp 17) (.tmp 19)) none [], AOper.mk (some 23) (.load false 1 (.tmp 22)) none [1], AOper.mk (some 6) (.mv (.tmp 21)) none [0, 0, 1, 2], AOper.mk (some 7) (.mv (.tmp 23)) none [2, 3, 0, 1, 2, 3]]
def l100r7 : List AOper :=
  [AOper.mk (some 24) (.fld 1 (.tmp 1)) none [], AOper.mk (some 25) (.load false 1 (.tmp 24)) none [0], AOper.mk (some 26) (.mv (.tmp 6)) none [], AOper.mk (some 27) (.idxA 1 (.tmp 25) (.tmp 26)) none [1, 2], AOper.mk (some 28) (.load false 1 (.tmp 27)) none [3], AOper.mk (some 29) (.bin .sub (.tmp 28) (.const (.int .i64 1))) none [4], AOper.mk (some 30) (.mv (.tmp 7)) none [], AOper.mk (some 31) (.bin .mul (.tmp 29) (.tmp 30)) none [5, 6], AOper.mk (some 8) (.mv (.tmp 31)) none [7, 0, 1, 2, 3, 4, 5, 6, 7]]
def l100r8 : List AOper :=
  [AOper.mk (some 32) (.mv (.tmp 4)) none [], AOper.mk (some 33) (.mv (.tmp 8)) none [], AOper.mk (some 34) (.minmax false (.tmp 33) (.const (.int .i64 0))) none [1], AOper.mk (some 35) (.bin .add (.tmp 32) (.tmp 34)) none [0, 2], AOper.mk (some 4) (.mv (.tmp 35)) none [3, 0, 1, 2, 3]]
def l100r9 : List AOper :=
  [AOper.mk (some 36) (.mv (.tmp 5)) none [], AOper.mk (some 37) (.mv (.tmp 8)) none [], AOper.mk (some 38) (.minmax true (.tmp 37) (.const (.int .i64 0))) none [1], AOper.mk (some 39) (.bin .add (.tmp 36) (.tmp 38)) none [0, 2], AOper.mk (some 5) (.mv (.tmp 39)) none [3, 0, 1, 2, 3]]
def l100r10 : List AOper :=
  [AOper.mk (some 40) (.bin .add (.tmp 19) (.const (.int .i64 1))) none [], AOper.mk (some 19) (.mv (.tmp 40)) none [0]]
def l100r11 : List AOper :=
  [AOper.mk (some 41) (.mv (.tmp 4)) none [], AOper.mk (some 42) (.mv (.tmp 5)) none [], AOper.mk (some 2) (.mv (.tmp 41)) none [0, 0], AOper.mk (some 3) (.mv (.tmp 42)) none [1, 2, 0, 1, 2]]
def l100 : AFn :=
  (AFn.mk 43 1 (ACode.seq (ACode.reg l100r0) (ACode.seq (ACode.seq (ACode.reg l100r1) (ACode.cond (.tmp 11) (ACode.seq (ACode.reg l100r2) ACode.ret) ACode.skip)) (ACode.seq (ACode.draw l100r3) (ACode.seq (ACode.seq (ACode.reg l100r4) (ACode.block 0 (ACode.loop (ACode.seq (ACode.reg l100r5) (ACode.seq (ACode.cond (.tmp 20) ACode.skip (ACode.exit 0)) (ACode.seq (ACode.block 1 (ACode.seq (ACode.reg l100r6) (ACode.seq (ACode.reg l100r7) (ACode.seq (ACode.reg l100r8) (ACode.reg l100r9))))) (ACode.reg l100r10))))))) (ACode.seq (ACode.reg l100r11) ACode.ret))))) [ARes.tmp 2, ARes.tmp 3])
theorem l100_eq : lowFn Try.prog 100 = some l100 := by kernel_rfl
def l104r0 : List AOper :=
  [AOper.mk (some 4) (.mv (.const (.int .u64 0))) none [], AOper.mk (some 5) (.mv (.const (.int .u64 0))) none [0]]
def l104r1 : List AOper :=
  [AOper.mk (some 14) (.mv (.tmp 0)) none [], AOper.mk (some 15) (.bin .and (.tmp 14) (.const (.int .u64 4294967295))) none [0], AOper.mk (some 6) (.mv (.tmp 15)) none [1, 0, 1]]
def l104r2 : List AOper :=
  [AOper.mk (some 16) (.mv (.tmp 0)) none [], AOper.mk (some 17) (.bin .shr (.tmp 16) (.const (.int .u64 32))) none [0], AOper.mk (some 7) (.mv (.tmp 17)) none [1, 0, 1]]
def l104r3 : List AOper :=
  [AOper.mk (some 18) (.mv (.tmp 1)) none [], AOper.mk (some 19) (.bin .and (.tmp 18) (.const (.int .u64 4294967295))) none [0], AOper.mk (some 8) (.mv (.tmp 19)) none [1, 0, 1]]
def l104r4 : List AOper :=
  [AOper.mk (some 20) (.mv (.tmp 1)) none [], AOper.mk (some 21) (.bin .shr (.tmp 20) (.const (.int .u64 32))) none [0], AOper.mk (some 9) (.mv (.tmp 21)) none [1, 0, 1]]
def l104r5 : List AOper :=
  [AOper.mk (some 22) (.mv (.tmp 6)) none [], AOper.mk (some 23) (.mv (.tmp 8)) none [], AOper.mk (some 24) (.bin .mul (.tmp 22) (.tmp 23)) none [0, 1], AOper.mk (some 10) (.mv (.tmp 24)) none [2, 0, 1, 2]]
def l104r6 : List AOper :=
  [AOper.mk (some 25) (.mv (.tmp 7)) none [], AOper.mk (some 26) (.mv (.tmp 8)) none [], AOper.mk (some 27) (.bin .mul (.tmp 25) (.tmp 26)) none [0, 1], AOper.mk (some 28) (.mv (.tmp 10)) none [], AOper.mk (some 29) (.bin .shr (.tmp 28) (.const (.int .u64 32))) none [3], AOper.mk (some 30) (.bin .add (.tmp 27) (.tmp 29)) none [2, 4], AOper.mk (some 11) (.mv (.tmp 30)) none [5, 0, 1, 2, 3, 4, 5]]
def l104r7 : List AOper :=
  [AOper.mk (some 31) (.mv (.tmp 11)) none [], AOper.mk (some 32) (.bin .and (.tmp 31) (.const (.int .u64 4294967295))) none [0], AOper.mk (some 12) (.mv (.tmp 32)) none [1, 0, 1]]
def l104r8 : List AOper :=
  [AOper.mk (some 33) (.mv (.tmp 11)) none [], AOper.mk (some 34) (.bin .shr (.tmp 33) (.const (.int .u64 32))) none [0], AOper.mk (some 13) (.mv (.tmp 34)) none [1, 0, 1]]
def l104r9 : List AOper :=
  [AOper.mk (some 35) (.mv (.tmp 12)) none [], AOper.mk (some 36) (.mv (.tmp 6)) none [], AOper.mk (some 37) (.mv (.tmp 9)) none [], AOper.mk (some 38) (.bin .mul (.tmp 36) (.tmp 37)) none [1, 2], AOper.mk (some 39) (.bin .add (.tmp 35) (.tmp 38)) none [0, 3], AOper.mk (some 12) (.mv (.tmp 39)) none [4, 0, 1, 2, 3, 4]]
def l104r10 : List AOper :=
  [AOper.mk (some 40) (.mv (.tmp 7)) none [], AOper.mk (some 41) (.mv (.tmp 9)) none [], AOper.mk (some 42) (.bin .mul (.tmp 40) (.tmp 41)) none [0, 1], AOper.mk (some 43) (.mv (.tmp 13)) none [], AOper.mk (some 44) (.bin .add (.tmp 42) (.tmp 43)) none [2, 3], AOper.mk (some 45) (.mv (.tmp 12)) none [], AOper.mk (some 46) (.bin .shr (.tmp 45) (.const (.int .u64 32))) none [5], AOper.mk (some 47) (.bin .add (.tmp 44) (.tmp 46)) none [4, 6], AOper.mk (some 4) (.mv (.tmp 47)) none [7, 0, 1, 2, 3, 4, 5, 6, 7]]
def l104r11 : List AOper :=
  [AOper.mk (some 48) (.mv (.tmp 0)) none [], AOper.mk (some 49) (.mv (.tmp 1)) none [], AOper.mk (some 50) (.bin .mul (.tmp 48) (.tmp 49)) none [0, 1], AOper.mk (some 5) (.mv (.tmp 50)) none [2, 0, 1, 2]]
def l104 : AFn :=
  (AFn.mk 51 2 (ACode.seq (ACode.reg l104r0) (ACode.seq (ACode.reg l104r1) (ACode.seq (ACode.reg l104r2) (ACode.seq (ACode.reg l104r3) (ACode.seq (ACode.reg l104r4) (ACode.seq (ACode.reg l104r5) (ACode.seq (ACode.reg l104r6) (ACode.seq (ACode.reg l104r7) (ACode.seq (ACode.reg l104r8) (ACode.seq (ACode.reg l104r9) (ACode.seq (ACode.reg l104r10) (ACode.seq (ACode.reg l104r11) ACode.ret)))))))))))) [ARes.tmp 4, ARes.tmp 5])
theorem l104_eq : lowFn Try.prog 104 = some l104 := by kernel_rfl
def l105r0 : List AOper :=
  [AOper.mk (some 2) (.box (.tmp 0)) none [], AOper.mk (some 4) (.mv (.const (.int .i64 0))) none []]
def l105r1 : List AOper :=
  [AOper.mk (some 5) (.mv (.const (.int .i64 0))) none []]
def l105r2 : List AOper :=
  [AOper.mk (some 8) (.mv (.tmp 1)) none [], AOper.mk (some 9) (.len (.tmp 8)) none [0], AOper.mk (some 10) (.mv (.const (.int .i64 0))) none []]
def l105r3 : List AOper :=
  [AOper.mk (some 11) (.bin .lss (.tmp 10) (.tmp 9)) none []]
def l105r4 : List AOper :=
  [AOper.mk (some 12) (.mv (.tmp 10)) none [], AOper.mk (some 13) (.idxA 1 (.tmp 8) (.tmp 10)) none [], AOper.mk (some 14) (.load false 1 (.tmp 13)) none [1], AOper.mk (some 6) (.mv (.tmp 12)) none [0, 0, 1, 2], AOper.mk (some 7) (.mv (.tmp 14)) none [2, 3, 0, 1, 2, 3]]
def l105r5 : List AOper :=
  [AOper.mk (some 15) (.mv (.tmp 5)) none [], AOper.mk (some 16) (.mv (.tmp 6)) none [], AOper.mk (some 17) (.idxP 1 4 (.tmp 2) (.tmp 16)) none [1], AOper.mk (some 18) (.load false 1 (.tmp 17)) none [2], AOper.mk (some 19) (.mv (.tmp 7)) none [], AOper.mk (some 20) (.bin .mul (.tmp 18) (.tmp 19)) none [3, 4], AOper.mk (some 21) (.bin .add (.tmp 15) (.tmp 20)) none [0, 5], AOper.mk (some 5) (.mv (.tmp 21)) none [6, 0, 1, 2, 3, 4, 5, 6]]
def l105r6 : List AOper :=
  [AOper.mk (some 22) (.bin .add (.tmp 10) (.const (.int .i64 1))) none [], AOper.mk (some 10) (.mv (.tmp 22)) none [0]]
def l105r7 : List AOper :=
  [AOper.mk (some 23) (.mv (.tmp 5)) none [], AOper.mk (some 4) (.mv (.tmp 23)) none [0, 0]]
def l105 : AFn :=
  (AFn.mk 24 2 (ACode.seq (ACode.reg l105r0) (ACode.seq (ACode.reg l105r1) (ACode.seq (ACode.seq (ACode.reg l105r2) (ACode.block 0 (ACode.loop (ACode.seq (ACode.reg l105r3) (ACode.seq (ACode.cond (.tmp 11) ACode.skip (ACode.exit 0)) (ACode.seq (ACode.block 1 (ACode.seq (ACode.reg l105r4) (ACode.reg l105r5))) (ACode.reg l105r6))))))) (ACode.seq (ACode.reg l105r7) ACode.ret)))) [ARes.tmp 4])
theorem l105_eq : lowFn Try.prog 105 = some l105 := by kernel_rfl
def l106r0 : List AOper :=
  [AOper.mk (some 4) (.mv (.const (.bool false))) none []]
def l106r1 : List AOper :=
  [AOper.mk (some 5) (.mv (.tmp 1)) none [], AOper.mk (some 6) (.un .neg (.tmp 5)) none [0], AOper.mk (some 7) (.mv (.tmp 0)) none [], AOper.mk (some 8) (.bin .leq (.tmp 6) (.tmp 7)) none [1, 2], AOper.mk (some 9) (.mv (.tmp 8)) none [3], AOper.mk (some 10) (.mv (.tmp 0)) (some (9, true)) [4], AOper.mk (some 11) (.mv (.tmp 1)) (some (9, true)) [4], AOper.mk (some 12) (.bin .leq (.tmp 10) (.tmp 11)) (some (9, true)) [5, 6, 4], AOper.mk (some 13) (.pick (.tmp 9) (.tmp 12) (.const (.bool false))) none [4, 7], AOper.mk (some 4) (.mv (.tmp 13)) none [8, 4, 0, 1, 2, 3, 4, 5, 6, 7, 8]]
def l106 : AFn :=
  (AFn.mk 14 2 (ACode.seq (ACode.reg l106r0) (ACode.seq (ACode.reg l106r1) ACode.ret)) [ARes.tmp 4])
theorem l106_eq : lowFn Try.prog 106 = some l106 := by kernel_rfl
end Go.Proofs.Ytlldjeggalkpgaa
