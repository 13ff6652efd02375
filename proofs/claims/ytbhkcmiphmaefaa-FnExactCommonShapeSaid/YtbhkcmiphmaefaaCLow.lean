import Derived.Test.YtbhkcmiphmaefaaCW3
import Derived.Test.YtbhkcmiphmaefaaProg
import Derived.KernelRfl
set_option maxRecDepth 100000
namespace Go.Proofs.Ytbhkcmiphmaefaa
open Vw Go
def l4r0 : List AOper :=
  [AOper.mk (some 4) (.mv (.const (.bool false))) none []]
def l4r1 : List AOper :=
  [AOper.mk (some 16) (.mv (.tmp 0)) none [], AOper.mk (some 17) (.len (.tmp 16)) none [0], AOper.mk (some 18) (.bin .gtr (.tmp 17) (.const (.int .i64 1048576))) none [1]]
def l4r2 : List AOper :=
  [AOper.mk (some 4) (.mv (.const (.bool true))) none []]
def l4r3 : List AOper :=
  [AOper.mk (some 19) (.mv (.tmp 1)) none [], AOper.mk (some 20) (.len (.tmp 19)) none [0], AOper.mk (some 21) (.bin .gtr (.tmp 20) (.const (.int .i64 1048576))) none [1]]
def l4r4 : List AOper :=
  [AOper.mk (some 4) (.mv (.const (.bool true))) none []]
def l4r5 : List AOper :=
  [AOper.mk (some 23) (.mv (.tmp 0)) none [], AOper.mk (some 24) (.call 17 [.tmp 23]) none [0], AOper.mk (some 25) (.mv (.tmp 1)) none [], AOper.mk (some 26) (.call 17 [.tmp 25]) none [2, 1], AOper.mk (some 27) (.call 16 [.tmp 24, .tmp 26]) none [1, 3, 3], AOper.mk (some 22) (.mv (.tmp 27)) none [4], AOper.mk (some 28) (.extract (.tmp 22) 0) none [5], AOper.mk (some 29) (.extract (.tmp 22) 1) none [5], AOper.mk (some 5) (.mv (.tmp 28)) none [6, 4, 0, 1, 2, 3, 4, 5, 6], AOper.mk (some 6) (.mv (.tmp 29)) none [7, 8, 0, 1, 2, 3, 4, 5, 6, 7, 8]]
def l4r6 : List AOper :=
  [AOper.mk (some 30) (.mv (.tmp 0)) none [], AOper.mk (some 31) (.call 17 [.tmp 30]) none [0], AOper.mk (some 7) (.mv (.tmp 31)) none [1, 1, 0, 1]]
def l4r7 : List AOper :=
  [AOper.mk (some 32) (.mv (.tmp 1)) none [], AOper.mk (some 33) (.call 17 [.tmp 32]) none [0], AOper.mk (some 8) (.mv (.tmp 33)) none [1, 1, 0, 1]]
def l4r8 : List AOper :=
  [AOper.mk (some 35) (.mv (.tmp 7)) none [], AOper.mk (some 36) (.mv (.tmp 8)) none [], AOper.mk (some 37) (.call 18 [.tmp 35, .tmp 36]) none [0, 1], AOper.mk (some 34) (.mv (.tmp 37)) none [2], AOper.mk (some 38) (.extract (.tmp 34) 0) none [3], AOper.mk (some 39) (.extract (.tmp 34) 1) none [3], AOper.mk (some 9) (.mv (.tmp 38)) none [4, 2, 0, 1, 2, 3, 4], AOper.mk (some 10) (.mv (.tmp 39)) none [5, 6, 0, 1, 2, 3, 4, 5, 6]]
def l4r9 : List AOper :=
  [AOper.mk (some 40) (.mv (.tmp 9)) none [], AOper.mk (some 41) (.mv (.tmp 5)) none [], AOper.mk (some 42) (.call 19 [.tmp 40, .tmp 41]) none [0, 1], AOper.mk (some 43) (.un .not (.tmp 42)) none [2], AOper.mk (some 44) (.mv (.tmp 43)) none [3, 2], AOper.mk (some 45) (.mv (.tmp 10)) (some (44, false)) [4], AOper.mk (some 46) (.mv (.tmp 6)) (some (44, false)) [4], AOper.mk (some 47) (.binB .neq (.tmp 45) (.tmp 46)) (some (44, false)) [5, 6, 4], AOper.mk (some 48) (.pick (.tmp 44) (.const (.bool true)) (.tmp 47)) none [4, 7]]
def l4r10 : List AOper :=
  [AOper.mk (some 4) (.mv (.const (.bool false))) none []]
def l4r11 : List AOper :=
  [AOper.mk (some 49) (.mv (.tmp 7)) none [], AOper.mk (some 50) (.mv (.tmp 0)) none [], AOper.mk (some 51) (.call 17 [.tmp 50]) none [1], AOper.mk (some 52) (.call 19 [.tmp 49, .tmp 51]) none [0, 2, 2], AOper.mk (some 53) (.un .not (.tmp 52)) none [3]]
def l4r12 : List AOper :=
  [AOper.mk (some 4) (.mv (.const (.bool false))) none []]
def l4r13 : List AOper :=
  [AOper.mk (some 54) (.mv (.tmp 8)) none [], AOper.mk (some 55) (.mv (.tmp 1)) none [], AOper.mk (some 56) (.call 17 [.tmp 55]) none [1], AOper.mk (some 57) (.call 19 [.tmp 54, .tmp 56]) none [0, 2, 2], AOper.mk (some 58) (.un .not (.tmp 57)) none [3]]
def l4r14 : List AOper :=
  [AOper.mk (some 4) (.mv (.const (.bool false))) none []]
def l4r15 : List AOper :=
  [AOper.mk (some 11) (.mv (.const (.int .i64 1))) none []]
def l4r16 : List AOper :=
  [AOper.mk (some 59) (.mv (.tmp 7)) none [], AOper.mk (some 60) (.mv (.tmp 11)) none [], AOper.mk (some 61) (.call 20 [.tmp 59, .tmp 60]) none [0, 1], AOper.mk (some 11) (.mv (.tmp 61)) none [2, 2, 0, 1, 2]]
def l4r17 : List AOper :=
  [AOper.mk (some 62) (.mv (.tmp 8)) none [], AOper.mk (some 63) (.mv (.tmp 11)) none [], AOper.mk (some 64) (.call 20 [.tmp 62, .tmp 63]) none [0, 1], AOper.mk (some 11) (.mv (.tmp 64)) none [2, 2, 0, 1, 2]]
def l4r18 : List AOper :=
  [AOper.mk (some 65) (.mv (.tmp 11)) none [], AOper.mk (some 66) (.bin .lss (.tmp 65) (.const (.int .i64 0))) none [0], AOper.mk (some 67) (.mv (.tmp 66)) none [1], AOper.mk (some 68) (.mv (.tmp 9)) (some (67, false)) [2], AOper.mk (some 69) (.mv (.tmp 5)) (some (67, false)) [2], AOper.mk (some 70) (.call 19 [.tmp 68, .tmp 69]) (some (67, false)) [3, 4, 2, 2], AOper.mk (some 71) (.un .not (.tmp 70)) (some (67, false)) [5, 2], AOper.mk (some 72) (.pick (.tmp 67) (.const (.bool true)) (.tmp 71)) none [2, 6], AOper.mk (some 73) (.mv (.tmp 72)) none [7, 5], AOper.mk (some 74) (.mv (.tmp 10)) (some (73, false)) [8], AOper.mk (some 75) (.mv (.tmp 6)) (some (73, false)) [8], AOper.mk (some 76) (.binB .neq (.tmp 74) (.tmp 75)) (some (73, false)) [9, 10, 8], AOper.mk (some 77) (.pick (.tmp 73) (.const (.bool true)) (.tmp 76)) none [8, 11]]
def l4r19 : List AOper :=
  [AOper.mk (some 4) (.mv (.const (.bool false))) none []]
def l4r20 : List AOper :=
  [AOper.mk (some 12) (.mv (.const (.int .i64 1))) none []]
def l4r21 : List AOper :=
  [AOper.mk (some 78) (.mv (.tmp 9)) none [], AOper.mk (some 79) (.mv (.tmp 12)) none [], AOper.mk (some 80) (.call 20 [.tmp 78, .tmp 79]) none [0, 1], AOper.mk (some 12) (.mv (.tmp 80)) none [2, 2, 0, 1, 2]]
def l4r22 : List AOper :=
  [AOper.mk (some 13) (.mv (.const (.int .i64 1))) none []]
def l4r23 : List AOper :=
  [AOper.mk (some 81) (.mv (.tmp 9)) none [], AOper.mk (some 82) (.mv (.tmp 13)) none [], AOper.mk (some 83) (.call 21 [.tmp 81, .tmp 82]) none [0, 1], AOper.mk (some 13) (.mv (.tmp 83)) none [2, 2, 0, 1, 2]]
def l4r24 : List AOper :=
  [AOper.mk (some 84) (.mv (.tmp 13)) none [], AOper.mk (some 85) (.bin .lss (.tmp 84) (.const (.int .i64 0))) none [0]]
def l4r25 : List AOper :=
  [AOper.mk (some 4) (.mv (.const (.bool false))) none []]
def l4r26 : List AOper :=
  [AOper.mk (some 86) (.mv (.tmp 13)) none [], AOper.mk (some 87) (.mv (.tmp 12)) none [], AOper.mk (some 88) (.bin .neq (.tmp 86) (.tmp 87)) none [0, 1]]
def l4r27 : List AOper :=
  [AOper.mk (some 4) (.mv (.const (.bool false))) none []]
def l4r28 : List AOper :=
  [AOper.mk (some 90) (.mv (.tmp 0)) none [], AOper.mk (some 91) (.call 17 [.tmp 90]) none [0], AOper.mk (some 92) (.mv (.tmp 1)) none [], AOper.mk (some 93) (.call 17 [.tmp 92]) none [2, 1], AOper.mk (some 94) (.call 18 [.tmp 91, .tmp 93]) none [1, 3, 3], AOper.mk (some 89) (.mv (.tmp 94)) none [4], AOper.mk (some 95) (.extract (.tmp 89) 0) none [5], AOper.mk (some 96) (.extract (.tmp 89) 1) none [5], AOper.mk (some 14) (.mv (.tmp 95)) none [6, 4, 0, 1, 2, 3, 4, 5, 6], AOper.mk (some 15) (.mv (.tmp 96)) none [7, 8, 0, 1, 2, 3, 4, 5, 6, 7, 8]]
def l4r29 : List AOper :=
  [AOper.mk (some 97) (.mv (.tmp 14)) none [], AOper.mk (some 98) (.mv (.tmp 5)) none [], AOper.mk (some 99) (.call 19 [.tmp 97, .tmp 98]) none [0, 1], AOper.mk (some 100) (.un .not (.tmp 99)) none [2], AOper.mk (some 101) (.mv (.tmp 100)) none [3, 2], AOper.mk (some 102) (.mv (.tmp 15)) (some (101, false)) [4], AOper.mk (some 103) (.mv (.tmp 6)) (some (101, false)) [4], AOper.mk (some 104) (.binB .neq (.tmp 102) (.tmp 103)) (some (101, false)) [5, 6, 4], AOper.mk (some 105) (.pick (.tmp 101) (.const (.bool true)) (.tmp 104)) none [4, 7]]
def l4r30 : List AOper :=
  [AOper.mk (some 4) (.mv (.const (.bool false))) none []]
def l4r31 : List AOper :=
  [AOper.mk (some 13) (.mv (.const (.int .i64 1))) none []]
def l4r32 : List AOper :=
  [AOper.mk (some 106) (.mv (.tmp 9)) none [], AOper.mk (some 107) (.mv (.tmp 13)) none [], AOper.mk (some 108) (.call 21 [.tmp 106, .tmp 107]) none [0, 1], AOper.mk (some 13) (.mv (.tmp 108)) none [2, 2, 0, 1, 2]]
def l4r33 : List AOper :=
  [AOper.mk (some 109) (.mv (.tmp 13)) none [], AOper.mk (some 110) (.bin .lss (.tmp 109) (.const (.int .i64 0))) none [0]]
def l4r34 : List AOper :=
  [AOper.mk (some 4) (.mv (.const (.bool false))) none []]
def l4r35 : List AOper :=
  [AOper.mk (some 111) (.mv (.tmp 13)) none [], AOper.mk (some 112) (.mv (.tmp 12)) none [], AOper.mk (some 113) (.bin .neq (.tmp 111) (.tmp 112)) none [0, 1]]
def l4r36 : List AOper :=
  [AOper.mk (some 4) (.mv (.const (.bool false))) none []]
def l4r37 : List AOper :=
  [AOper.mk (some 4) (.mv (.const (.bool true))) none []]
def l4 : AFn :=
  (AFn.mk 114 2 (ACode.seq (ACode.reg l4r0) (ACode.seq (ACode.seq (ACode.reg l4r1) (ACode.cond (.tmp 18) (ACode.seq (ACode.reg l4r2) ACode.ret) ACode.skip)) (ACode.seq (ACode.seq (ACode.reg l4r3) (ACode.cond (.tmp 21) (ACode.seq (ACode.reg l4r4) ACode.ret) ACode.skip)) (ACode.seq (ACode.reg l4r5) (ACode.seq (ACode.reg l4r6) (ACode.seq (ACode.reg l4r7) (ACode.seq (ACode.reg l4r8) (ACode.seq (ACode.seq (ACode.reg l4r9) (ACode.cond (.tmp 48) (ACode.seq (ACode.reg l4r10) ACode.ret) ACode.skip)) (ACode.seq (ACode.seq (ACode.reg l4r11) (ACode.cond (.tmp 53) (ACode.seq (ACode.reg l4r12) ACode.ret) ACode.skip)) (ACode.seq (ACode.seq (ACode.reg l4r13) (ACode.cond (.tmp 58) (ACode.seq (ACode.reg l4r14) ACode.ret) ACode.skip)) (ACode.seq (ACode.reg l4r15) (ACode.seq (ACode.reg l4r16) (ACode.seq (ACode.reg l4r17) (ACode.seq (ACode.seq (ACode.reg l4r18) (ACode.cond (.tmp 77) (ACode.seq (ACode.reg l4r19) ACode.ret) ACode.skip)) (ACode.seq (ACode.reg l4r20) (ACode.seq (ACode.reg l4r21) (ACode.seq (ACode.reg l4r22) (ACode.seq (ACode.reg l4r23) (ACode.seq (ACode.seq (ACode.reg l4r24) (ACode.cond (.tmp 85) (ACode.seq (ACode.reg l4r25) ACode.ret) ACode.skip)) (ACode.seq (ACode.seq (ACode.reg l4r26) (ACode.cond (.tmp 88) (ACode.seq (ACode.reg l4r27) ACode.ret) ACode.skip)) (ACode.seq (ACode.reg l4r28) (ACode.seq (ACode.seq (ACode.reg l4r29) (ACode.cond (.tmp 105) (ACode.seq (ACode.reg l4r30) ACode.ret) ACode.skip)) (ACode.seq (ACode.reg l4r31) (ACode.seq (ACode.reg l4r32) (ACode.seq (ACode.seq (ACode.reg l4r33) (ACode.cond (.tmp 110) (ACode.seq (ACode.reg l4r34) ACode.ret) ACode.skip)) (ACode.seq (ACode.seq (ACode.reg l4r35) (ACode.cond (.tmp 113) (ACode.seq (ACode.reg l4r36) ACode.ret) ACode.skip)) (ACode.seq (ACode.reg l4r37) ACode.ret))))))))))))))))))))))))))) [ARes.tmp 4])
theorem l4_eq : lowFn Try.prog 4 = some l4 := by kernel_rfl
def l16r0 : List AOper :=
  [AOper.mk (some 4) (.mv (.const (.slice none 0 0))) none [], AOper.mk (some 5) (.mv (.const (.bool false))) none [0]]
def l16r1 : List AOper :=
  [AOper.mk (some 11) (.mv (.tmp 0)) none [], AOper.mk (some 12) (.call 40 [.tmp 11]) none [0], AOper.mk (some 13) (.un .not (.tmp 12)) none [1], AOper.mk (some 14) (.mv (.tmp 13)) none [2, 1], AOper.mk (some 15) (.mv (.tmp 1)) (some (14, false)) [3], AOper.mk (some 16) (.call 40 [.tmp 15]) (some (14, false)) [4, 3, 3], AOper.mk (some 17) (.un .not (.tmp 16)) (some (14, false)) [5, 3], AOper.mk (some 18) (.pick (.tmp 14) (.const (.bool true)) (.tmp 17)) none [3, 6]]
def l16r2 : List AOper :=
  [AOper.mk (some 4) (.mv (.const (.slice none 0 0))) none [], AOper.mk (some 5) (.mv (.const (.bool false))) none [0, 0]]
def l16r3 : List AOper :=
  [AOper.mk (some 19) (.mv (.tmp 0)) none [], AOper.mk (some 20) (.len (.tmp 19)) none [0], AOper.mk (some 21) (.mv (.tmp 1)) none [], AOper.mk (some 22) (.len (.tmp 21)) none [2], AOper.mk (some 23) (.minmax true (.tmp 20) (.tmp 22)) none [1, 3], AOper.mk (some 6) (.mv (.tmp 23)) none [4, 0, 1, 2, 3, 4]]
def l16r4 : List AOper :=
  [AOper.mk (some 24) (.mv (.tmp 6)) none [], AOper.mk (some 25) (.mkslice 1 [.int .i64 0] (.tmp 24) (.tmp 24)) none [0, 0], AOper.mk (some 7) (.mv (.tmp 25)) none [1, 0, 1]]
def l16r5 : List AOper :=
  [AOper.mk (some 8) (.mv (.const (.int .i64 0))) none []]
def l16r6 : List AOper :=
  [AOper.mk (some 26) (.mv (.tmp 8)) none [], AOper.mk (some 27) (.mv (.tmp 6)) none [], AOper.mk (some 28) (.bin .lss (.tmp 26) (.tmp 27)) none [0, 1]]
def l16r7 : List AOper :=
  [AOper.mk (some 31) (.mv (.tmp 0)) none [], AOper.mk (some 32) (.mv (.tmp 8)) none [], AOper.mk (some 33) (.call 41 [.tmp 31, .tmp 32]) none [0, 1], AOper.mk (some 9) (.mv (.tmp 33)) none [2, 2, 0, 1, 2]]
def l16r8 : List AOper :=
  [AOper.mk (some 34) (.mv (.tmp 1)) none [], AOper.mk (some 35) (.mv (.tmp 8)) none [], AOper.mk (some 36) (.call 41 [.tmp 34, .tmp 35]) none [0, 1], AOper.mk (some 10) (.mv (.tmp 36)) none [2, 2, 0, 1, 2]]
def l16r9 : List AOper :=
  [AOper.mk (some 37) (.mv (.tmp 9)) none [], AOper.mk (some 38) (.mv (.tmp 10)) none [], AOper.mk (some 39) (.bin .neq (.tmp 37) (.tmp 38)) none [0, 1], AOper.mk (some 40) (.mv (.tmp 39)) none [2], AOper.mk (some 41) (.mv (.tmp 9)) (some (40, true)) [3], AOper.mk (some 42) (.bin .neq (.tmp 41) (.const (.int .i64 1))) (some (40, true)) [4, 3], AOper.mk (some 43) (.pick (.tmp 40) (.tmp 42) (.const (.bool false))) none [3, 5], AOper.mk (some 44) (.mv (.tmp 43)) none [6, 3], AOper.mk (some 45) (.mv (.tmp 10)) (some (44, true)) [7], AOper.mk (some 46) (.bin .neq (.tmp 45) (.const (.int .i64 1))) (some (44, true)) [8, 7], AOper.mk (some 47) (.pick (.tmp 44) (.tmp 46) (.const (.bool false))) none [7, 9]]
def l16r10 : List AOper :=
  [AOper.mk (some 4) (.mv (.const (.slice none 0 0))) none [], AOper.mk (some 5) (.mv (.const (.bool false))) none [0, 0]]
def l16r11 : List AOper :=
  [AOper.mk (some 48) (.mv (.tmp 9)) none [], AOper.mk (some 49) (.bin .eql (.tmp 48) (.const (.int .i64 1))) none [0]]
def l16r12 : List AOper :=
  [AOper.mk (some 50) (.mv (.tmp 10)) none [], AOper.mk (some 9) (.mv (.tmp 50)) none [0, 0]]
def l16r13 : List AOper :=
  [AOper.mk (some 51) (.mv (.tmp 7)) none [], AOper.mk (some 52) (.mv (.tmp 6)) none [], AOper.mk (some 53) (.bin .sub (.tmp 52) (.const (.int .i64 1))) none [1], AOper.mk (some 54) (.mv (.tmp 8)) none [], AOper.mk (some 55) (.bin .sub (.tmp 53) (.tmp 54)) none [2, 3], AOper.mk (some 56) (.mv (.tmp 9)) none [], AOper.mk (some 57) (.idxA 1 (.tmp 51) (.tmp 55)) none [0, 4, 0, 1, 2, 3, 4, 5], AOper.mk none (.store 1 (.tmp 57) (.tmp 56)) none [6, 5, 0, 1, 2, 3, 4, 5]]
def l16r14 : List AOper :=
  [AOper.mk (some 29) (.mv (.tmp 8)) none [], AOper.mk (some 30) (.bin .add (.tmp 29) (.const (.int .i64 1))) none [0], AOper.mk (some 8) (.mv (.tmp 30)) none [1, 0, 1]]
def l16r15 : List AOper :=
  [AOper.mk (some 58) (.mv (.tmp 7)) none [], AOper.mk (some 59) (.call 40 [.tmp 58]) none [0], AOper.mk (some 60) (.un .not (.tmp 59)) none [1]]
def l16r16 : List AOper :=
  [AOper.mk (some 4) (.mv (.const (.slice none 0 0))) none [], AOper.mk (some 5) (.mv (.const (.bool false))) none [0, 0]]
def l16r17 : List AOper :=
  [AOper.mk (some 61) (.mv (.tmp 7)) none [], AOper.mk (some 4) (.mv (.tmp 61)) none [0, 0], AOper.mk (some 5) (.mv (.const (.bool true))) none [1, 0, 1]]
def l16 : AFn :=
  (AFn.mk 62 2 (ACode.seq (ACode.reg l16r0) (ACode.seq (ACode.seq (ACode.reg l16r1) (ACode.cond (.tmp 18) (ACode.seq (ACode.reg l16r2) ACode.ret) ACode.skip)) (ACode.seq (ACode.reg l16r3) (ACode.seq (ACode.reg l16r4) (ACode.seq (ACode.seq (ACode.reg l16r5) (ACode.block 0 (ACode.loop (ACode.seq (ACode.seq (ACode.reg l16r6) (ACode.cond (.tmp 28) ACode.skip (ACode.exit 0))) (ACode.seq (ACode.block 1 (ACode.seq (ACode.reg l16r7) (ACode.seq (ACode.reg l16r8) (ACode.seq (ACode.seq (ACode.reg l16r9) (ACode.cond (.tmp 47) (ACode.seq (ACode.reg l16r10) ACode.ret) ACode.skip)) (ACode.seq (ACode.seq (ACode.reg l16r11) (ACode.cond (.tmp 49) (ACode.reg l16r12) ACode.skip)) (ACode.reg l16r13)))))) (ACode.reg l16r14)))))) (ACode.seq (ACode.seq (ACode.reg l16r15) (ACode.cond (.tmp 60) (ACode.seq (ACode.reg l16r16) ACode.ret) ACode.skip)) (ACode.seq (ACode.reg l16r17) ACode.ret))))))) [ARes.tmp 4, ARes.tmp 5])
theorem l16_eq : lowFn Try.prog 16 = some l16 := by kernel_rfl
def l17r0 : List AOper :=
  [AOper.mk (some 2) (.mv (.const (.slice none 0 0))) none []]
def l17r1 : List AOper :=
  [AOper.mk (some 5) (.mv (.tmp 0)) none [], AOper.mk (some 6) (.len (.tmp 5)) none [0], AOper.mk (some 7) (.mkslice 1 [.int .i64 0] (.tmp 6) (.tmp 6)) none [1, 1], AOper.mk (some 3) (.mv (.tmp 7)) none [2, 0, 1, 2]]
def l17r2 : List AOper :=
  [AOper.mk (some 4) (.mv (.const (.int .i64 0))) none []]
def l17r3 : List AOper :=
  [AOper.mk (some 8) (.mv (.tmp 4)) none [], AOper.mk (some 9) (.mv (.tmp 0)) none [], AOper.mk (some 10) (.len (.tmp 9)) none [1], AOper.mk (some 11) (.bin .lss (.tmp 8) (.tmp 10)) none [0, 2]]
def l17r4 : List AOper :=
  [AOper.mk (some 14) (.mv (.tmp 3)) none [], AOper.mk (some 15) (.mv (.tmp 4)) none [], AOper.mk (some 16) (.mv (.tmp 0)) none [], AOper.mk (some 17) (.mv (.tmp 4)) none [], AOper.mk (some 18) (.idxA 1 (.tmp 16) (.tmp 17)) none [2, 3], AOper.mk (some 19) (.load false 1 (.tmp 18)) none [4], AOper.mk (some 20) (.idxA 1 (.tmp 14) (.tmp 15)) none [0, 1, 0, 1, 2, 3, 4, 5], AOper.mk none (.store 1 (.tmp 20) (.tmp 19)) none [6, 5, 0, 1, 2, 3, 4, 5]]
def l17r5 : List AOper :=
  [AOper.mk (some 12) (.mv (.tmp 4)) none [], AOper.mk (some 13) (.bin .add (.tmp 12) (.const (.int .i64 1))) none [0], AOper.mk (some 4) (.mv (.tmp 13)) none [1, 0, 1]]
def l17r6 : List AOper :=
  [AOper.mk (some 21) (.mv (.tmp 3)) none [], AOper.mk (some 2) (.mv (.tmp 21)) none [0, 0]]
def l17 : AFn :=
  (AFn.mk 22 1 (ACode.seq (ACode.reg l17r0) (ACode.seq (ACode.reg l17r1) (ACode.seq (ACode.seq (ACode.reg l17r2) (ACode.block 0 (ACode.loop (ACode.seq (ACode.seq (ACode.reg l17r3) (ACode.cond (.tmp 11) ACode.skip (ACode.exit 0))) (ACode.seq (ACode.block 1 (ACode.reg l17r4)) (ACode.reg l17r5)))))) (ACode.seq (ACode.reg l17r6) ACode.ret)))) [ARes.tmp 2])
theorem l17_eq : lowFn Try.prog 17 = some l17 := by kernel_rfl
def l18r0 : List AOper :=
  [AOper.mk (some 4) (.mv (.const (.slice none 0 0))) none [], AOper.mk (some 5) (.mv (.const (.bool false))) none [0]]
def l18r1 : List AOper :=
  [AOper.mk (some 10) (.mv (.tmp 0)) none [], AOper.mk (some 11) (.call 42 [.tmp 10]) none [0], AOper.mk (some 12) (.un .not (.tmp 11)) none [1], AOper.mk (some 13) (.mv (.tmp 12)) none [2, 1], AOper.mk (some 14) (.mv (.tmp 1)) (some (13, false)) [3], AOper.mk (some 15) (.call 42 [.tmp 14]) (some (13, false)) [4, 3, 3], AOper.mk (some 16) (.un .not (.tmp 15)) (some (13, false)) [5, 3], AOper.mk (some 17) (.pick (.tmp 13) (.const (.bool true)) (.tmp 16)) none [3, 6]]
def l18r2 : List AOper :=
  [AOper.mk (some 4) (.mv (.const (.slice none 0 0))) none [], AOper.mk (some 5) (.mv (.const (.bool false))) none [0, 0]]
def l18r3 : List AOper :=
  [AOper.mk (some 18) (.mv (.tmp 0)) none [], AOper.mk (some 19) (.len (.tmp 18)) none [0], AOper.mk (some 20) (.mv (.tmp 1)) none [], AOper.mk (some 21) (.len (.tmp 20)) none [2], AOper.mk (some 22) (.minmax true (.tmp 19) (.tmp 21)) none [1, 3], AOper.mk (some 23) (.mkslice 1 [.int .i64 0] (.tmp 22) (.tmp 22)) none [4, 4], AOper.mk (some 6) (.mv (.tmp 23)) none [5, 0, 1, 2, 3, 4, 5]]
def l18r4 : List AOper :=
  [AOper.mk (some 24) (.mv (.tmp 0)) none [], AOper.mk (some 25) (.mv (.tmp 6)) none [], AOper.mk (some 26) (.len (.tmp 25)) none [1], AOper.mk (some 27) (.call 43 [.tmp 24, .tmp 26]) none [0, 2], AOper.mk (some 28) (.mv (.tmp 1)) none [], AOper.mk (some 29) (.mv (.tmp 6)) none [], AOper.mk (some 30) (.len (.tmp 29)) none [5], AOper.mk (some 31) (.call 43 [.tmp 28, .tmp 30]) none [4, 6, 3], AOper.mk (some 0) (.mv (.tmp 27)) none [3, 7, 0, 1, 2, 3], AOper.mk (some 1) (.mv (.tmp 31)) none [7, 8, 0, 1, 2, 3, 4, 5, 6, 7, 8]]
def l18r5 : List AOper :=
  [AOper.mk (some 32) (.mv (.tmp 6)) none [], AOper.mk (some 33) (.len (.tmp 32)) none [0], AOper.mk (some 34) (.mv (.const (.int .i64 0))) none []]
def l18r6 : List AOper :=
  [AOper.mk (some 35) (.bin .lss (.tmp 34) (.tmp 33)) none []]
def l18r7 : List AOper :=
  [AOper.mk (some 36) (.mv (.tmp 34)) none [], AOper.mk (some 7) (.mv (.tmp 36)) none [0, 0]]
def l18r8a : List AOper :=
  [AOper.mk (some 38) (.mv (.tmp 0)) none [], AOper.mk (some 39) (.mv (.tmp 7)) none [], AOper.mk (some 40) (.idxA 1 (.tmp 38) (.tmp 39)) none [0, 1], AOper.mk (some 41) (.load false 1 (.tmp 40)) none [2], AOper.mk (some 42) (.mv (.tmp 1)) none [], AOper.mk (some 43) (.mv (.tmp 7)) none [], AOper.mk (some 44) (.idxA 1 (.tmp 42) (.tmp 43)) none [4, 5], AOper.mk (some 45) (.load false 1 (.tmp 44)) none [6], AOper.mk (some 46) (.call 44 [.tmp 41, .tmp 45]) none [3, 7], AOper.mk (some 37) (.mv (.tmp 46)) none [8], AOper.mk (some 47) (.extract (.tmp 37) 0) none [9], AOper.mk (some 48) (.extract (.tmp 37) 1) none [9], AOper.mk (some 8) (.mv (.tmp 47)) none [10, 8, 0, 1, 2, 3, 4, 5, 6, 7, 8, 9, 10]]
def l18r8b : List AOper :=
  [AOper.mk (some 9) (.mv (.tmp 48)) none [11, 12, 0, 1, 2, 3, 4, 5, 6, 7, 8, 9, 10, 11, 12]]
def l18r8 : List AOper := l18r8a ++ l18r8b
def l18r9 : List AOper :=
  [AOper.mk (some 49) (.mv (.tmp 9)) none [], AOper.mk (some 50) (.un .not (.tmp 49)) none [0]]
def l18r10 : List AOper :=
  [AOper.mk (some 4) (.mv (.const (.slice none 0 0))) none [], AOper.mk (some 5) (.mv (.const (.bool false))) none [0, 0]]
def l18r11 : List AOper :=
  [AOper.mk (some 51) (.mv (.tmp 6)) none [], AOper.mk (some 52) (.mv (.tmp 7)) none [], AOper.mk (some 53) (.mv (.tmp 8)) none [], AOper.mk (some 54) (.idxA 1 (.tmp 51) (.tmp 52)) none [0, 1, 0, 1, 2], AOper.mk none (.store 1 (.tmp 54) (.tmp 53)) none [3, 2, 0, 1, 2]]
def l18r12 : List AOper :=
  [AOper.mk (some 55) (.bin .add (.tmp 34) (.const (.int .i64 1))) none [], AOper.mk (some 34) (.mv (.tmp 55)) none [0]]
def l18r13 : List AOper :=
  [AOper.mk (some 56) (.mv (.tmp 6)) none [], AOper.mk (some 57) (.call 42 [.tmp 56]) none [0], AOper.mk (some 58) (.un .not (.tmp 57)) none [1]]
def l18r14 : List AOper :=
  [AOper.mk (some 4) (.mv (.const (.slice none 0 0))) none [], AOper.mk (some 5) (.mv (.const (.bool false))) none [0, 0]]
def l18r15 : List AOper :=
  [AOper.mk (some 59) (.mv (.tmp 6)) none [], AOper.mk (some 4) (.mv (.tmp 59)) none [0, 0], AOper.mk (some 5) (.mv (.const (.bool true))) none [1, 0, 1]]
def l18 : AFn :=
  (AFn.mk 60 2 (ACode.seq (ACode.reg l18r0) (ACode.seq (ACode.seq (ACode.reg l18r1) (ACode.cond (.tmp 17) (ACode.seq (ACode.reg l18r2) ACode.ret) ACode.skip)) (ACode.seq (ACode.reg l18r3) (ACode.seq (ACode.reg l18r4) (ACode.seq (ACode.seq (ACode.reg l18r5) (ACode.block 0 (ACode.loop (ACode.seq (ACode.reg l18r6) (ACode.seq (ACode.cond (.tmp 35) ACode.skip (ACode.exit 0)) (ACode.seq (ACode.block 1 (ACode.seq (ACode.reg l18r7) (ACode.seq (ACode.draw l18r8) (ACode.seq (ACode.seq (ACode.reg l18r9) (ACode.cond (.tmp 50) (ACode.seq (ACode.reg l18r10) ACode.ret) ACode.skip)) (ACode.reg l18r11))))) (ACode.reg l18r12))))))) (ACode.seq (ACode.seq (ACode.reg l18r13) (ACode.cond (.tmp 58) (ACode.seq (ACode.reg l18r14) ACode.ret) ACode.skip)) (ACode.seq (ACode.reg l18r15) ACode.ret))))))) [ARes.tmp 4, ARes.tmp 5])
theorem l18_eq : lowFn Try.prog 18 = some l18 := by kernel_rfl
def l19r0 : List AOper :=
  [AOper.mk (some 4) (.mv (.const (.bool false))) none []]
def l19r1 : List AOper :=
  [AOper.mk (some 6) (.mv (.tmp 0)) none [], AOper.mk (some 7) (.len (.tmp 6)) none [0], AOper.mk (some 8) (.mv (.tmp 1)) none [], AOper.mk (some 9) (.len (.tmp 8)) none [2], AOper.mk (some 10) (.bin .neq (.tmp 7) (.tmp 9)) none [1, 3]]
def l19r2 : List AOper :=
  [AOper.mk (some 4) (.mv (.const (.bool false))) none []]
def l19r3 : List AOper :=
  [AOper.mk (some 5) (.mv (.const (.int .i64 0))) none []]
def l19r4 : List AOper :=
  [AOper.mk (some 11) (.mv (.tmp 5)) none [], AOper.mk (some 12) (.mv (.tmp 0)) none [], AOper.mk (some 13) (.len (.tmp 12)) none [1], AOper.mk (some 14) (.bin .lss (.tmp 11) (.tmp 13)) none [0, 2]]
def l19r5a : List AOper :=
  [AOper.mk (some 17) (.mv (.tmp 0)) none [], AOper.mk (some 18) (.mv (.tmp 5)) none [], AOper.mk (some 19) (.idxA 1 (.tmp 17) (.tmp 18)) none [0, 1], AOper.mk (some 20) (.load false 1 (.tmp 19)) none [2], AOper.mk (some 21) (.mv (.tmp 1)) none [], AOper.mk (some 22) (.mv (.tmp 5)) none [], AOper.mk (some 23) (.idxA 1 (.tmp 21) (.tmp 22)) none [4, 5], AOper.mk (some 24) (.load false 1 (.tmp 23)) none [6]]
def l19r5b : List AOper :=
  [AOper.mk (some 25) (.bin .neq (.tmp 20) (.tmp 24)) none [3, 7]]
def l19r5 : List AOper := l19r5a ++ l19r5b
def l19r6 : List AOper :=
  [AOper.mk (some 4) (.mv (.const (.bool false))) none []]
def l19r7 : List AOper :=
  [AOper.mk (some 15) (.mv (.tmp 5)) none [], AOper.mk (some 16) (.bin .add (.tmp 15) (.const (.int .i64 1))) none [0], AOper.mk (some 5) (.mv (.tmp 16)) none [1, 0, 1]]
def l19r8 : List AOper :=
  [AOper.mk (some 4) (.mv (.const (.bool true))) none []]
def l19 : AFn :=
  (AFn.mk 26 2 (ACode.seq (ACode.reg l19r0) (ACode.seq (ACode.seq (ACode.reg l19r1) (ACode.cond (.tmp 10) (ACode.seq (ACode.reg l19r2) ACode.ret) ACode.skip)) (ACode.seq (ACode.seq (ACode.reg l19r3) (ACode.block 0 (ACode.loop (ACode.seq (ACode.seq (ACode.reg l19r4) (ACode.cond (.tmp 14) ACode.skip (ACode.exit 0))) (ACode.seq (ACode.block 1 (ACode.seq (ACode.draw l19r5) (ACode.cond (.tmp 25) (ACode.seq (ACode.reg l19r6) ACode.ret) ACode.skip))) (ACode.reg l19r7)))))) (ACode.seq (ACode.reg l19r8) ACode.ret)))) [ARes.tmp 4])
theorem l19_eq : lowFn Try.prog 19 = some l19 := by kernel_rfl
def l20r0 : List AOper :=
  [AOper.mk (some 4) (.mv (.const (.int .i64 0))) none []]
def l20r1 : List AOper :=
  [AOper.mk (some 5) (.mv (.const (.int .i64 0))) none []]
def l20r2 : List AOper :=
  [AOper.mk (some 6) (.mv (.tmp 5)) none [], AOper.mk (some 7) (.mv (.tmp 0)) none [], AOper.mk (some 8) (.len (.tmp 7)) none [1], AOper.mk (some 9) (.bin .lss (.tmp 6) (.tmp 8)) none [0, 2]]
def l20r3 : List AOper :=
  [AOper.mk (some 12) (.mv (.tmp 0)) none [], AOper.mk (some 13) (.mv (.tmp 5)) none [], AOper.mk (some 14) (.mv (.tmp 1)) none [], AOper.mk (some 15) (.idxA 1 (.tmp 12) (.tmp 13)) none [0, 1, 0, 1, 2], AOper.mk none (.store 1 (.tmp 15) (.tmp 14)) none [3, 2, 0, 1, 2]]
def l20r4 : List AOper :=
  [AOper.mk (some 16) (.mv (.tmp 1)) none [], AOper.mk (some 17) (.bin .add (.tmp 16) (.const (.int .i64 1))) none [0], AOper.mk (some 1) (.mv (.tmp 17)) none [1, 0, 1]]
def l20r5 : List AOper :=
  [AOper.mk (some 10) (.mv (.tmp 5)) none [], AOper.mk (some 11) (.bin .add (.tmp 10) (.const (.int .i64 1))) none [0], AOper.mk (some 5) (.mv (.tmp 11)) none [1, 0, 1]]
def l20r6 : List AOper :=
  [AOper.mk (some 18) (.mv (.tmp 1)) none [], AOper.mk (some 4) (.mv (.tmp 18)) none [0, 0]]
def l20 : AFn :=
  (AFn.mk 19 2 (ACode.seq (ACode.reg l20r0) (ACode.seq (ACode.seq (ACode.reg l20r1) (ACode.block 0 (ACode.loop (ACode.seq (ACode.seq (ACode.reg l20r2) (ACode.cond (.tmp 9) ACode.skip (ACode.exit 0))) (ACode.seq (ACode.block 1 (ACode.seq (ACode.reg l20r3) (ACode.reg l20r4))) (ACode.reg l20r5)))))) (ACode.seq (ACode.reg l20r6) ACode.ret))) [ARes.tmp 4])
theorem l20_eq : lowFn Try.prog 20 = some l20 := by kernel_rfl
def l21r0 : List AOper :=
  [AOper.mk (some 4) (.mv (.const (.int .i64 0))) none []]
def l21r1 : List AOper :=
  [AOper.mk (some 5) (.mv (.const (.int .i64 0))) none []]
def l21r2 : List AOper :=
  [AOper.mk (some 6) (.mv (.tmp 5)) none [], AOper.mk (some 7) (.mv (.tmp 0)) none [], AOper.mk (some 8) (.len (.tmp 7)) none [1], AOper.mk (some 9) (.bin .lss (.tmp 6) (.tmp 8)) none [0, 2]]
def l21r3 : List AOper :=
  [AOper.mk (some 12) (.mv (.tmp 0)) none [], AOper.mk (some 13) (.mv (.tmp 5)) none [], AOper.mk (some 14) (.idxA 1 (.tmp 12) (.tmp 13)) none [0, 1], AOper.mk (some 15) (.load false 1 (.tmp 14)) none [2], AOper.mk (some 16) (.mv (.tmp 1)) none [], AOper.mk (some 17) (.bin .neq (.tmp 15) (.tmp 16)) none [3, 4]]
def l21r4 : List AOper :=
  [AOper.mk (some 4) (.mv (.const (.int .i64 (-1)))) none []]
def l21r5 : List AOper :=
  [AOper.mk (some 18) (.mv (.tmp 1)) none [], AOper.mk (some 19) (.bin .add (.tmp 18) (.const (.int .i64 1))) none [0], AOper.mk (some 1) (.mv (.tmp 19)) none [1, 0, 1]]
def l21r6 : List AOper :=
  [AOper.mk (some 10) (.mv (.tmp 5)) none [], AOper.mk (some 11) (.bin .add (.tmp 10) (.const (.int .i64 1))) none [0], AOper.mk (some 5) (.mv (.tmp 11)) none [1, 0, 1]]
def l21r7 : List AOper :=
  [AOper.mk (some 20) (.mv (.tmp 1)) none [], AOper.mk (some 4) (.mv (.tmp 20)) none [0, 0]]
def l21 : AFn :=
  (AFn.mk 21 2 (ACode.seq (ACode.reg l21r0) (ACode.seq (ACode.seq (ACode.reg l21r1) (ACode.block 0 (ACode.loop (ACode.seq (ACode.seq (ACode.reg l21r2) (ACode.cond (.tmp 9) ACode.skip (ACode.exit 0))) (ACode.seq (ACode.block 1 (ACode.seq (ACode.seq (ACode.reg l21r3) (ACode.cond (.tmp 17) (ACode.seq (ACode.reg l21r4) ACode.ret) ACode.skip)) (ACode.reg l21r5))) (ACode.reg l21r6)))))) (ACode.seq (ACode.reg l21r7) ACode.ret))) [ARes.tmp 4])
theorem l21_eq : lowFn Try.prog 21 = some l21 := by kernel_rfl
def l32r0 : List AOper :=
  [AOper.mk (some 6) (.mv (.const (.bool false))) none []]
def l32r1 : List AOper :=
  [AOper.mk (some 7) (.mv (.tmp 1)) none [], AOper.mk (some 8) (.mv (.tmp 0)) none [], AOper.mk (some 9) (.bin .leq (.tmp 7) (.tmp 8)) none [0, 1], AOper.mk (some 10) (.mv (.tmp 9)) none [2], AOper.mk (some 11) (.mv (.tmp 0)) (some (10, true)) [3], AOper.mk (some 12) (.mv (.tmp 2)) (some (10, true)) [3], AOper.mk (some 13) (.bin .leq (.tmp 11) (.tmp 12)) (some (10, true)) [4, 5, 3], AOper.mk (some 14) (.pick (.tmp 10) (.tmp 13) (.const (.bool false))) none [3, 6], AOper.mk (some 6) (.mv (.tmp 14)) none [7, 3, 0, 1, 2, 3, 4, 5, 6, 7]]
def l32 : AFn :=
  (AFn.mk 15 3 (ACode.seq (ACode.reg l32r0) (ACode.seq (ACode.reg l32r1) ACode.ret)) [ARes.tmp 6])
theorem l32_eq : lowFn Try.prog 32 = some l32 := by kernel_rfl
def l36r0 : List AOper :=
  [AOper.mk (some 4) (.mv (.const (.bool false))) none []]
def l36r1 : List AOper :=
  [AOper.mk (some 5) (.mv (.tmp 0)) none [], AOper.mk (some 6) (.bin .leq (.const (.int .i64 0)) (.tmp 5)) none [0], AOper.mk (some 7) (.mv (.tmp 6)) none [1], AOper.mk (some 8) (.mv (.tmp 0)) (some (7, true)) [2], AOper.mk (some 9) (.mv (.tmp 1)) (some (7, true)) [2], AOper.mk (some 10) (.bin .leq (.tmp 8) (.tmp 9)) (some (7, true)) [3, 4, 2], AOper.mk (some 11) (.pick (.tmp 7) (.tmp 10) (.const (.bool false))) none [2, 5], AOper.mk (some 4) (.mv (.tmp 11)) none [6, 2, 0, 1, 2, 3, 4, 5, 6]]
def l36 : AFn :=
  (AFn.mk 12 2 (ACode.seq (ACode.reg l36r0) (ACode.seq (ACode.reg l36r1) ACode.ret)) [ARes.tmp 4])
theorem l36_eq : lowFn Try.prog 36 = some l36 := by kernel_rfl
def l40r0 : List AOper :=
  [AOper.mk (some 2) (.mv (.const (.bool false))) none []]
def l40r1 : List AOper :=
  [AOper.mk (some 3) (.mv (.tmp 0)) none [], AOper.mk (some 4) (.len (.tmp 3)) none [0], AOper.mk (some 5) (.bin .leq (.tmp 4) (.const (.int .i64 4))) none [1], AOper.mk (some 6) (.mv (.tmp 5)) none [2], AOper.mk (some 7) (.mv (.tmp 0)) (some (6, true)) [3], AOper.mk (some 8) (.call 59 [.tmp 7, .const (.int .i64 0), .const (.int .i64 60)]) (some (6, true)) [4, 3, 3], AOper.mk (some 9) (.pick (.tmp 6) (.tmp 8) (.const (.bool false))) none [3, 5], AOper.mk (some 10) (.mv (.tmp 9)) none [6, 5], AOper.mk (some 11) (.mv (.tmp 0)) (some (10, true)) [7], AOper.mk (some 12) (.call 60 [.tmp 11]) (some (10, true)) [8, 7, 7], AOper.mk (some 13) (.bin .leq (.tmp 12) (.const (.int .i64 60))) (some (10, true)) [9, 7], AOper.mk (some 14) (.pick (.tmp 10) (.tmp 13) (.const (.bool false))) none [7, 10], AOper.mk (some 2) (.mv (.tmp 14)) none [11, 9, 0, 1, 2, 3, 4, 5, 6, 7, 8, 9, 10, 11]]
def l40 : AFn :=
  (AFn.mk 15 1 (ACode.seq (ACode.reg l40r0) (ACode.seq (ACode.reg l40r1) ACode.ret)) [ARes.tmp 2])
theorem l40_eq : lowFn Try.prog 40 = some l40 := by kernel_rfl
def l41r0 : List AOper :=
  [AOper.mk (some 4) (.mv (.const (.int .i64 0))) none []]
def l41r1 : List AOper :=
  [AOper.mk (some 5) (.mv (.tmp 1)) none [], AOper.mk (some 6) (.mv (.tmp 0)) none [], AOper.mk (some 7) (.len (.tmp 6)) none [1], AOper.mk (some 8) (.bin .geq (.tmp 5) (.tmp 7)) none [0, 2]]
def l41r2 : List AOper :=
  [AOper.mk (some 4) (.mv (.const (.int .i64 1))) none []]
def l41r3 : List AOper :=
  [AOper.mk (some 9) (.mv (.tmp 0)) none [], AOper.mk (some 10) (.mv (.tmp 0)) none [], AOper.mk (some 11) (.len (.tmp 10)) none [1], AOper.mk (some 12) (.bin .sub (.tmp 11) (.const (.int .i64 1))) none [2], AOper.mk (some 13) (.mv (.tmp 1)) none [], AOper.mk (some 14) (.bin .sub (.tmp 12) (.tmp 13)) none [3, 4], AOper.mk (some 15) (.idxA 1 (.tmp 9) (.tmp 14)) none [0, 5], AOper.mk (some 16) (.load false 1 (.tmp 15)) none [6], AOper.mk (some 4) (.mv (.tmp 16)) none [7, 0, 1, 2, 3, 4, 5, 6, 7]]
def l41 : AFn :=
  (AFn.mk 17 2 (ACode.seq (ACode.reg l41r0) (ACode.seq (ACode.seq (ACode.reg l41r1) (ACode.cond (.tmp 8) (ACode.seq (ACode.reg l41r2) ACode.ret) ACode.skip)) (ACode.seq (ACode.reg l41r3) ACode.ret))) [ARes.tmp 4])
theorem l41_eq : lowFn Try.prog 41 = some l41 := by kernel_rfl
def l42r0 : List AOper :=
  [AOper.mk (some 2) (.mv (.const (.bool false))) none []]
def l42r1 : List AOper :=
  [AOper.mk (some 5) (.mv (.tmp 0)) none [], AOper.mk (some 6) (.len (.tmp 5)) none [0], AOper.mk (some 7) (.bin .gtr (.tmp 6) (.const (.int .i64 4))) none [1]]
def l42r2 : List AOper :=
  [AOper.mk (some 2) (.mv (.const (.bool false))) none []]
def l42r3 : List AOper :=
  [AOper.mk (some 8) (.mv (.tmp 0)) none [], AOper.mk (some 9) (.len (.tmp 8)) none [0], AOper.mk (some 10) (.mv (.const (.int .i64 0))) none []]
def l42r4 : List AOper :=
  [AOper.mk (some 11) (.bin .lss (.tmp 10) (.tmp 9)) none []]
def l42r5 : List AOper :=
  [AOper.mk (some 12) (.idxA 1 (.tmp 8) (.tmp 10)) none [], AOper.mk (some 13) (.load false 1 (.tmp 12)) none [0], AOper.mk (some 4) (.mv (.tmp 13)) none [1, 0, 1]]
def l42r6 : List AOper :=
  [AOper.mk (some 14) (.mv (.tmp 4)) none [], AOper.mk (some 15) (.call 36 [.tmp 14, .const (.int .i64 60)]) none [0], AOper.mk (some 16) (.un .not (.tmp 15)) none [1]]
def l42r7 : List AOper :=
  [AOper.mk (some 2) (.mv (.const (.bool false))) none []]
def l42r8 : List AOper :=
  [AOper.mk (some 17) (.bin .add (.tmp 10) (.const (.int .i64 1))) none [], AOper.mk (some 10) (.mv (.tmp 17)) none [0]]
def l42r9 : List AOper :=
  [AOper.mk (some 18) (.mv (.tmp 0)) none [], AOper.mk (some 19) (.call 69 [.tmp 18]) none [0], AOper.mk (some 20) (.bin .leq (.tmp 19) (.const (.int .i64 60))) none [1], AOper.mk (some 2) (.mv (.tmp 20)) none [2, 1, 0, 1, 2]]
def l42 : AFn :=
  (AFn.mk 21 1 (ACode.seq (ACode.reg l42r0) (ACode.seq (ACode.seq (ACode.reg l42r1) (ACode.cond (.tmp 7) (ACode.seq (ACode.reg l42r2) ACode.ret) ACode.skip)) (ACode.seq (ACode.seq (ACode.reg l42r3) (ACode.block 0 (ACode.loop (ACode.seq (ACode.reg l42r4) (ACode.seq (ACode.cond (.tmp 11) ACode.skip (ACode.exit 0)) (ACode.seq (ACode.block 1 (ACode.seq (ACode.reg l42r5) (ACode.seq (ACode.reg l42r6) (ACode.cond (.tmp 16) (ACode.seq (ACode.reg l42r7) ACode.ret) ACode.skip)))) (ACode.reg l42r8))))))) (ACode.seq (ACode.reg l42r9) ACode.ret)))) [ARes.tmp 2])
theorem l42_eq : lowFn Try.prog 42 = some l42 := by kernel_rfl
def l43r0 : List AOper :=
  [AOper.mk (some 4) (.mv (.const (.slice none 0 0))) none []]
def l43r1 : List AOper :=
  [AOper.mk (some 5) (.bslice 1 [.int .i64 0] [(0, .const (.int .i64 1))] 1) none [], AOper.mk (some 6) (.mv (.tmp 1)) none [], AOper.mk (some 7) (.mv (.tmp 0)) none [], AOper.mk (some 8) (.len (.tmp 7)) none [2], AOper.mk (some 9) (.bin .sub (.tmp 6) (.tmp 8)) none [1, 3], AOper.mk (some 10) (.call 71 [.tmp 5, .tmp 9]) none [0, 4], AOper.mk (some 11) (.mv (.tmp 0)) none [], AOper.mk (some 12) (.bslice 1 [.slice none 0 0] [(0, .tmp 10), (1, .tmp 11)] 2) none [5, 6], AOper.mk (some 13) (.call 70 [.tmp 12]) none [7, 5], AOper.mk (some 4) (.mv (.tmp 13)) none [8, 8, 0, 1, 2, 3, 4, 5, 6, 7, 8]]
def l43 : AFn :=
  (AFn.mk 14 2 (ACode.seq (ACode.reg l43r0) (ACode.seq (ACode.reg l43r1) ACode.ret)) [ARes.tmp 4])
theorem l43_eq : lowFn Try.prog 43 = some l43 := by kernel_rfl
def l44r0 : List AOper :=
  [AOper.mk (some 4) (.mv (.const (.int .i64 0))) none [], AOper.mk (some 5) (.mv (.const (.bool false))) none [0]]
def l44r1 : List AOper :=
  [AOper.mk (some 6) (.mv (.tmp 0)) none [], AOper.mk (some 7) (.bin .eql (.tmp 6) (.const (.int .i64 1))) none [0]]
def l44r2 : List AOper :=
  [AOper.mk (some 8) (.mv (.tmp 1)) none [], AOper.mk (some 4) (.mv (.tmp 8)) none [0, 0], AOper.mk (some 5) (.mv (.const (.bool true))) none [1, 0, 1]]
def l44r3 : List AOper :=
  [AOper.mk (some 9) (.mv (.tmp 0)) none [], AOper.mk (some 10) (.mv (.tmp 1)) none [], AOper.mk (some 11) (.mv (.tmp 0)) none [], AOper.mk (some 12) (.bin .eql (.tmp 10) (.tmp 11)) none [1, 2], AOper.mk (some 13) (.mv (.tmp 12)) none [3], AOper.mk (some 14) (.mv (.tmp 1)) (some (13, false)) [4], AOper.mk (some 15) (.bin .eql (.tmp 14) (.const (.int .i64 1))) (some (13, false)) [5, 4], AOper.mk (some 16) (.pick (.tmp 13) (.const (.bool true)) (.tmp 15)) none [4, 6], AOper.mk (some 4) (.mv (.tmp 9)) none [0, 4, 0], AOper.mk (some 5) (.mv (.tmp 16)) none [7, 8, 0, 1, 2, 3, 4, 5, 6, 7, 8]]
def l44 : AFn :=
  (AFn.mk 17 2 (ACode.seq (ACode.reg l44r0) (ACode.seq (ACode.seq (ACode.reg l44r1) (ACode.cond (.tmp 7) (ACode.seq (ACode.reg l44r2) ACode.ret) ACode.skip)) (ACode.seq (ACode.reg l44r3) ACode.ret))) [ARes.tmp 4, ARes.tmp 5])
theorem l44_eq : lowFn Try.prog 44 = some l44 := by kernel_rfl
def l59r0 : List AOper :=
  [AOper.mk (some 6) (.mv (.const (.bool false))) none []]
def l59r1 : List AOper :=
  [AOper.mk (some 7) (.mv (.const (.int .i64 0))) none []]
def l59r2 : List AOper :=
  [AOper.mk (some 8) (.mv (.tmp 7)) none [], AOper.mk (some 9) (.mv (.tmp 0)) none [], AOper.mk (some 10) (.len (.tmp 9)) none [1], AOper.mk (some 11) (.bin .lss (.tmp 8) (.tmp 10)) none [0, 2]]
def l59r3 : List AOper :=
  [AOper.mk (some 14) (.mv (.tmp 0)) none [], AOper.mk (some 15) (.mv (.tmp 7)) none [], AOper.mk (some 16) (.idxA 1 (.tmp 14) (.tmp 15)) none [0, 1], AOper.mk (some 17) (.load false 1 (.tmp 16)) none [2], AOper.mk (some 18) (.mv (.tmp 1)) none [], AOper.mk (some 19) (.mv (.tmp 2)) none [], AOper.mk (some 20) (.call 32 [.tmp 17, .tmp 18, .tmp 19]) none [3, 4, 5], AOper.mk (some 21) (.un .not (.tmp 20)) none [6]]
def l59r4 : List AOper :=
  [AOper.mk (some 6) (.mv (.const (.bool false))) none []]
def l59r5 : List AOper :=
  [AOper.mk (some 12) (.mv (.tmp 7)) none [], AOper.mk (some 13) (.bin .add (.tmp 12) (.const (.int .i64 1))) none [0], AOper.mk (some 7) (.mv (.tmp 13)) none [1, 0, 1]]
def l59r6 : List AOper :=
  [AOper.mk (some 6) (.mv (.const (.bool true))) none []]
def l59 : AFn :=
  (AFn.mk 22 3 (ACode.seq (ACode.reg l59r0) (ACode.seq (ACode.seq (ACode.reg l59r1) (ACode.block 0 (ACode.loop (ACode.seq (ACode.seq (ACode.reg l59r2) (ACode.cond (.tmp 11) ACode.skip (ACode.exit 0))) (ACode.seq (ACode.block 1 (ACode.seq (ACode.reg l59r3) (ACode.cond (.tmp 21) (ACode.seq (ACode.reg l59r4) ACode.ret) ACode.skip))) (ACode.reg l59r5)))))) (ACode.seq (ACode.reg l59r6) ACode.ret))) [ARes.tmp 6])
theorem l59_eq : lowFn Try.prog 59 = some l59 := by kernel_rfl
def l60r0 : List AOper :=
  [AOper.mk (some 2) (.mv (.const (.int .i64 0))) none []]
def l60r1 : List AOper :=
  [AOper.mk (some 3) (.mv (.const (.int .i64 1))) none []]
def l60r2 : List AOper :=
  [AOper.mk (some 4) (.mv (.const (.int .i64 0))) none []]
def l60r3 : List AOper :=
  [AOper.mk (some 5) (.mv (.tmp 4)) none [], AOper.mk (some 6) (.mv (.tmp 0)) none [], AOper.mk (some 7) (.len (.tmp 6)) none [1], AOper.mk (some 8) (.bin .lss (.tmp 5) (.tmp 7)) none [0, 2]]
def l60r4 : List AOper :=
  [AOper.mk (some 11) (.mv (.tmp 3)) none [], AOper.mk (some 12) (.mv (.tmp 0)) none [], AOper.mk (some 13) (.mv (.tmp 4)) none [], AOper.mk (some 14) (.idxA 1 (.tmp 12) (.tmp 13)) none [1, 2], AOper.mk (some 15) (.load false 1 (.tmp 14)) none [3], AOper.mk (some 16) (.bin .mul (.tmp 11) (.tmp 15)) none [0, 4], AOper.mk (some 3) (.mv (.tmp 16)) none [5, 0, 1, 2, 3, 4, 5]]
def l60r5 : List AOper :=
  [AOper.mk (some 9) (.mv (.tmp 4)) none [], AOper.mk (some 10) (.bin .add (.tmp 9) (.const (.int .i64 1))) none [0], AOper.mk (some 4) (.mv (.tmp 10)) none [1, 0, 1]]
def l60r6 : List AOper :=
  [AOper.mk (some 17) (.mv (.tmp 3)) none [], AOper.mk (some 2) (.mv (.tmp 17)) none [0, 0]]
def l60 : AFn :=
  (AFn.mk 18 1 (ACode.seq (ACode.reg l60r0) (ACode.seq (ACode.reg l60r1) (ACode.seq (ACode.seq (ACode.reg l60r2) (ACode.block 0 (ACode.loop (ACode.seq (ACode.seq (ACode.reg l60r3) (ACode.cond (.tmp 8) ACode.skip (ACode.exit 0))) (ACode.seq (ACode.block 1 (ACode.reg l60r4)) (ACode.reg l60r5)))))) (ACode.seq (ACode.reg l60r6) ACode.ret)))) [ARes.tmp 2])
theorem l60_eq : lowFn Try.prog 60 = some l60 := by kernel_rfl
def l69r0 : List AOper :=
  [AOper.mk (some 2) (.mv (.const (.int .i64 0))) none []]
def l69r1 : List AOper :=
  [AOper.mk (some 3) (.mv (.const (.int .i64 1))) none []]
def l69r2 : List AOper :=
  [AOper.mk (some 6) (.mv (.tmp 0)) none [], AOper.mk (some 7) (.len (.tmp 6)) none [0], AOper.mk (some 8) (.mv (.const (.int .i64 0))) none []]
def l69r3 : List AOper :=
  [AOper.mk (some 9) (.bin .lss (.tmp 8) (.tmp 7)) none []]
def l69r4 : List AOper :=
  [AOper.mk (some 10) (.idxA 1 (.tmp 6) (.tmp 8)) none [], AOper.mk (some 11) (.load false 1 (.tmp 10)) none [0], AOper.mk (some 5) (.mv (.tmp 11)) none [1, 0, 1]]
def l69r5 : List AOper :=
  [AOper.mk (some 12) (.mv (.tmp 3)) none [], AOper.mk (some 13) (.mv (.tmp 5)) none [], AOper.mk (some 14) (.bin .mul (.tmp 12) (.tmp 13)) none [0, 1], AOper.mk (some 3) (.mv (.tmp 14)) none [2, 0, 1, 2]]
def l69r6 : List AOper :=
  [AOper.mk (some 15) (.bin .add (.tmp 8) (.const (.int .i64 1))) none [], AOper.mk (some 8) (.mv (.tmp 15)) none [0]]
def l69r7 : List AOper :=
  [AOper.mk (some 16) (.mv (.tmp 3)) none [], AOper.mk (some 2) (.mv (.tmp 16)) none [0, 0]]
def l69 : AFn :=
  (AFn.mk 17 1 (ACode.seq (ACode.reg l69r0) (ACode.seq (ACode.reg l69r1) (ACode.seq (ACode.seq (ACode.reg l69r2) (ACode.block 0 (ACode.loop (ACode.seq (ACode.reg l69r3) (ACode.seq (ACode.cond (.tmp 9) ACode.skip (ACode.exit 0)) (ACode.seq (ACode.block 1 (ACode.seq (ACode.reg l69r4) (ACode.reg l69r5))) (ACode.reg l69r6))))))) (ACode.seq (ACode.reg l69r7) ACode.ret)))) [ARes.tmp 2])
theorem l69_eq : lowFn Try.prog 69 = some l69 := by kernel_rfl
def l70r0 : List AOper :=
  [AOper.mk (some 2) (.mv (.const (.slice none 0 0))) none []]
def l70r1 : List AOper :=
  [AOper.mk (some 3) (.mv (.const (.int .i64 0))) none []]
def l70r2 : List AOper :=
  [AOper.mk (some 9) (.mv (.tmp 0)) none [], AOper.mk (some 10) (.len (.tmp 9)) none [0], AOper.mk (some 11) (.mv (.const (.int .i64 0))) none []]
def l70r3 : List AOper :=
  [AOper.mk (some 12) (.bin .lss (.tmp 11) (.tmp 10)) none []]
def l70r4 : List AOper :=
  [AOper.mk (some 13) (.idxA 1 (.tmp 9) (.tmp 11)) none [], AOper.mk (some 14) (.load false 1 (.tmp 13)) none [0], AOper.mk (some 5) (.mv (.tmp 14)) none [1, 0, 1]]
def l70r5 : List AOper :=
  [AOper.mk (some 15) (.mv (.tmp 3)) none [], AOper.mk (some 16) (.mv (.tmp 5)) none [], AOper.mk (some 17) (.len (.tmp 16)) none [1], AOper.mk (some 18) (.bin .add (.tmp 15) (.tmp 17)) none [0, 2], AOper.mk (some 3) (.mv (.tmp 18)) none [3, 0, 1, 2, 3]]
def l70r6 : List AOper :=
  [AOper.mk (some 19) (.mv (.tmp 3)) none [], AOper.mk (some 20) (.bin .lss (.tmp 19) (.const (.int .i64 0))) none [0]]
def l70r7 : List AOper :=
  [AOper.mk (some 21) (.raw (Op.makeInterface 9 (.const (.string (ByteArray.mk (Array.mk [(108 : UInt8), (101 : UInt8), (110 : UInt8), (32 : UInt8), (111 : UInt8), (117 : UInt8), (116 : UInt8), (32 : UInt8), (111 : UInt8), (102 : UInt8), (32 : UInt8), (114 : UInt8), (97 : UInt8), (110 : UInt8), (103 : UInt8), (101 : UInt8)])))))) none [], AOper.mk none (.raw (Op.panic (.tmp 21))) none [0]]
def l70r8 : List AOper :=
  [AOper.mk (some 22) (.bin .add (.tmp 11) (.const (.int .i64 1))) none [], AOper.mk (some 11) (.mv (.tmp 22)) none [0]]
def l70r9 : List AOper :=
  [AOper.mk (some 23) (.mv (.tmp 3)) none [], AOper.mk (some 24) (.call 90 [.const (.slice none 0 0), .tmp 23]) none [0], AOper.mk (some 6) (.mv (.tmp 24)) none [1, 1, 0, 1]]
def l70r10 : List AOper :=
  [AOper.mk (some 25) (.mv (.tmp 0)) none [], AOper.mk (some 26) (.len (.tmp 25)) none [0], AOper.mk (some 27) (.mv (.const (.int .i64 0))) none []]
def l70r11 : List AOper :=
  [AOper.mk (some 28) (.bin .lss (.tmp 27) (.tmp 26)) none []]
def l70r12 : List AOper :=
  [AOper.mk (some 29) (.idxA 1 (.tmp 25) (.tmp 27)) none [], AOper.mk (some 30) (.load false 1 (.tmp 29)) none [0], AOper.mk (some 8) (.mv (.tmp 30)) none [1, 0, 1]]
def l70r13 : List AOper :=
  [AOper.mk (some 31) (.mv (.tmp 6)) none [], AOper.mk (some 32) (.mv (.tmp 8)) none [], AOper.mk (some 33) (.append 1 (.tmp 31) (.tmp 32)) none [0, 1], AOper.mk (some 6) (.mv (.tmp 33)) none [2, 2, 0, 1, 2]]
def l70r14 : List AOper :=
  [AOper.mk (some 34) (.bin .add (.tmp 27) (.const (.int .i64 1))) none [], AOper.mk (some 27) (.mv (.tmp 34)) none [0]]
def l70r15 : List AOper :=
  [AOper.mk (some 35) (.mv (.tmp 6)) none [], AOper.mk (some 2) (.mv (.tmp 35)) none [0, 0]]
def l70 : AFn :=
  (AFn.mk 36 1 (ACode.seq (ACode.reg l70r0) (ACode.seq (ACode.reg l70r1) (ACode.seq (ACode.seq (ACode.reg l70r2) (ACode.block 0 (ACode.loop (ACode.seq (ACode.reg l70r3) (ACode.seq (ACode.cond (.tmp 12) ACode.skip (ACode.exit 0)) (ACode.seq (ACode.block 1 (ACode.seq (ACode.reg l70r4) (ACode.seq (ACode.reg l70r5) (ACode.seq (ACode.reg l70r6) (ACode.cond (.tmp 20) (ACode.reg l70r7) ACode.skip))))) (ACode.reg l70r8))))))) (ACode.seq (ACode.reg l70r9) (ACode.seq (ACode.seq (ACode.reg l70r10) (ACode.block 2 (ACode.loop (ACode.seq (ACode.reg l70r11) (ACode.seq (ACode.cond (.tmp 28) ACode.skip (ACode.exit 2)) (ACode.seq (ACode.block 3 (ACode.seq (ACode.reg l70r12) (ACode.reg l70r13))) (ACode.reg l70r14))))))) (ACode.seq (ACode.reg l70r15) ACode.ret)))))) [ARes.tmp 2])
theorem l70_eq : lowFn Try.prog 70 = some l70 := by kernel_rfl
def l71r0 : List AOper :=
  [AOper.mk (some 4) (.mv (.const (.slice none 0 0))) none []]
def l71r1 : List AOper :=
  [AOper.mk (some 9) (.mv (.tmp 1)) none [], AOper.mk (some 10) (.bin .lss (.tmp 9) (.const (.int .i64 0))) none [0]]
def l71r2 : List AOper :=
  [AOper.mk (some 11) (.raw (Op.makeInterface 9 (.const (.string (ByteArray.mk (Array.mk [(99 : UInt8), (97 : UInt8), (110 : UInt8), (110 : UInt8), (111 : UInt8), (116 : UInt8), (32 : UInt8), (98 : UInt8), (101 : UInt8), (32 : UInt8), (110 : UInt8), (101 : UInt8), (103 : UInt8), (97 : UInt8), (116 : UInt8), (105 : UInt8), (118 : UInt8), (101 : UInt8)])))))) none [], AOper.mk none (.raw (Op.panic (.tmp 11))) none [0]]
def l71r3 : List AOper :=
  [AOper.mk (some 13) (.mv (.tmp 0)) none [], AOper.mk (some 14) (.len (.tmp 13)) none [0], AOper.mk (some 15) (.conv .u64 (.tmp 14)) none [1], AOper.mk (some 16) (.mv (.tmp 1)) none [], AOper.mk (some 17) (.conv .u64 (.tmp 16)) none [3], AOper.mk (some 18) (.call 74 [.tmp 15, .tmp 17]) none [2, 4], AOper.mk (some 12) (.mv (.tmp 18)) none [5], AOper.mk (some 19) (.extract (.tmp 12) 0) none [6], AOper.mk (some 20) (.extract (.tmp 12) 1) none [6], AOper.mk (some 5) (.mv (.tmp 19)) none [7, 5, 0, 1, 2, 3, 4, 5, 6, 7], AOper.mk (some 6) (.mv (.tmp 20)) none [8, 9, 0, 1, 2, 3, 4, 5, 6, 7, 8, 9]]
def l71r4 : List AOper :=
  [AOper.mk (some 21) (.mv (.tmp 5)) none [], AOper.mk (some 22) (.bin .gtr (.tmp 21) (.const (.int .u64 0))) none [0], AOper.mk (some 23) (.mv (.tmp 22)) none [1], AOper.mk (some 24) (.mv (.tmp 6)) (some (23, false)) [2], AOper.mk (some 25) (.bin .gtr (.tmp 24) (.const (.int .u64 9223372036854775807))) (some (23, false)) [3, 2], AOper.mk (some 26) (.pick (.tmp 23) (.const (.bool true)) (.tmp 25)) none [2, 4]]
def l71r5 : List AOper :=
  [AOper.mk (some 27) (.raw (Op.makeInterface 9 (.const (.string (ByteArray.mk (Array.mk [(116 : UInt8), (104 : UInt8), (101 : UInt8), (32 : UInt8), (114 : UInt8), (101 : UInt8), (115 : UInt8), (117 : UInt8), (108 : UInt8), (116 : UInt8), (32 : UInt8), (111 : UInt8), (102 : UInt8), (32 : UInt8), (40 : UInt8), (108 : UInt8), (101 : UInt8), (110 : UInt8), (40 : UInt8), (120 : UInt8), (41 : UInt8), (32 : UInt8), (42 : UInt8), (32 : UInt8), (99 : UInt8), (111 : UInt8), (117 : UInt8), (110 : UInt8), (116 : UInt8), (41 : UInt8), (32 : UInt8), (111 : UInt8), (118 : UInt8), (101 : UInt8), (114 : UInt8), (102 : UInt8), (108 : UInt8), (111 : UInt8), (119 : UInt8), (115 : UInt8)])))))) none [], AOper.mk none (.raw (Op.panic (.tmp 27))) none [0]]
def l71r6 : List AOper :=
  [AOper.mk (some 28) (.mv (.tmp 6)) none [], AOper.mk (some 29) (.conv .i64 (.tmp 28)) none [0], AOper.mk (some 30) (.mkslice 1 [.int .i64 0] (.tmp 29) (.tmp 29)) none [1, 1], AOper.mk (some 7) (.mv (.tmp 30)) none [2, 0, 1, 2]]
def l71r7 : List AOper :=
  [AOper.mk (some 31) (.mv (.tmp 7)) none [], AOper.mk (some 32) (.mv (.tmp 0)) none [], AOper.mk (some 33) (.cpy 1 (.tmp 31) (.tmp 32)) none [0, 1], AOper.mk (some 8) (.mv (.tmp 33)) none [2, 2, 0, 1, 2]]
def l71r8 : List AOper :=
  [AOper.mk (some 34) (.mv (.tmp 8)) none [], AOper.mk (some 35) (.mv (.tmp 7)) none [], AOper.mk (some 36) (.len (.tmp 35)) none [1], AOper.mk (some 37) (.bin .lss (.tmp 34) (.tmp 36)) none [0, 2]]
def l71r9a : List AOper :=
  [AOper.mk (some 38) (.mv (.tmp 8)) none [], AOper.mk (some 39) (.mv (.tmp 7)) none [], AOper.mk (some 40) (.mv (.tmp 8)) none [], AOper.mk (some 41) (.slice 1 (.tmp 39) (some (.tmp 40)) none) none [1, 2], AOper.mk (some 42) (.mv (.tmp 7)) none [], AOper.mk (some 43) (.mv (.tmp 8)) none [], AOper.mk (some 44) (.slice 1 (.tmp 42) none (some (.tmp 43))) none [4, 5], AOper.mk (some 45) (.cpy 1 (.tmp 41) (.tmp 44)) none [3, 6]]
def l71r9b : List AOper :=
  [AOper.mk (some 46) (.bin .add (.tmp 38) (.tmp 45)) none [0, 7], AOper.mk (some 8) (.mv (.tmp 46)) none [8, 7, 0, 1, 2, 3, 4, 5, 6, 7, 8]]
def l71r9 : List AOper := l71r9a ++ l71r9b
def l71r10 : List AOper :=
  [AOper.mk (some 47) (.mv (.tmp 7)) none [], AOper.mk (some 4) (.mv (.tmp 47)) none [0, 0]]
def l71 : AFn :=
  (AFn.mk 48 2 (ACode.seq (ACode.reg l71r0) (ACode.seq (ACode.seq (ACode.reg l71r1) (ACode.cond (.tmp 10) (ACode.reg l71r2) ACode.skip)) (ACode.seq (ACode.reg l71r3) (ACode.seq (ACode.seq (ACode.reg l71r4) (ACode.cond (.tmp 26) (ACode.reg l71r5) ACode.skip)) (ACode.seq (ACode.reg l71r6) (ACode.seq (ACode.reg l71r7) (ACode.seq (ACode.block 0 (ACode.loop (ACode.seq (ACode.seq (ACode.reg l71r8) (ACode.cond (.tmp 37) ACode.skip (ACode.exit 0))) (ACode.block 1 (ACode.draw l71r9))))) (ACode.seq (ACode.reg l71r10) ACode.ret)))))))) [ARes.tmp 4])
theorem l71_eq : lowFn Try.prog 71 = some l71 := by kernel_rfl
def l74r0 : List AOper :=
  [AOper.mk (some 4) (.mv (.const (.int .u64 0))) none [], AOper.mk (some 5) (.mv (.const (.int .u64 0))) none [0]]
def l74r1 : List AOper :=
  [AOper.mk (some 11) (.mv (.tmp 0)) none [], AOper.mk (some 12) (.conv .u32 (.tmp 11)) none [0], AOper.mk (some 13) (.mv (.tmp 1)) none [], AOper.mk (some 14) (.conv .u32 (.tmp 13)) none [2], AOper.mk (some 15) (.call 91 [.tmp 12, .tmp 14]) none [1, 3], AOper.mk (some 10) (.mv (.tmp 15)) none [4], AOper.mk (some 16) (.extract (.tmp 10) 0) none [5], AOper.mk (some 17) (.extract (.tmp 10) 1) none [5], AOper.mk (some 6) (.mv (.tmp 16)) none [6, 4, 0, 1, 2, 3, 4, 5, 6], AOper.mk (some 7) (.mv (.tmp 17)) none [7, 8, 0, 1, 2, 3, 4, 5, 6, 7, 8]]
def l74r2 : List AOper :=
  [AOper.mk (some 18) (.mv (.tmp 6)) none [], AOper.mk (some 19) (.conv .u64 (.tmp 18)) none [0], AOper.mk (some 20) (.mv (.tmp 7)) none [], AOper.mk (some 21) (.conv .u64 (.tmp 20)) none [2], AOper.mk (some 4) (.mv (.tmp 19)) none [1, 0, 1], AOper.mk (some 5) (.mv (.tmp 21)) none [3, 4, 0, 1, 2, 3, 4]]
def l74r3 : List AOper :=
  [AOper.mk (some 23) (.mv (.tmp 0)) none [], AOper.mk (some 24) (.mv (.tmp 1)) none [], AOper.mk (some 25) (.call 92 [.tmp 23, .tmp 24]) none [0, 1], AOper.mk (some 22) (.mv (.tmp 25)) none [2], AOper.mk (some 26) (.extract (.tmp 22) 0) none [3], AOper.mk (some 27) (.extract (.tmp 22) 1) none [3], AOper.mk (some 8) (.mv (.tmp 26)) none [4, 2, 0, 1, 2, 3, 4], AOper.mk (some 9) (.mv (.tmp 27)) none [5, 6, 0, 1, 2, 3, 4, 5, 6]]
def l74r4 : List AOper :=
  [AOper.mk (some 28) (.mv (.tmp 8)) none [], AOper.mk (some 29) (.mv (.tmp 9)) none [], AOper.mk (some 4) (.mv (.tmp 28)) none [0, 0], AOper.mk (some 5) (.mv (.tmp 29)) none [1, 2, 0, 1, 2]]
def l74 : AFn :=
  (AFn.mk 30 2 (ACode.seq (ACode.reg l74r0) (ACode.seq (ACode.cond (.const (.bool false)) (ACode.seq (ACode.reg l74r1) (ACode.seq (ACode.reg l74r2) ACode.ret)) ACode.skip) (ACode.seq (ACode.reg l74r3) (ACode.seq (ACode.reg l74r4) ACode.ret)))) [ARes.tmp 4, ARes.tmp 5])
theorem l74_eq : lowFn Try.prog 74 = some l74 := by kernel_rfl
def l90r0 : List AOper :=
  [AOper.mk (some 4) (.mv (.const (.slice none 0 0))) none []]
def l90r1 : List AOper :=
  [AOper.mk (some 5) (.mv (.tmp 1)) none [], AOper.mk (some 6) (.bin .lss (.tmp 5) (.const (.int .i64 0))) none [0]]
def l90r2 : List AOper :=
  [AOper.mk (some 7) (.raw (Op.makeInterface 9 (.const (.string (ByteArray.mk (Array.mk [(99 : UInt8), (97 : UInt8), (110 : UInt8), (110 : UInt8), (111 : UInt8), (116 : UInt8), (32 : UInt8), (98 : UInt8), (101 : UInt8), (32 : UInt8), (110 : UInt8), (101 : UInt8), (103 : UInt8), (97 : UInt8), (116 : UInt8), (105 : UInt8), (118 : UInt8), (101 : UInt8)])))))) none [], AOper.mk none (.raw (Op.panic (.tmp 7))) none [0]]
def l90r3 : List AOper :=
  [AOper.mk (some 8) (.mv (.tmp 1)) none [], AOper.mk (some 9) (.mv (.tmp 0)) none [], AOper.mk (some 10) (.raw (Op.call (Call.mk (Callee.builtin Builtin.cap) (Array.mk [.tmp 9]) (Array.mk [22])))) none [1], AOper.mk (some 11) (.mv (.tmp 0)) none [], AOper.mk (some 12) (.len (.tmp 11)) none [3], AOper.mk (some 13) (.bin .sub (.tmp 10) (.tmp 12)) none [2, 4], AOper.mk (some 14) (.bin .sub (.tmp 8) (.tmp 13)) none [0, 5], AOper.mk (some 1) (.mv (.tmp 14)) none [6, 0, 1, 2, 3, 4, 5, 6]]
def l90r4 : List AOper :=
  [AOper.mk (some 15) (.mv (.tmp 1)) none [], AOper.mk (some 16) (.bin .gtr (.tmp 15) (.const (.int .i64 0))) none [0]]
def l90r5 : List AOper :=
  [AOper.mk (some 17) (.mv (.tmp 0)) none [], AOper.mk (some 18) (.mv (.tmp 0)) none [], AOper.mk (some 19) (.raw (Op.call (Call.mk (Callee.builtin Builtin.cap) (Array.mk [.tmp 18]) (Array.mk [22])))) none [1], AOper.mk (some 20) (.slice 1 (.tmp 17) none (some (.tmp 19))) none [0, 2], AOper.mk (some 21) (.mv (.tmp 1)) none [], AOper.mk (some 22) (.raw (Op.call (Call.mk (Callee.builtin Builtin.append) (Array.mk [.tmp 20, .tmp 21]) (Array.mk [22, 3])))) none [3, 4], AOper.mk (some 23) (.mv (.tmp 0)) none [], AOper.mk (some 24) (.len (.tmp 23)) none [6], AOper.mk (some 25) (.slice 1 (.tmp 22) none (some (.tmp 24))) none [5, 7], AOper.mk (some 0) (.mv (.tmp 25)) none [8, 5, 0, 1, 2, 3, 4, 5, 6, 7, 8]]
def l90r6 : List AOper :=
  [AOper.mk (some 26) (.mv (.tmp 0)) none [], AOper.mk (some 4) (.mv (.tmp 26)) none [0, 0]]
def l90 : AFn :=
  (AFn.mk 27 2 (ACode.seq (ACode.reg l90r0) (ACode.seq (ACode.seq (ACode.reg l90r1) (ACode.cond (.tmp 6) (ACode.reg l90r2) ACode.skip)) (ACode.seq (ACode.seq (ACode.reg l90r3) (ACode.seq (ACode.reg l90r4) (ACode.cond (.tmp 16) (ACode.reg l90r5) ACode.skip))) (ACode.seq (ACode.reg l90r6) ACode.ret)))) [ARes.tmp 4])
theorem l90_eq : lowFn Try.prog 90 = some l90 := by kernel_rfl
def l92r0 : List AOper :=
  [AOper.mk (some 4) (.mv (.const (.int .u64 0))) none [], AOper.mk (some 5) (.mv (.const (.int .u64 0))) none [0]]
def l92r1 : List AOper :=
  [AOper.mk (some 14) (.mv (.tmp 0)) none [], AOper.mk (some 15) (.bin .and (.tmp 14) (.const (.int .u64 4294967295))) none [0], AOper.mk (some 6) (.mv (.tmp 15)) none [1, 0, 1]]
def l92r2 : List AOper :=
  [AOper.mk (some 16) (.mv (.tmp 0)) none [], AOper.mk (some 17) (.bin .shr (.tmp 16) (.const (.int .u64 32))) none [0], AOper.mk (some 7) (.mv (.tmp 17)) none [1, 0, 1]]
def l92r3 : List AOper :=
  [AOper.mk (some 18) (.mv (.tmp 1)) none [], AOper.mk (some 19) (.bin .and (.tmp 18) (.const (.int .u64 4294967295))) none [0], AOper.mk (some 8) (.mv (.tmp 19)) none [1, 0, 1]]
def l92r4 : List AOper :=
  [AOper.mk (some 20) (.mv (.tmp 1)) none [], AOper.mk (some 21) (.bin .shr (.tmp 20) (.const (.int .u64 32))) none [0], AOper.mk (some 9) (.mv (.tmp 21)) none [1, 0, 1]]
def l92r5 : List AOper :=
  [AOper.mk (some 22) (.mv (.tmp 6)) none [], AOper.mk (some 23) (.mv (.tmp 8)) none [], AOper.mk (some 24) (.bin .mul (.tmp 22) (.tmp 23)) none [0, 1], AOper.mk (some 10) (.mv (.tmp 24)) none [2, 0, 1, 2]]
def l92r6 : List AOper :=
  [AOper.mk (some 25) (.mv (.tmp 7)) none [], AOper.mk (some 26) (.mv (.tmp 8)) none [], AOper.mk (some 27) (.bin .mul (.tmp 25) (.tmp 26)) none [0, 1], AOper.mk (some 28) (.mv (.tmp 10)) none [], AOper.mk (some 29) (.bin .shr (.tmp 28) (.const (.int .u64 32))) none [3], AOper.mk (some 30) (.bin .add (.tmp 27) (.tmp 29)) none [2, 4], AOper.mk (some 11) (.mv (.tmp 30)) none [5, 0, 1, 2, 3, 4, 5]]
def l92r7 : List AOper :=
  [AOper.mk (some 31) (.mv (.tmp 11)) none [], AOper.mk (some 32) (.bin .and (.tmp 31) (.const (.int .u64 4294967295))) none [0], AOper.mk (some 12) (.mv (.tmp 32)) none [1, 0, 1]]
def l92r8 : List AOper :=
  [AOper.mk (some 33) (.mv (.tmp 11)) none [], AOper.mk (some 34) (.bin .shr (.tmp 33) (.const (.int .u64 32))) none [0], AOper.mk (some 13) (.mv (.tmp 34)) none [1, 0, 1]]
def l92r9 : List AOper :=
  [AOper.mk (some 35) (.mv (.tmp 12)) none [], AOper.mk (some 36) (.mv (.tmp 6)) none [], AOper.mk (some 37) (.mv (.tmp 9)) none [], AOper.mk (some 38) (.bin .mul (.tmp 36) (.tmp 37)) none [1, 2], AOper.mk (some 39) (.bin .add (.tmp 35) (.tmp 38)) none [0, 3], AOper.mk (some 12) (.mv (.tmp 39)) none [4, 0, 1, 2, 3, 4]]
def l92r10 : List AOper :=
  [AOper.mk (some 40) (.mv (.tmp 7)) none [], AOper.mk (some 41) (.mv (.tmp 9)) none [], AOper.mk (some 42) (.bin .mul (.tmp 40) (.tmp 41)) none [0, 1], AOper.mk (some 43) (.mv (.tmp 13)) none [], AOper.mk (some 44) (.bin .add (.tmp 42) (.tmp 43)) none [2, 3], AOper.mk (some 45) (.mv (.tmp 12)) none [], AOper.mk (some 46) (.bin .shr (.tmp 45) (.const (.int .u64 32))) none [5], AOper.mk (some 47) (.bin .add (.tmp 44) (.tmp 46)) none [4, 6], AOper.mk (some 4) (.mv (.tmp 47)) none [7, 0, 1, 2, 3, 4, 5, 6, 7]]
def l92r11 : List AOper :=
  [AOper.mk (some 48) (.mv (.tmp 0)) none [], AOper.mk (some 49) (.mv (.tmp 1)) none [], AOper.mk (some 50) (.bin .mul (.tmp 48) (.tmp 49)) none [0, 1], AOper.mk (some 5) (.mv (.tmp 50)) none [2, 0, 1, 2]]
def l92 : AFn :=
  (AFn.mk 51 2 (ACode.seq (ACode.reg l92r0) (ACode.seq (ACode.reg l92r1) (ACode.seq (ACode.reg l92r2) (ACode.seq (ACode.reg l92r3) (ACode.seq (ACode.reg l92r4) (ACode.seq (ACode.reg l92r5) (ACode.seq (ACode.reg l92r6) (ACode.seq (ACode.reg l92r7) (ACode.seq (ACode.reg l92r8) (ACode.seq (ACode.reg l92r9) (ACode.seq (ACode.reg l92r10) (ACode.seq (ACode.reg l92r11) ACode.ret)))))))))))) [ARes.tmp 4, ARes.tmp 5])
theorem l92_eq : lowFn Try.prog 92 = some l92 := by kernel_rfl
end Go.Proofs.Ytbhkcmiphmaefaa
