import Derived.Test.YtjpgiapplhlpoaaCW3
import Derived.Test.YtjpgiapplhlpoaaProg
import Derived.KernelRfl
set_option maxRecDepth 100000
namespace Go.Proofs.Ytjpgiapplhlpoaa
open Vw Go
def l3r0 : List AOper :=
  [AOper.mk (some 2) (.mv (.const (.bool false))) none []]
def l3r1 : List AOper :=
  [AOper.mk (some 17) (.mv (.tmp 0)) none [], AOper.mk (some 18) (.len (.tmp 17)) none [0], AOper.mk (some 19) (.bin .gtr (.tmp 18) (.const (.int .i64 1048576))) none [1]]
def l3r2 : List AOper :=
  [AOper.mk (some 2) (.mv (.const (.bool true))) none []]
def l3r3 : List AOper :=
  [AOper.mk (some 21) (.mv (.tmp 0)) none [], AOper.mk (some 22) (.call 4 [.tmp 21]) none [0], AOper.mk (some 20) (.mv (.tmp 22)) none [1], AOper.mk (some 23) (.extract (.tmp 20) 0) none [2], AOper.mk (some 24) (.extract (.tmp 20) 1) none [2], AOper.mk (some 3) (.mv (.tmp 23)) none [3, 1, 0, 1, 2, 3], AOper.mk (some 4) (.mv (.tmp 24)) none [4, 5, 0, 1, 2, 3, 4, 5]]
def l3r4 : List AOper :=
  [AOper.mk (some 26) (.mv (.tmp 3)) none [], AOper.mk (some 27) (.mv (.tmp 4)) none [], AOper.mk (some 28) (.call 5 [.tmp 26, .tmp 27]) none [0, 1], AOper.mk (some 25) (.mv (.tmp 28)) none [2], AOper.mk (some 29) (.extract (.tmp 25) 0) none [3], AOper.mk (some 30) (.extract (.tmp 25) 1) none [3], AOper.mk (some 5) (.mv (.tmp 29)) none [4, 2, 0, 1, 2, 3, 4], AOper.mk (some 6) (.mv (.tmp 30)) none [5, 6, 0, 1, 2, 3, 4, 5, 6]]
def l3r5 : List AOper :=
  [AOper.mk (some 32) (.mv (.tmp 3)) none [], AOper.mk (some 33) (.mv (.tmp 4)) none [], AOper.mk (some 34) (.call 6 [.tmp 32, .tmp 33]) none [0, 1], AOper.mk (some 31) (.mv (.tmp 34)) none [2], AOper.mk (some 35) (.extract (.tmp 31) 0) none [3], AOper.mk (some 36) (.extract (.tmp 31) 1) none [3], AOper.mk (some 7) (.mv (.tmp 35)) none [4, 2, 0, 1, 2, 3, 4], AOper.mk (some 8) (.mv (.tmp 36)) none [5, 6, 0, 1, 2, 3, 4, 5, 6]]
def l3r6 : List AOper :=
  [AOper.mk (some 37) (.mv (.tmp 5)) none [], AOper.mk (some 38) (.mv (.tmp 7)) none [], AOper.mk (some 39) (.call 7 [.tmp 37, .tmp 38]) none [0, 1], AOper.mk (some 40) (.un .not (.tmp 39)) none [2], AOper.mk (some 41) (.mv (.tmp 40)) none [3, 2], AOper.mk (some 42) (.mv (.tmp 6)) (some (41, false)) [4], AOper.mk (some 43) (.mv (.tmp 8)) (some (41, false)) [4], AOper.mk (some 44) (.binB .neq (.tmp 42) (.tmp 43)) (some (41, false)) [5, 6, 4], AOper.mk (some 45) (.pick (.tmp 41) (.const (.bool true)) (.tmp 44)) none [4, 7], AOper.mk (some 46) (.mv (.tmp 45)) none [8, 4], AOper.mk (some 47) (.mv (.tmp 6)) (some (46, false)) [9], AOper.mk (some 48) (.un .not (.tmp 47)) (some (46, false)) [10, 9], AOper.mk (some 49) (.pick (.tmp 46) (.const (.bool true)) (.tmp 48)) none [9, 11]]
def l3r7 : List AOper :=
  [AOper.mk (some 50) (.mv (.tmp 5)) none [], AOper.mk (some 51) (.mv (.tmp 7)) none [], AOper.mk (some 52) (.call 7 [.tmp 50, .tmp 51]) none [0, 1], AOper.mk (some 53) (.mv (.tmp 52)) none [2, 2], AOper.mk (some 54) (.mv (.tmp 6)) (some (53, true)) [3], AOper.mk (some 55) (.mv (.tmp 8)) (some (53, true)) [3], AOper.mk (some 56) (.binB .eql (.tmp 54) (.tmp 55)) (some (53, true)) [4, 5, 3], AOper.mk (some 57) (.pick (.tmp 53) (.tmp 56) (.const (.bool false))) none [3, 6], AOper.mk (some 2) (.mv (.tmp 57)) none [7, 3, 0, 1, 2, 3, 4, 5, 6, 7]]
def l3r8 : List AOper :=
  [AOper.mk (some 59) (.mv (.tmp 3)) none [], AOper.mk (some 60) (.call 9 [.tmp 59]) none [0], AOper.mk (some 61) (.mv (.tmp 5)) none [], AOper.mk (some 62) (.call 8 [.tmp 60, .tmp 61]) none [1, 2, 1], AOper.mk (some 58) (.mv (.tmp 62)) none [3], AOper.mk (some 63) (.extract (.tmp 58) 0) none [4], AOper.mk (some 64) (.extract (.tmp 58) 1) none [4], AOper.mk (some 9) (.alloc [.int .i64 0, .slice none 0 0, .slice none 0 0]) none [], AOper.mk none (.store 3 (.tmp 9) (.tmp 63)) none [7, 5, 3, 0, 1, 2, 3, 4, 5, 7], AOper.mk (some 10) (.mv (.tmp 64)) none [6, 8, 0, 1, 2, 3, 4, 5, 6, 7, 8]]
def l3r9 : List AOper :=
  [AOper.mk (some 66) (.mv (.tmp 4)) none [], AOper.mk (some 67) (.call 9 [.tmp 66]) none [0], AOper.mk (some 68) (.mv (.tmp 5)) none [], AOper.mk (some 69) (.call 8 [.tmp 67, .tmp 68]) none [1, 2, 1], AOper.mk (some 65) (.mv (.tmp 69)) none [3], AOper.mk (some 70) (.extract (.tmp 65) 0) none [4], AOper.mk (some 71) (.extract (.tmp 65) 1) none [4], AOper.mk (some 11) (.alloc [.int .i64 0, .slice none 0 0, .slice none 0 0]) none [], AOper.mk none (.store 3 (.tmp 11) (.tmp 70)) none [7, 5, 3, 0, 1, 2, 3, 4, 5, 7], AOper.mk (some 12) (.mv (.tmp 71)) none [6, 8, 0, 1, 2, 3, 4, 5, 6, 7, 8]]
def l3r10 : List AOper :=
  [AOper.mk (some 73) (.mv (.tmp 4)) none [], AOper.mk (some 74) (.mv (.tmp 3)) none [], AOper.mk (some 75) (.call 5 [.tmp 73, .tmp 74]) none [0, 1], AOper.mk (some 72) (.mv (.tmp 75)) none [2], AOper.mk (some 76) (.extract (.tmp 72) 0) none [3], AOper.mk (some 77) (.extract (.tmp 72) 1) none [3], AOper.mk (some 13) (.mv (.tmp 76)) none [4, 2, 0, 1, 2, 3, 4], AOper.mk (some 14) (.mv (.tmp 77)) none [5, 6, 0, 1, 2, 3, 4, 5, 6]]
def l3r11 : List AOper :=
  [AOper.mk (some 79) (.mv (.tmp 5)) none [], AOper.mk (some 80) (.mv (.tmp 5)) none [], AOper.mk (some 81) (.call 5 [.tmp 79, .tmp 80]) none [0, 1], AOper.mk (some 78) (.mv (.tmp 81)) none [2], AOper.mk (some 82) (.extract (.tmp 78) 0) none [3], AOper.mk (some 83) (.extract (.tmp 78) 1) none [3], AOper.mk (some 15) (.mv (.tmp 82)) none [4, 2, 0, 1, 2, 3, 4], AOper.mk (some 16) (.mv (.tmp 83)) none [5, 6, 0, 1, 2, 3, 4, 5, 6]]
def l3r12 : List AOper :=
  [AOper.mk (some 84) (.mv (.tmp 10)) none [], AOper.mk (some 85) (.mv (.tmp 84)) none [0], AOper.mk (some 86) (.mv (.tmp 12)) (some (85, true)) [1], AOper.mk (some 87) (.pick (.tmp 85) (.tmp 86) (.const (.bool false))) none [1, 2], AOper.mk (some 88) (.mv (.tmp 87)) none [3, 1], AOper.mk (some 89) (.mv (.tmp 14)) (some (88, true)) [4], AOper.mk (some 90) (.pick (.tmp 88) (.tmp 89) (.const (.bool false))) none [4, 5], AOper.mk (some 91) (.mv (.tmp 90)) none [6, 4], AOper.mk (some 92) (.mv (.tmp 13)) (some (91, true)) [7], AOper.mk (some 93) (.mv (.tmp 5)) (some (91, true)) [7], AOper.mk (some 94) (.call 7 [.tmp 92, .tmp 93]) (some (91, true)) [8, 9, 7, 7], AOper.mk (some 95) (.pick (.tmp 91) (.tmp 94) (.const (.bool false))) none [7, 10], AOper.mk (some 96) (.mv (.tmp 95)) none [11, 10], AOper.mk (some 97) (.mv (.tmp 16)) (some (96, true)) [12], AOper.mk (some 98) (.pick (.tmp 96) (.tmp 97) (.const (.bool false))) none [12, 13], AOper.mk (some 99) (.mv (.tmp 98)) none [14, 12], AOper.mk (some 100) (.mv (.tmp 15)) (some (99, true)) [15], AOper.mk (some 101) (.mv (.tmp 5)) (some (99, true)) [15], AOper.mk (some 102) (.call 7 [.tmp 100, .tmp 101]) (some (99, true)) [16, 17, 15, 15], AOper.mk (some 103) (.pick (.tmp 99) (.tmp 102) (.const (.bool false))) none [15, 18], AOper.mk (some 2) (.mv (.tmp 103)) none [19, 18, 0, 1, 2, 3, 4, 5, 6, 7, 8, 9, 10, 11, 12, 13, 14, 15, 16, 17, 18, 19]]
def l3 : AFn :=
  (AFn.mk 104 1 (ACode.seq (ACode.reg l3r0) (ACode.seq (ACode.seq (ACode.reg l3r1) (ACode.cond (.tmp 19) (ACode.seq (ACode.reg l3r2) ACode.ret) ACode.skip)) (ACode.seq (ACode.reg l3r3) (ACode.seq (ACode.reg l3r4) (ACode.seq (ACode.reg l3r5) (ACode.seq (ACode.seq (ACode.reg l3r6) (ACode.cond (.tmp 49) (ACode.seq (ACode.reg l3r7) ACode.ret) ACode.skip)) (ACode.seq (ACode.reg l3r8) (ACode.seq (ACode.reg l3r9) (ACode.seq (ACode.reg l3r10) (ACode.seq (ACode.reg l3r11) (ACode.seq (ACode.reg l3r12) ACode.ret))))))))))) [ARes.tmp 2])
theorem l3_eq : lowFn Try.prog 3 = some l3 := by kernel_rfl
def l4r0 : List AOper :=
  [AOper.mk (some 2) (.mv (.const (.slice none 0 0))) none [], AOper.mk (some 3) (.mv (.const (.slice none 0 0))) none [0]]
def l4r1 : List AOper :=
  [AOper.mk (some 8) (.mv (.tmp 0)) none [], AOper.mk (some 9) (.call 10 [.tmp 8]) none [0], AOper.mk (some 4) (.mv (.tmp 9)) none [1, 1, 0, 1]]
def l4r2 : List AOper :=
  [AOper.mk (some 10) (.mv (.tmp 4)) none [], AOper.mk (some 11) (.call 11 [.tmp 10]) none [0], AOper.mk (some 5) (.mv (.tmp 11)) none [1, 1, 0, 1]]
def l4r3 : List AOper :=
  [AOper.mk (some 12) (.mv (.tmp 4)) none [], AOper.mk (some 13) (.call 12 [.tmp 12, .const (.int .i64 3)]) none [0], AOper.mk (some 14) (.bin .eql (.tmp 13) (.const (.int .i64 0))) none [1]]
def l4r4 : List AOper :=
  [AOper.mk (some 15) (.mv (.tmp 5)) none [], AOper.mk (some 16) (.mv (.tmp 4)) none [], AOper.mk (some 17) (.call 11 [.tmp 16]) none [1], AOper.mk (some 2) (.mv (.tmp 15)) none [0, 2, 0], AOper.mk (some 3) (.mv (.tmp 17)) none [2, 3, 0, 1, 2, 3]]
def l4r5 : List AOper :=
  [AOper.mk (some 18) (.mv (.tmp 5)) none [], AOper.mk (some 19) (.call 13 [.tmp 18]) none [0], AOper.mk (some 6) (.mv (.tmp 19)) none [1, 1, 0, 1]]
def l4r6 : List AOper :=
  [AOper.mk (some 7) (.mv (.const (.int .i64 0))) none []]
def l4r7 : List AOper :=
  [AOper.mk (some 20) (.mv (.tmp 7)) none [], AOper.mk (some 21) (.mv (.tmp 6)) none [], AOper.mk (some 22) (.len (.tmp 21)) none [1], AOper.mk (some 23) (.bin .lss (.tmp 20) (.tmp 22)) none [0, 2]]
def l4r8 : List AOper :=
  [AOper.mk (some 26) (.mv (.tmp 4)) none [], AOper.mk (some 27) (.call 12 [.tmp 26, .const (.int .i64 2)]) none [0], AOper.mk (some 28) (.bin .eql (.tmp 27) (.const (.int .i64 0))) none [1]]
def l4r9 : List AOper :=
  [AOper.mk (some 29) (.mv (.tmp 6)) none [], AOper.mk (some 30) (.mv (.tmp 7)) none [], AOper.mk (some 31) (.idxA 1 (.tmp 29) (.tmp 30)) none [0, 1, 0, 1], AOper.mk none (.store 1 (.tmp 31) (.const (.int .i64 1))) none [2, 0, 1]]
def l4r10 : List AOper :=
  [AOper.mk (some 24) (.mv (.tmp 7)) none [], AOper.mk (some 25) (.bin .add (.tmp 24) (.const (.int .i64 1))) none [0], AOper.mk (some 7) (.mv (.tmp 25)) none [1, 0, 1]]
def l4r11 : List AOper :=
  [AOper.mk (some 32) (.mv (.tmp 6)) none [], AOper.mk (some 33) (.len (.tmp 32)) none [0], AOper.mk (some 34) (.bin .gtr (.tmp 33) (.const (.int .i64 0))) none [1], AOper.mk (some 35) (.mv (.tmp 34)) none [2], AOper.mk (some 36) (.mv (.tmp 4)) (some (35, true)) [3], AOper.mk (some 37) (.call 12 [.tmp 36, .const (.int .i64 2)]) (some (35, true)) [4, 3, 3], AOper.mk (some 38) (.bin .eql (.tmp 37) (.const (.int .i64 0))) (some (35, true)) [5, 3], AOper.mk (some 39) (.pick (.tmp 35) (.tmp 38) (.const (.bool false))) none [3, 6]]
def l4r12 : List AOper :=
  [AOper.mk (some 40) (.mv (.tmp 6)) none [], AOper.mk (some 41) (.slice 1 (.tmp 40) (some (.const (.int .i64 1))) none) none [0], AOper.mk (some 6) (.mv (.tmp 41)) none [1, 0, 1]]
def l4r13 : List AOper :=
  [AOper.mk (some 42) (.mv (.tmp 5)) none [], AOper.mk (some 43) (.mv (.tmp 6)) none [], AOper.mk (some 2) (.mv (.tmp 42)) none [0, 0], AOper.mk (some 3) (.mv (.tmp 43)) none [1, 2, 0, 1, 2]]
def l4 : AFn :=
  (AFn.mk 44 1 (ACode.seq (ACode.reg l4r0) (ACode.seq (ACode.reg l4r1) (ACode.seq (ACode.reg l4r2) (ACode.seq (ACode.seq (ACode.reg l4r3) (ACode.cond (.tmp 14) (ACode.seq (ACode.reg l4r4) ACode.ret) ACode.skip)) (ACode.seq (ACode.reg l4r5) (ACode.seq (ACode.seq (ACode.reg l4r6) (ACode.block 0 (ACode.loop (ACode.seq (ACode.seq (ACode.reg l4r7) (ACode.cond (.tmp 23) ACode.skip (ACode.exit 0))) (ACode.seq (ACode.block 1 (ACode.seq (ACode.reg l4r8) (ACode.cond (.tmp 28) (ACode.reg l4r9) ACode.skip))) (ACode.reg l4r10)))))) (ACode.seq (ACode.seq (ACode.reg l4r11) (ACode.cond (.tmp 39) (ACode.reg l4r12) ACode.skip)) (ACode.seq (ACode.reg l4r13) ACode.ret)))))))) [ARes.tmp 2, ARes.tmp 3])
theorem l4_eq : lowFn Try.prog 4 = some l4 := by kernel_rfl
def l5r0 : List AOper :=
  [AOper.mk (some 4) (.mv (.const (.slice none 0 0))) none [], AOper.mk (some 5) (.mv (.const (.bool false))) none [0]]
def l5r1 : List AOper :=
  [AOper.mk (some 10) (.mv (.tmp 0)) none [], AOper.mk (some 11) (.call 14 [.tmp 10]) none [0], AOper.mk (some 12) (.un .not (.tmp 11)) none [1], AOper.mk (some 13) (.mv (.tmp 12)) none [2, 1], AOper.mk (some 14) (.mv (.tmp 1)) (some (13, false)) [3], AOper.mk (some 15) (.call 14 [.tmp 14]) (some (13, false)) [4, 3, 3], AOper.mk (some 16) (.un .not (.tmp 15)) (some (13, false)) [5, 3], AOper.mk (some 17) (.pick (.tmp 13) (.const (.bool true)) (.tmp 16)) none [3, 6]]
def l5r2 : List AOper :=
  [AOper.mk (some 4) (.mv (.const (.slice none 0 0))) none [], AOper.mk (some 5) (.mv (.const (.bool false))) none [0, 0]]
def l5r3 : List AOper :=
  [AOper.mk (some 18) (.mv (.tmp 0)) none [], AOper.mk (some 19) (.len (.tmp 18)) none [0], AOper.mk (some 20) (.mv (.tmp 1)) none [], AOper.mk (some 21) (.len (.tmp 20)) none [2], AOper.mk (some 22) (.minmax true (.tmp 19) (.tmp 21)) none [1, 3], AOper.mk (some 23) (.mkslice 1 [.int .i64 0] (.tmp 22) (.tmp 22)) none [4, 4], AOper.mk (some 6) (.mv (.tmp 23)) none [5, 0, 1, 2, 3, 4, 5]]
def l5r4 : List AOper :=
  [AOper.mk (some 24) (.mv (.tmp 0)) none [], AOper.mk (some 25) (.mv (.tmp 6)) none [], AOper.mk (some 26) (.len (.tmp 25)) none [1], AOper.mk (some 27) (.call 15 [.tmp 24, .tmp 26]) none [0, 2], AOper.mk (some 28) (.mv (.tmp 1)) none [], AOper.mk (some 29) (.mv (.tmp 6)) none [], AOper.mk (some 30) (.len (.tmp 29)) none [5], AOper.mk (some 31) (.call 15 [.tmp 28, .tmp 30]) none [4, 6, 3], AOper.mk (some 0) (.mv (.tmp 27)) none [3, 7, 0, 1, 2, 3], AOper.mk (some 1) (.mv (.tmp 31)) none [7, 8, 0, 1, 2, 3, 4, 5, 6, 7, 8]]
def l5r5 : List AOper :=
  [AOper.mk (some 32) (.mv (.tmp 6)) none [], AOper.mk (some 33) (.len (.tmp 32)) none [0], AOper.mk (some 34) (.mv (.const (.int .i64 0))) none []]
def l5r6 : List AOper :=
  [AOper.mk (some 35) (.bin .lss (.tmp 34) (.tmp 33)) none []]
def l5r7 : List AOper :=
  [AOper.mk (some 36) (.mv (.tmp 34)) none [], AOper.mk (some 7) (.mv (.tmp 36)) none [0, 0]]
def l5r8a : List AOper :=
  [AOper.mk (some 38) (.mv (.tmp 0)) none [], AOper.mk (some 39) (.mv (.tmp 7)) none [], AOper.mk (some 40) (.idxA 1 (.tmp 38) (.tmp 39)) none [0, 1], AOper.mk (some 41) (.load false 1 (.tmp 40)) none [2], AOper.mk (some 42) (.mv (.tmp 1)) none [], AOper.mk (some 43) (.mv (.tmp 7)) none [], AOper.mk (some 44) (.idxA 1 (.tmp 42) (.tmp 43)) none [4, 5], AOper.mk (some 45) (.load false 1 (.tmp 44)) none [6], AOper.mk (some 46) (.call 16 [.tmp 41, .tmp 45]) none [3, 7], AOper.mk (some 37) (.mv (.tmp 46)) none [8], AOper.mk (some 47) (.extract (.tmp 37) 0) none [9], AOper.mk (some 48) (.extract (.tmp 37) 1) none [9], AOper.mk (some 8) (.mv (.tmp 47)) none [10, 8, 0, 1, 2, 3, 4, 5, 6, 7, 8, 9, 10]]
def l5r8b : List AOper :=
  [AOper.mk (some 9) (.mv (.tmp 48)) none [11, 12, 0, 1, 2, 3, 4, 5, 6, 7, 8, 9, 10, 11, 12]]
def l5r8 : List AOper := l5r8a ++ l5r8b
def l5r9 : List AOper :=
  [AOper.mk (some 49) (.mv (.tmp 9)) none [], AOper.mk (some 50) (.un .not (.tmp 49)) none [0]]
def l5r10 : List AOper :=
  [AOper.mk (some 4) (.mv (.const (.slice none 0 0))) none [], AOper.mk (some 5) (.mv (.const (.bool false))) none [0, 0]]
def l5r11 : List AOper :=
  [AOper.mk (some 51) (.mv (.tmp 6)) none [], AOper.mk (some 52) (.mv (.tmp 7)) none [], AOper.mk (some 53) (.mv (.tmp 8)) none [], AOper.mk (some 54) (.idxA 1 (.tmp 51) (.tmp 52)) none [0, 1, 0, 1, 2], AOper.mk none (.store 1 (.tmp 54) (.tmp 53)) none [3, 2, 0, 1, 2]]
def l5r12 : List AOper :=
  [AOper.mk (some 55) (.bin .add (.tmp 34) (.const (.int .i64 1))) none [], AOper.mk (some 34) (.mv (.tmp 55)) none [0]]
def l5r13 : List AOper :=
  [AOper.mk (some 56) (.mv (.tmp 6)) none [], AOper.mk (some 57) (.call 14 [.tmp 56]) none [0], AOper.mk (some 58) (.un .not (.tmp 57)) none [1]]
def l5r14 : List AOper :=
  [AOper.mk (some 4) (.mv (.const (.slice none 0 0))) none [], AOper.mk (some 5) (.mv (.const (.bool false))) none [0, 0]]
def l5r15 : List AOper :=
  [AOper.mk (some 59) (.mv (.tmp 6)) none [], AOper.mk (some 4) (.mv (.tmp 59)) none [0, 0], AOper.mk (some 5) (.mv (.const (.bool true))) none [1, 0, 1]]
def l5 : AFn :=
  (AFn.mk 60 2 (ACode.seq (ACode.reg l5r0) (ACode.seq (ACode.seq (ACode.reg l5r1) (ACode.cond (.tmp 17) (ACode.seq (ACode.reg l5r2) ACode.ret) ACode.skip)) (ACode.seq (ACode.reg l5r3) (ACode.seq (ACode.reg l5r4) (ACode.seq (ACode.seq (ACode.reg l5r5) (ACode.block 0 (ACode.loop (ACode.seq (ACode.reg l5r6) (ACode.seq (ACode.cond (.tmp 35) ACode.skip (ACode.exit 0)) (ACode.seq (ACode.block 1 (ACode.seq (ACode.reg l5r7) (ACode.seq (ACode.draw l5r8) (ACode.seq (ACode.seq (ACode.reg l5r9) (ACode.cond (.tmp 50) (ACode.seq (ACode.reg l5r10) ACode.ret) ACode.skip)) (ACode.reg l5r11))))) (ACode.reg l5r12))))))) (ACode.seq (ACode.seq (ACode.reg l5r13) (ACode.cond (.tmp 58) (ACode.seq (ACode.reg l5r14) ACode.ret) ACode.skip)) (ACode.seq (ACode.reg l5r15) ACode.ret))))))) [ARes.tmp 4, ARes.tmp 5])
theorem l5_eq : lowFn Try.prog 5 = some l5 := by kernel_rfl
def l6r0 : List AOper :=
  [AOper.mk (some 4) (.mv (.const (.slice none 0 0))) none [], AOper.mk (some 5) (.mv (.const (.bool false))) none [0]]
def l6r1 : List AOper :=
  [AOper.mk (some 11) (.mv (.tmp 0)) none [], AOper.mk (some 12) (.call 17 [.tmp 11]) none [0], AOper.mk (some 13) (.un .not (.tmp 12)) none [1], AOper.mk (some 14) (.mv (.tmp 13)) none [2, 1], AOper.mk (some 15) (.mv (.tmp 1)) (some (14, false)) [3], AOper.mk (some 16) (.call 17 [.tmp 15]) (some (14, false)) [4, 3, 3], AOper.mk (some 17) (.un .not (.tmp 16)) (some (14, false)) [5, 3], AOper.mk (some 18) (.pick (.tmp 14) (.const (.bool true)) (.tmp 17)) none [3, 6]]
def l6r2 : List AOper :=
  [AOper.mk (some 4) (.mv (.const (.slice none 0 0))) none [], AOper.mk (some 5) (.mv (.const (.bool false))) none [0, 0]]
def l6r3 : List AOper :=
  [AOper.mk (some 19) (.mv (.tmp 0)) none [], AOper.mk (some 20) (.len (.tmp 19)) none [0], AOper.mk (some 21) (.mv (.tmp 1)) none [], AOper.mk (some 22) (.len (.tmp 21)) none [2], AOper.mk (some 23) (.minmax true (.tmp 20) (.tmp 22)) none [1, 3], AOper.mk (some 6) (.mv (.tmp 23)) none [4, 0, 1, 2, 3, 4]]
def l6r4 : List AOper :=
  [AOper.mk (some 24) (.mv (.tmp 6)) none [], AOper.mk (some 25) (.mkslice 1 [.int .i64 0] (.tmp 24) (.tmp 24)) none [0, 0], AOper.mk (some 7) (.mv (.tmp 25)) none [1, 0, 1]]
def l6r5 : List AOper :=
  [AOper.mk (some 8) (.mv (.const (.int .i64 0))) none []]
def l6r6 : List AOper :=
  [AOper.mk (some 26) (.mv (.tmp 8)) none [], AOper.mk (some 27) (.mv (.tmp 6)) none [], AOper.mk (some 28) (.bin .lss (.tmp 26) (.tmp 27)) none [0, 1]]
def l6r7 : List AOper :=
  [AOper.mk (some 31) (.mv (.tmp 0)) none [], AOper.mk (some 32) (.mv (.tmp 8)) none [], AOper.mk (some 33) (.call 18 [.tmp 31, .tmp 32]) none [0, 1], AOper.mk (some 9) (.mv (.tmp 33)) none [2, 2, 0, 1, 2]]
def l6r8 : List AOper :=
  [AOper.mk (some 34) (.mv (.tmp 1)) none [], AOper.mk (some 35) (.mv (.tmp 8)) none [], AOper.mk (some 36) (.call 18 [.tmp 34, .tmp 35]) none [0, 1], AOper.mk (some 10) (.mv (.tmp 36)) none [2, 2, 0, 1, 2]]
def l6r9 : List AOper :=
  [AOper.mk (some 37) (.mv (.tmp 9)) none [], AOper.mk (some 38) (.mv (.tmp 10)) none [], AOper.mk (some 39) (.bin .neq (.tmp 37) (.tmp 38)) none [0, 1], AOper.mk (some 40) (.mv (.tmp 39)) none [2], AOper.mk (some 41) (.mv (.tmp 9)) (some (40, true)) [3], AOper.mk (some 42) (.bin .neq (.tmp 41) (.const (.int .i64 1))) (some (40, true)) [4, 3], AOper.mk (some 43) (.pick (.tmp 40) (.tmp 42) (.const (.bool false))) none [3, 5], AOper.mk (some 44) (.mv (.tmp 43)) none [6, 3], AOper.mk (some 45) (.mv (.tmp 10)) (some (44, true)) [7], AOper.mk (some 46) (.bin .neq (.tmp 45) (.const (.int .i64 1))) (some (44, true)) [8, 7], AOper.mk (some 47) (.pick (.tmp 44) (.tmp 46) (.const (.bool false))) none [7, 9]]
def l6r10 : List AOper :=
  [AOper.mk (some 4) (.mv (.const (.slice none 0 0))) none [], AOper.mk (some 5) (.mv (.const (.bool false))) none [0, 0]]
def l6r11 : List AOper :=
  [AOper.mk (some 48) (.mv (.tmp 9)) none [], AOper.mk (some 49) (.bin .eql (.tmp 48) (.const (.int .i64 1))) none [0]]
def l6r12 : List AOper :=
  [AOper.mk (some 50) (.mv (.tmp 10)) none [], AOper.mk (some 9) (.mv (.tmp 50)) none [0, 0]]
def l6r13 : List AOper :=
  [AOper.mk (some 51) (.mv (.tmp 7)) none [], AOper.mk (some 52) (.mv (.tmp 6)) none [], AOper.mk (some 53) (.bin .sub (.tmp 52) (.const (.int .i64 1))) none [1], AOper.mk (some 54) (.mv (.tmp 8)) none [], AOper.mk (some 55) (.bin .sub (.tmp 53) (.tmp 54)) none [2, 3], AOper.mk (some 56) (.mv (.tmp 9)) none [], AOper.mk (some 57) (.idxA 1 (.tmp 51) (.tmp 55)) none [0, 4, 0, 1, 2, 3, 4, 5], AOper.mk none (.store 1 (.tmp 57) (.tmp 56)) none [6, 5, 0, 1, 2, 3, 4, 5]]
def l6r14 : List AOper :=
  [AOper.mk (some 29) (.mv (.tmp 8)) none [], AOper.mk (some 30) (.bin .add (.tmp 29) (.const (.int .i64 1))) none [0], AOper.mk (some 8) (.mv (.tmp 30)) none [1, 0, 1]]
def l6r15 : List AOper :=
  [AOper.mk (some 58) (.mv (.tmp 7)) none [], AOper.mk (some 59) (.call 17 [.tmp 58]) none [0], AOper.mk (some 60) (.un .not (.tmp 59)) none [1]]
def l6r16 : List AOper :=
  [AOper.mk (some 4) (.mv (.const (.slice none 0 0))) none [], AOper.mk (some 5) (.mv (.const (.bool false))) none [0, 0]]
def l6r17 : List AOper :=
  [AOper.mk (some 61) (.mv (.tmp 7)) none [], AOper.mk (some 4) (.mv (.tmp 61)) none [0, 0], AOper.mk (some 5) (.mv (.const (.bool true))) none [1, 0, 1]]
def l6 : AFn :=
  (AFn.mk 62 2 (ACode.seq (ACode.reg l6r0) (ACode.seq (ACode.seq (ACode.reg l6r1) (ACode.cond (.tmp 18) (ACode.seq (ACode.reg l6r2) ACode.ret) ACode.skip)) (ACode.seq (ACode.reg l6r3) (ACode.seq (ACode.reg l6r4) (ACode.seq (ACode.seq (ACode.reg l6r5) (ACode.block 0 (ACode.loop (ACode.seq (ACode.seq (ACode.reg l6r6) (ACode.cond (.tmp 28) ACode.skip (ACode.exit 0))) (ACode.seq (ACode.block 1 (ACode.seq (ACode.reg l6r7) (ACode.seq (ACode.reg l6r8) (ACode.seq (ACode.seq (ACode.reg l6r9) (ACode.cond (.tmp 47) (ACode.seq (ACode.reg l6r10) ACode.ret) ACode.skip)) (ACode.seq (ACode.seq (ACode.reg l6r11) (ACode.cond (.tmp 49) (ACode.reg l6r12) ACode.skip)) (ACode.reg l6r13)))))) (ACode.reg l6r14)))))) (ACode.seq (ACode.seq (ACode.reg l6r15) (ACode.cond (.tmp 60) (ACode.seq (ACode.reg l6r16) ACode.ret) ACode.skip)) (ACode.seq (ACode.reg l6r17) ACode.ret))))))) [ARes.tmp 4, ARes.tmp 5])
theorem l6_eq : lowFn Try.prog 6 = some l6 := by kernel_rfl
def l7r0 : List AOper :=
  [AOper.mk (some 4) (.mv (.const (.bool false))) none []]
def l7r1 : List AOper :=
  [AOper.mk (some 6) (.mv (.tmp 0)) none [], AOper.mk (some 7) (.len (.tmp 6)) none [0], AOper.mk (some 8) (.mv (.tmp 1)) none [], AOper.mk (some 9) (.len (.tmp 8)) none [2], AOper.mk (some 10) (.bin .neq (.tmp 7) (.tmp 9)) none [1, 3]]
def l7r2 : List AOper :=
  [AOper.mk (some 4) (.mv (.const (.bool false))) none []]
def l7r3 : List AOper :=
  [AOper.mk (some 5) (.mv (.const (.int .i64 0))) none []]
def l7r4 : List AOper :=
  [AOper.mk (some 11) (.mv (.tmp 5)) none [], AOper.mk (some 12) (.mv (.tmp 0)) none [], AOper.mk (some 13) (.len (.tmp 12)) none [1], AOper.mk (some 14) (.bin .lss (.tmp 11) (.tmp 13)) none [0, 2]]
def l7r5a : List AOper :=
  [AOper.mk (some 17) (.mv (.tmp 0)) none [], AOper.mk (some 18) (.mv (.tmp 5)) none [], AOper.mk (some 19) (.idxA 1 (.tmp 17) (.tmp 18)) none [0, 1], AOper.mk (some 20) (.load false 1 (.tmp 19)) none [2], AOper.mk (some 21) (.mv (.tmp 1)) none [], AOper.mk (some 22) (.mv (.tmp 5)) none [], AOper.mk (some 23) (.idxA 1 (.tmp 21) (.tmp 22)) none [4, 5], AOper.mk (some 24) (.load false 1 (.tmp 23)) none [6]]
def l7r5b : List AOper :=
  [AOper.mk (some 25) (.bin .neq (.tmp 20) (.tmp 24)) none [3, 7]]
def l7r5 : List AOper := l7r5a ++ l7r5b
def l7r6 : List AOper :=
  [AOper.mk (some 4) (.mv (.const (.bool false))) none []]
def l7r7 : List AOper :=
  [AOper.mk (some 15) (.mv (.tmp 5)) none [], AOper.mk (some 16) (.bin .add (.tmp 15) (.const (.int .i64 1))) none [0], AOper.mk (some 5) (.mv (.tmp 16)) none [1, 0, 1]]
def l7r8 : List AOper :=
  [AOper.mk (some 4) (.mv (.const (.bool true))) none []]
def l7 : AFn :=
  (AFn.mk 26 2 (ACode.seq (ACode.reg l7r0) (ACode.seq (ACode.seq (ACode.reg l7r1) (ACode.cond (.tmp 10) (ACode.seq (ACode.reg l7r2) ACode.ret) ACode.skip)) (ACode.seq (ACode.seq (ACode.reg l7r3) (ACode.block 0 (ACode.loop (ACode.seq (ACode.seq (ACode.reg l7r4) (ACode.cond (.tmp 14) ACode.skip (ACode.exit 0))) (ACode.seq (ACode.block 1 (ACode.seq (ACode.draw l7r5) (ACode.cond (.tmp 25) (ACode.seq (ACode.reg l7r6) ACode.ret) ACode.skip))) (ACode.reg l7r7)))))) (ACode.seq (ACode.reg l7r8) ACode.ret)))) [ARes.tmp 4])
theorem l7_eq : lowFn Try.prog 7 = some l7 := by kernel_rfl
def l8r0 : List AOper :=
  [AOper.mk (some 2) (.box (.tmp 0)) none [], AOper.mk (some 4) (.alloc [.int .i64 0, .slice none 0 0, .slice none 0 0]) none [], AOper.mk (some 5) (.mv (.const (.bool false))) none []]
def l8r1 : List AOper :=
  [AOper.mk (some 12) (.mv (.tmp 1)) none [], AOper.mk (some 13) (.len (.tmp 12)) none [0], AOper.mk (some 14) (.fld 1 (.tmp 2)) none [], AOper.mk (some 15) (.load false 1 (.tmp 14)) none [2], AOper.mk (some 16) (.len (.tmp 15)) none [3], AOper.mk (some 17) (.bin .sub (.tmp 13) (.tmp 16)) none [1, 4], AOper.mk (some 6) (.mv (.tmp 17)) none [5, 0, 1, 2, 3, 4, 5]]
def l8r2 : List AOper :=
  [AOper.mk (some 18) (.load true 3 (.tmp 2)) none [], AOper.mk (some 19) (.call 19 [.tmp 18]) none [0], AOper.mk (some 20) (.un .not (.tmp 19)) none [1], AOper.mk (some 21) (.mv (.tmp 20)) none [2, 1], AOper.mk (some 22) (.mv (.tmp 1)) (some (21, false)) [3], AOper.mk (some 23) (.call 14 [.tmp 22]) (some (21, false)) [4, 3, 3], AOper.mk (some 24) (.un .not (.tmp 23)) (some (21, false)) [5, 3], AOper.mk (some 25) (.pick (.tmp 21) (.const (.bool true)) (.tmp 24)) none [3, 6], AOper.mk (some 26) (.mv (.tmp 25)) none [7, 5], AOper.mk (some 27) (.mv (.tmp 6)) (some (26, false)) [8], AOper.mk (some 28) (.bin .lss (.tmp 27) (.const (.int .i64 0))) (some (26, false)) [9, 8], AOper.mk (some 29) (.pick (.tmp 26) (.const (.bool true)) (.tmp 28)) none [8, 10]]
def l8r3 : List AOper :=
  [AOper.mk (some 30) (.build [.int .i64 0, .slice none 0 0, .slice none 0 0] []) none [], AOper.mk none (.store 3 (.tmp 4) (.tmp 30)) none [0, 0], AOper.mk (some 5) (.mv (.const (.bool false))) none [1, 0, 1]]
def l8r4 : List AOper :=
  [AOper.mk (some 31) (.load true 3 (.tmp 2)) none [], AOper.mk (some 32) (.call 20 [.tmp 31]) none [0], AOper.mk (some 7) (.alloc [.int .i64 0, .slice none 0 0, .slice none 0 0, .int .i64 0, .int .i64 0, .int .i64 0, .int .i64 0, .slice none 0 0]) none [], AOper.mk none (.store 8 (.tmp 7) (.tmp 32)) none [2, 1, 1, 0, 1, 2]]
def l8r5a : List AOper :=
  [AOper.mk (some 33) (.build [.int .i64 0, .int .i64 0] [(0, 1, .const (.int .i64 1))]) none [], AOper.mk (some 34) (.bslice 2 [.int .i64 0, .int .i64 0] [(0, .tmp 33)] 1) none [0], AOper.mk (some 35) (.mv (.tmp 6)) none [], AOper.mk (some 36) (.call 22 [.tmp 34, .tmp 35]) none [1, 2], AOper.mk (some 37) (.fld 7 (.tmp 7)) none [], AOper.mk (some 38) (.load false 1 (.tmp 37)) none [4]]
def l8r5b : List AOper :=
  [AOper.mk (some 39) (.bslice 1 [.slice none 0 0] [(0, .tmp 36), (1, .tmp 38)] 2) none [3, 5], AOper.mk (some 40) (.call 21 [.tmp 39]) none [6, 3], AOper.mk (some 41) (.fld 7 (.tmp 7)) none [0, 1, 2, 3, 4, 5, 6, 7], AOper.mk none (.store 1 (.tmp 41) (.tmp 40)) none [8, 7, 7, 0, 1, 2, 3, 4, 5, 6, 7]]
def l8r5 : List AOper := l8r5a ++ l8r5b
def l8r6 : List AOper :=
  [AOper.mk (some 42) (.mv (.tmp 1)) none [], AOper.mk (some 43) (.len (.tmp 42)) none [0], AOper.mk (some 44) (.mv (.const (.int .i64 0))) none []]
def l8r7 : List AOper :=
  [AOper.mk (some 45) (.bin .lss (.tmp 44) (.tmp 43)) none []]
def l8r8 : List AOper :=
  [AOper.mk (some 46) (.mv (.tmp 44)) none [], AOper.mk (some 47) (.idxA 1 (.tmp 42) (.tmp 44)) none [], AOper.mk (some 48) (.load false 1 (.tmp 47)) none [1], AOper.mk (some 8) (.mv (.tmp 46)) none [0, 0, 1, 2], AOper.mk (some 9) (.mv (.tmp 48)) none [2, 3, 0, 1, 2, 3]]
def l8r9 : List AOper :=
  [AOper.mk (some 50) (.fld 7 (.tmp 7)) none [], AOper.mk (some 51) (.load false 1 (.tmp 50)) none [0], AOper.mk (some 52) (.mv (.tmp 8)) none [], AOper.mk (some 53) (.idxA 2 (.tmp 51) (.tmp 52)) none [1, 2], AOper.mk (some 54) (.load true 2 (.tmp 53)) none [3], AOper.mk (some 55) (.mv (.tmp 9)) none [], AOper.mk (some 56) (.call 23 [.tmp 54, .tmp 55]) none [4, 5], AOper.mk (some 49) (.mv (.tmp 56)) none [6], AOper.mk (some 57) (.extract (.tmp 49) 0) none [7], AOper.mk (some 58) (.extract (.tmp 49) 1) none [7], AOper.mk (some 10) (.alloc [.int .i64 0, .int .i64 0]) none [], AOper.mk none (.store 2 (.tmp 10) (.tmp 57)) none [10, 8, 6, 0, 1, 2, 3, 4, 5, 6, 7, 8, 10], AOper.mk (some 11) (.mv (.tmp 58)) none [9, 11, 0, 1, 2, 3, 4, 5, 6, 7, 8, 9, 10, 11]]
def l8r10 : List AOper :=
  [AOper.mk (some 59) (.mv (.tmp 11)) none [], AOper.mk (some 60) (.un .not (.tmp 59)) none [0]]
def l8r11 : List AOper :=
  [AOper.mk (some 61) (.build [.int .i64 0, .slice none 0 0, .slice none 0 0] []) none [], AOper.mk none (.store 3 (.tmp 4) (.tmp 61)) none [0, 0], AOper.mk (some 5) (.mv (.const (.bool false))) none [1, 0, 1]]
def l8r12 : List AOper :=
  [AOper.mk (some 62) (.fld 7 (.tmp 7)) none [], AOper.mk (some 63) (.load false 1 (.tmp 62)) none [0], AOper.mk (some 64) (.mv (.tmp 8)) none [], AOper.mk (some 65) (.load true 2 (.tmp 10)) none [], AOper.mk (some 66) (.idxA 2 (.tmp 63) (.tmp 64)) none [1, 2, 0, 1, 2, 3], AOper.mk none (.store 2 (.tmp 66) (.tmp 65)) none [4, 3, 0, 1, 2, 3]]
def l8r13 : List AOper :=
  [AOper.mk (some 67) (.bin .add (.tmp 44) (.const (.int .i64 1))) none [], AOper.mk (some 44) (.mv (.tmp 67)) none [0]]
def l8r14 : List AOper :=
  [AOper.mk (some 68) (.load true 8 (.tmp 7)) none [], AOper.mk (some 69) (.call 24 [.tmp 68]) none [0], AOper.mk none (.store 3 (.tmp 4) (.tmp 69)) none [1, 1, 0, 1], AOper.mk (some 5) (.mv (.const (.bool true))) none [2, 0, 1, 2]]
def l8 : AFn :=
  (AFn.mk 70 2 (ACode.seq (ACode.reg l8r0) (ACode.seq (ACode.reg l8r1) (ACode.seq (ACode.seq (ACode.reg l8r2) (ACode.cond (.tmp 29) (ACode.seq (ACode.reg l8r3) ACode.ret) ACode.skip)) (ACode.seq (ACode.reg l8r4) (ACode.seq (ACode.draw l8r5) (ACode.seq (ACode.seq (ACode.reg l8r6) (ACode.block 0 (ACode.loop (ACode.seq (ACode.reg l8r7) (ACode.seq (ACode.cond (.tmp 45) ACode.skip (ACode.exit 0)) (ACode.seq (ACode.block 1 (ACode.seq (ACode.reg l8r8) (ACode.seq (ACode.reg l8r9) (ACode.seq (ACode.seq (ACode.reg l8r10) (ACode.cond (.tmp 60) (ACode.seq (ACode.reg l8r11) ACode.ret) ACode.skip)) (ACode.reg l8r12))))) (ACode.reg l8r13))))))) (ACode.seq (ACode.reg l8r14) ACode.ret))))))) [ARes.cell 4 true 3, ARes.tmp 5])
theorem l8_eq : lowFn Try.prog 8 = some l8 := by kernel_rfl
def l9r0 : List AOper :=
  [AOper.mk (some 2) (.alloc [.int .i64 0, .slice none 0 0, .slice none 0 0]) none []]
def l9r1 : List AOper :=
  [AOper.mk (some 4) (.mv (.tmp 0)) none [], AOper.mk (some 5) (.call 14 [.tmp 4]) none [0], AOper.mk (some 6) (.un .not (.tmp 5)) none [1]]
def l9r2 : List AOper :=
  [AOper.mk (some 7) (.build [.int .i64 0, .slice none 0 0, .slice none 0 0] []) none [], AOper.mk none (.store 3 (.tmp 2) (.tmp 7)) none [0, 0]]
def l9r3 : List AOper :=
  [AOper.mk (some 8) (.mv (.tmp 0)) none [], AOper.mk (some 9) (.call 25 [.tmp 8]) none [0], AOper.mk (some 10) (.mv (.tmp 0)) none [], AOper.mk (some 11) (.call 26 [.tmp 10]) none [2, 1], AOper.mk (some 12) (.build [.int .i64 0, .slice none 0 0, .slice none 0 0] [(1, 1, .tmp 9), (2, 1, .tmp 11)]) none [1, 3], AOper.mk (some 3) (.alloc [.int .i64 0, .slice none 0 0, .slice none 0 0]) none [], AOper.mk none (.store 3 (.tmp 3) (.tmp 12)) none [5, 4, 3, 0, 1, 2, 3, 4, 5]]
def l9r4 : List AOper :=
  [AOper.mk (some 13) (.load true 3 (.tmp 3)) none [], AOper.mk (some 14) (.call 27 [.tmp 13]) none [0], AOper.mk (some 15) (.bin .eql (.tmp 14) (.const (.int .i64 0))) none [1]]
def l9r5 : List AOper :=
  [AOper.mk (some 16) (.mv (.tmp 0)) none [], AOper.mk (some 17) (.len (.tmp 16)) none [0], AOper.mk (some 18) (.mkslice 1 [.int .i64 0] (.tmp 17) (.tmp 17)) none [1, 1], AOper.mk (some 19) (.fld 2 (.tmp 3)) none [0, 1, 2], AOper.mk none (.store 1 (.tmp 19) (.tmp 18)) none [3, 2, 0, 1, 2]]
def l9r6 : List AOper :=
  [AOper.mk (some 20) (.load true 3 (.tmp 3)) none [], AOper.mk none (.store 3 (.tmp 2) (.tmp 20)) none [0, 0]]
def l9 : AFn :=
  (AFn.mk 21 1 (ACode.seq (ACode.reg l9r0) (ACode.seq (ACode.seq (ACode.reg l9r1) (ACode.cond (.tmp 6) (ACode.seq (ACode.reg l9r2) ACode.ret) ACode.skip)) (ACode.seq (ACode.reg l9r3) (ACode.seq (ACode.seq (ACode.reg l9r4) (ACode.cond (.tmp 15) (ACode.reg l9r5) ACode.skip)) (ACode.seq (ACode.reg l9r6) ACode.ret))))) [ARes.cell 2 true 3])
theorem l9_eq : lowFn Try.prog 9 = some l9 := by kernel_rfl
def l10r0 : List AOper :=
  [AOper.mk (some 2) (.mv (.const (.pointer none))) none []]
def l10r1 : List AOper :=
  [AOper.mk (some 3) (.mv (.tmp 0)) none [], AOper.mk (some 4) (.len (.tmp 3)) none [0], AOper.mk (some 5) (.bin .gtr (.tmp 4) (.const (.int .i64 2000))) none [1]]
def l10r2 : List AOper :=
  [AOper.mk (some 6) (.mv (.tmp 0)) none [], AOper.mk (some 7) (.slice 1 (.tmp 6) none (some (.const (.int .i64 2000)))) none [0], AOper.mk (some 0) (.mv (.tmp 7)) none [1, 0, 1]]
def l10r3 : List AOper :=
  [AOper.mk (some 8) (.mv (.tmp 0)) none [], AOper.mk (some 9) (.build [.slice none 0 0, .int .i64 0] [(0, 1, .tmp 8)]) none [0], AOper.mk (some 10) (.box (.tmp 9)) none [1], AOper.mk (some 2) (.mv (.tmp 10)) none [2, 0, 1, 2]]
def l10 : AFn :=
  (AFn.mk 11 1 (ACode.seq (ACode.reg l10r0) (ACode.seq (ACode.seq (ACode.reg l10r1) (ACode.cond (.tmp 5) (ACode.reg l10r2) ACode.skip)) (ACode.seq (ACode.reg l10r3) ACode.ret))) [ARes.tmp 2])
theorem l10_eq : lowFn Try.prog 10 = some l10 := by kernel_rfl
def l11r0 : List AOper :=
  [AOper.mk (some 2) (.mv (.const (.slice none 0 0))) none []]
def l11r1 : List AOper :=
  [AOper.mk (some 4) (.mv (.tmp 0)) none [], AOper.mk (some 5) (.call 28 [.tmp 4]) none [0], AOper.mk (some 3) (.mv (.tmp 5)) none [1, 1, 0, 1]]
def l11r2 : List AOper :=
  [AOper.mk (some 6) (.mv (.tmp 0)) none [], AOper.mk (some 7) (.call 12 [.tmp 6, .const (.int .i64 24)]) none [0]]
def l11r3 : List AOper :=
  [AOper.mk (some 9) (.bin .eql (.tmp 7) (.const (.int .i64 0))) none [], AOper.mk (some 8) (.mv (.tmp 9)) none [0]]
def l11r4 : List AOper :=
  [AOper.mk (some 10) (.mv (.tmp 3)) none [], AOper.mk (some 11) (.mv (.tmp 0)) none [], AOper.mk (some 12) (.bslice 1 [.int .i64 0] [(0, .const (.int .i64 (-1))), (1, .const (.int .i64 61)), (2, .const (.int .i64 40))] 3) none [], AOper.mk (some 13) (.call 29 [.tmp 11, .tmp 12]) none [1, 2], AOper.mk (some 14) (.bslice 1 [.int .i64 0] [(0, .tmp 13)] 1) none [3], AOper.mk (some 15) (.append 1 (.tmp 10) (.tmp 14)) none [0, 4, 3], AOper.mk (some 2) (.mv (.tmp 15)) none [5, 5, 0, 1, 2, 3, 4, 5]]
def l11r5 : List AOper :=
  [AOper.mk (some 17) (.bin .eql (.tmp 7) (.const (.int .i64 1))) none [], AOper.mk (some 16) (.mv (.tmp 17)) none [0]]
def l11r6 : List AOper :=
  [AOper.mk (some 18) (.bslice 1 [.int .i64 0] [(0, .const (.int .i64 1)), (1, .const (.int .i64 1)), (2, .const (.int .i64 1)), (3, .const (.int .i64 1)), (4, .const (.int .i64 1))] 5) none [], AOper.mk (some 2) (.mv (.tmp 18)) none [0, 0]]
def l11r7 : List AOper :=
  [AOper.mk (some 19) (.mv (.tmp 3)) none [], AOper.mk (some 2) (.mv (.tmp 19)) none [0, 0]]
def l11 : AFn :=
  (AFn.mk 20 1 (ACode.seq (ACode.reg l11r0) (ACode.seq (ACode.reg l11r1) (ACode.seq (ACode.seq (ACode.reg l11r2) (ACode.block 0 (ACode.seq (ACode.reg l11r3) (ACode.cond (.tmp 8) (ACode.seq (ACode.reg l11r4) ACode.ret) (ACode.seq (ACode.reg l11r5) (ACode.cond (.tmp 16) (ACode.seq (ACode.reg l11r6) ACode.ret) ACode.skip)))))) (ACode.seq (ACode.reg l11r7) ACode.ret)))) [ARes.tmp 2])
theorem l11_eq : lowFn Try.prog 11 = some l11 := by kernel_rfl
def l12r0 : List AOper :=
  [AOper.mk (some 4) (.mv (.const (.int .i64 0))) none []]
def l12r1 : List AOper :=
  [AOper.mk (some 7) (.mv (.tmp 0)) none [], AOper.mk (some 8) (.mv (.tmp 0)) none [], AOper.mk (some 9) (.nilck (.tmp 8)) none [1], AOper.mk (some 10) (.fld 1 (.tmp 9)) none [2], AOper.mk (some 11) (.load false 1 (.tmp 10)) none [3], AOper.mk (some 12) (.bin .add (.tmp 11) (.const (.int .i64 1))) none [4], AOper.mk (some 13) (.nilck (.tmp 7)) none [0, 0, 1, 2, 3, 4, 5], AOper.mk (some 14) (.fld 1 (.tmp 13)) none [6, 0, 1, 2, 3, 4, 5], AOper.mk none (.store 1 (.tmp 14) (.tmp 12)) none [7, 5, 0, 1, 2, 3, 4, 5]]
def l12r2 : List AOper :=
  [AOper.mk (some 15) (.mv (.tmp 1)) none [], AOper.mk (some 16) (.bin .lss (.tmp 15) (.const (.int .i64 1))) none [0], AOper.mk (some 17) (.mv (.tmp 16)) none [1], AOper.mk (some 18) (.mv (.tmp 0)) (some (17, false)) [2], AOper.mk (some 19) (.nilck (.tmp 18)) (some (17, false)) [3, 2], AOper.mk (some 20) (.fld 0 (.tmp 19)) (some (17, false)) [4, 2], AOper.mk (some 21) (.load false 1 (.tmp 20)) (some (17, false)) [5, 2], AOper.mk (some 22) (.len (.tmp 21)) (some (17, false)) [6, 2], AOper.mk (some 23) (.bin .eql (.tmp 22) (.const (.int .i64 0))) (some (17, false)) [7, 2], AOper.mk (some 24) (.pick (.tmp 17) (.const (.bool true)) (.tmp 23)) none [2, 8]]
def l12r3 : List AOper :=
  [AOper.mk (some 4) (.mv (.const (.int .i64 0))) none []]
def l12r4 : List AOper :=
  [AOper.mk (some 25) (.mv (.tmp 0)) none [], AOper.mk (some 26) (.nilck (.tmp 25)) none [0], AOper.mk (some 27) (.fld 1 (.tmp 26)) none [1], AOper.mk (some 28) (.load false 1 (.tmp 27)) none [2], AOper.mk (some 29) (.bin .sub (.tmp 28) (.const (.int .i64 1))) none [3], AOper.mk (some 5) (.mv (.tmp 29)) none [4, 0, 1, 2, 3, 4]]
def l12r5 : List AOper :=
  [AOper.mk (some 30) (.mv (.tmp 5)) none [], AOper.mk (some 31) (.mv (.tmp 0)) none [], AOper.mk (some 32) (.nilck (.tmp 31)) none [1], AOper.mk (some 33) (.fld 0 (.tmp 32)) none [2], AOper.mk (some 34) (.load false 1 (.tmp 33)) none [3], AOper.mk (some 35) (.len (.tmp 34)) none [4], AOper.mk (some 36) (.bin .lss (.tmp 30) (.tmp 35)) none [0, 5]]
def l12r6 : List AOper :=
  [AOper.mk (some 37) (.mv (.tmp 0)) none [], AOper.mk (some 38) (.nilck (.tmp 37)) none [0], AOper.mk (some 39) (.fld 0 (.tmp 38)) none [1], AOper.mk (some 40) (.load false 1 (.tmp 39)) none [2], AOper.mk (some 41) (.mv (.tmp 5)) none [], AOper.mk (some 42) (.idxA 1 (.tmp 40) (.tmp 41)) none [3, 4], AOper.mk (some 43) (.load false 1 (.tmp 42)) none [5], AOper.mk (some 44) (.conv .i64 (.tmp 43)) none [6], AOper.mk (some 45) (.mv (.tmp 1)) none [], AOper.mk (some 46) (.bin .rem (.tmp 44) (.tmp 45)) none [7, 8], AOper.mk (some 4) (.mv (.tmp 46)) none [9, 0, 1, 2, 3, 4, 5, 6, 7, 8, 9]]
def l12r7a : List AOper :=
  [AOper.mk (some 47) (.mv (.tmp 0)) none [], AOper.mk (some 48) (.nilck (.tmp 47)) none [0], AOper.mk (some 49) (.fld 0 (.tmp 48)) none [1], AOper.mk (some 50) (.load false 1 (.tmp 49)) none [2], AOper.mk (some 51) (.mv (.tmp 5)) none [], AOper.mk (some 52) (.mv (.tmp 0)) none [], AOper.mk (some 53) (.nilck (.tmp 52)) none [5], AOper.mk (some 54) (.fld 0 (.tmp 53)) none [6], AOper.mk (some 55) (.load false 1 (.tmp 54)) none [7], AOper.mk (some 56) (.len (.tmp 55)) none [8], AOper.mk (some 57) (.bin .rem (.tmp 51) (.tmp 56)) none [4, 9], AOper.mk (some 58) (.idxA 1 (.tmp 50) (.tmp 57)) none [3, 10], AOper.mk (some 59) (.load false 1 (.tmp 58)) none [11], AOper.mk (some 60) (.conv .i64 (.tmp 59)) none [12], AOper.mk (some 61) (.bin .mul (.tmp 60) (.const (.int .i64 131))) none [13], AOper.mk (some 62) (.mv (.tmp 0)) none [], AOper.mk (some 63) (.nilck (.tmp 62)) none [15], AOper.mk (some 64) (.fld 0 (.tmp 63)) none [16], AOper.mk (some 65) (.load false 1 (.tmp 64)) none [17], AOper.mk (some 66) (.mv (.tmp 5)) none [], AOper.mk (some 67) (.bin .mul (.tmp 66) (.const (.int .i64 7))) none [19], AOper.mk (some 68) (.bin .add (.tmp 67) (.const (.int .i64 3))) none [20], AOper.mk (some 69) (.mv (.tmp 0)) none [], AOper.mk (some 70) (.nilck (.tmp 69)) none [22], AOper.mk (some 71) (.fld 0 (.tmp 70)) none [23], AOper.mk (some 72) (.load false 1 (.tmp 71)) none [24], AOper.mk (some 73) (.len (.tmp 72)) none [25], AOper.mk (some 74) (.bin .rem (.tmp 68) (.tmp 73)) none [21, 26], AOper.mk (some 75) (.idxA 1 (.tmp 65) (.tmp 74)) none [18, 27], AOper.mk (some 76) (.load false 1 (.tmp 75)) none [28], AOper.mk (some 77) (.conv .i64 (.tmp 76)) none [29], AOper.mk (some 78) (.bin .mul (.tmp 77) (.const (.int .i64 1117))) none [30], AOper.mk (some 79) (.bin .add (.tmp 61) (.tmp 78)) none [14, 31], AOper.mk (some 80) (.mv (.tmp 5)) none [], AOper.mk (some 81) (.bin .mul (.tmp 80) (.const (.int .i64 29))) none [33], AOper.mk (some 82) (.bin .add (.tmp 79) (.tmp 81)) none [32, 34], AOper.mk (some 83) (.mv (.tmp 5)) none [], AOper.mk (some 84) (.mv (.tmp 0)) none [], AOper.mk (some 85) (.nilck (.tmp 84)) none [37], AOper.mk (some 86) (.fld 0 (.tmp 85)) none [38], AOper.mk (some 87) (.load false 1 (.tmp 86)) none [39], AOper.mk (some 88) (.len (.tmp 87)) none [40], AOper.mk (some 89) (.bin .quo (.tmp 83) (.tmp 88)) none [36, 41], AOper.mk (some 90) (.bin .mul (.tmp 89) (.const (.int .i64 53))) none [42]]
def l12r7b : List AOper :=
  [AOper.mk (some 91) (.bin .add (.tmp 82) (.tmp 90)) none [35, 43], AOper.mk (some 6) (.mv (.tmp 91)) none [44, 0, 1, 2, 3, 4, 5, 6, 7, 8, 9, 10, 11, 12, 13, 14, 15, 16, 17, 18, 19, 20, 21, 22, 23, 24, 25, 26, 27, 28, 29, 30, 31, 32, 33, 34, 35, 36, 37, 38, 39, 40, 41, 42, 43, 44]]
def l12r7 : List AOper := l12r7a ++ l12r7b
def l12r8 : List AOper :=
  [AOper.mk (some 92) (.mv (.tmp 6)) none [], AOper.mk (some 93) (.mv (.tmp 6)) none [], AOper.mk (some 94) (.bin .quo (.tmp 93) (.const (.int .i64 64))) none [1], AOper.mk (some 95) (.bin .xor (.tmp 92) (.tmp 94)) none [0, 2], AOper.mk (some 6) (.mv (.tmp 95)) none [3, 0, 1, 2, 3]]
def l12r9 : List AOper :=
  [AOper.mk (some 96) (.mv (.tmp 6)) none [], AOper.mk (some 97) (.mv (.tmp 1)) none [], AOper.mk (some 98) (.bin .rem (.tmp 96) (.tmp 97)) none [0, 1], AOper.mk (some 4) (.mv (.tmp 98)) none [2, 0, 1, 2]]
def l12 : AFn :=
  (AFn.mk 99 2 (ACode.seq (ACode.reg l12r0) (ACode.seq (ACode.reg l12r1) (ACode.seq (ACode.seq (ACode.reg l12r2) (ACode.cond (.tmp 24) (ACode.seq (ACode.reg l12r3) ACode.ret) ACode.skip)) (ACode.seq (ACode.reg l12r4) (ACode.seq (ACode.seq (ACode.reg l12r5) (ACode.cond (.tmp 36) (ACode.seq (ACode.reg l12r6) ACode.ret) ACode.skip)) (ACode.seq (ACode.draw l12r7) (ACode.seq (ACode.reg l12r8) (ACode.seq (ACode.reg l12r9) ACode.ret)))))))) [ARes.tmp 4])
theorem l12_eq : lowFn Try.prog 12 = some l12 := by kernel_rfl
def l13r0 : List AOper :=
  [AOper.mk (some 2) (.mv (.const (.slice none 0 0))) none []]
def l13r1 : List AOper :=
  [AOper.mk (some 3) (.bslice 1 [.int .i64 0] [] 0) none [], AOper.mk (some 4) (.mv (.tmp 0)) none [], AOper.mk (some 5) (.append 1 (.tmp 3) (.tmp 4)) none [0, 1], AOper.mk (some 2) (.mv (.tmp 5)) none [2, 2, 0, 1, 2]]
def l13 : AFn :=
  (AFn.mk 6 1 (ACode.seq (ACode.reg l13r0) (ACode.seq (ACode.reg l13r1) ACode.ret)) [ARes.tmp 2])
theorem l13_eq : lowFn Try.prog 13 = some l13 := by kernel_rfl
def l14r0 : List AOper :=
  [AOper.mk (some 2) (.mv (.const (.bool false))) none []]
def l14r1 : List AOper :=
  [AOper.mk (some 5) (.mv (.tmp 0)) none [], AOper.mk (some 6) (.len (.tmp 5)) none [0], AOper.mk (some 7) (.bin .gtr (.tmp 6) (.const (.int .i64 4))) none [1]]
def l14r2 : List AOper :=
  [AOper.mk (some 2) (.mv (.const (.bool false))) none []]
def l14r3 : List AOper :=
  [AOper.mk (some 8) (.mv (.tmp 0)) none [], AOper.mk (some 9) (.len (.tmp 8)) none [0], AOper.mk (some 10) (.mv (.const (.int .i64 0))) none []]
def l14r4 : List AOper :=
  [AOper.mk (some 11) (.bin .lss (.tmp 10) (.tmp 9)) none []]
def l14r5 : List AOper :=
  [AOper.mk (some 12) (.idxA 1 (.tmp 8) (.tmp 10)) none [], AOper.mk (some 13) (.load false 1 (.tmp 12)) none [0], AOper.mk (some 4) (.mv (.tmp 13)) none [1, 0, 1]]
def l14r6 : List AOper :=
  [AOper.mk (some 14) (.mv (.tmp 4)) none [], AOper.mk (some 15) (.call 30 [.tmp 14, .const (.int .i64 60)]) none [0], AOper.mk (some 16) (.un .not (.tmp 15)) none [1]]
def l14r7 : List AOper :=
  [AOper.mk (some 2) (.mv (.const (.bool false))) none []]
def l14r8 : List AOper :=
  [AOper.mk (some 17) (.bin .add (.tmp 10) (.const (.int .i64 1))) none [], AOper.mk (some 10) (.mv (.tmp 17)) none [0]]
def l14r9 : List AOper :=
  [AOper.mk (some 18) (.mv (.tmp 0)) none [], AOper.mk (some 19) (.call 31 [.tmp 18]) none [0], AOper.mk (some 20) (.bin .leq (.tmp 19) (.const (.int .i64 60))) none [1], AOper.mk (some 2) (.mv (.tmp 20)) none [2, 1, 0, 1, 2]]
def l14 : AFn :=
  (AFn.mk 21 1 (ACode.seq (ACode.reg l14r0) (ACode.seq (ACode.seq (ACode.reg l14r1) (ACode.cond (.tmp 7) (ACode.seq (ACode.reg l14r2) ACode.ret) ACode.skip)) (ACode.seq (ACode.seq (ACode.reg l14r3) (ACode.block 0 (ACode.loop (ACode.seq (ACode.reg l14r4) (ACode.seq (ACode.cond (.tmp 11) ACode.skip (ACode.exit 0)) (ACode.seq (ACode.block 1 (ACode.seq (ACode.reg l14r5) (ACode.seq (ACode.reg l14r6) (ACode.cond (.tmp 16) (ACode.seq (ACode.reg l14r7) ACode.ret) ACode.skip)))) (ACode.reg l14r8))))))) (ACode.seq (ACode.reg l14r9) ACode.ret)))) [ARes.tmp 2])
theorem l14_eq : lowFn Try.prog 14 = some l14 := by kernel_rfl
def l15r0 : List AOper :=
  [AOper.mk (some 4) (.mv (.const (.slice none 0 0))) none []]
def l15r1 : List AOper :=
  [AOper.mk (some 5) (.bslice 1 [.int .i64 0] [(0, .const (.int .i64 1))] 1) none [], AOper.mk (some 6) (.mv (.tmp 1)) none [], AOper.mk (some 7) (.mv (.tmp 0)) none [], AOper.mk (some 8) (.len (.tmp 7)) none [2], AOper.mk (some 9) (.bin .sub (.tmp 6) (.tmp 8)) none [1, 3], AOper.mk (some 10) (.call 33 [.tmp 5, .tmp 9]) none [0, 4], AOper.mk (some 11) (.mv (.tmp 0)) none [], AOper.mk (some 12) (.bslice 1 [.slice none 0 0] [(0, .tmp 10), (1, .tmp 11)] 2) none [5, 6], AOper.mk (some 13) (.call 32 [.tmp 12]) none [7, 5], AOper.mk (some 4) (.mv (.tmp 13)) none [8, 8, 0, 1, 2, 3, 4, 5, 6, 7, 8]]
def l15 : AFn :=
  (AFn.mk 14 2 (ACode.seq (ACode.reg l15r0) (ACode.seq (ACode.reg l15r1) ACode.ret)) [ARes.tmp 4])
theorem l15_eq : lowFn Try.prog 15 = some l15 := by kernel_rfl
def l16r0 : List AOper :=
  [AOper.mk (some 4) (.mv (.const (.int .i64 0))) none [], AOper.mk (some 5) (.mv (.const (.bool false))) none [0]]
def l16r1 : List AOper :=
  [AOper.mk (some 6) (.mv (.tmp 0)) none [], AOper.mk (some 7) (.bin .eql (.tmp 6) (.const (.int .i64 1))) none [0]]
def l16r2 : List AOper :=
  [AOper.mk (some 8) (.mv (.tmp 1)) none [], AOper.mk (some 4) (.mv (.tmp 8)) none [0, 0], AOper.mk (some 5) (.mv (.const (.bool true))) none [1, 0, 1]]
def l16r3 : List AOper :=
  [AOper.mk (some 9) (.mv (.tmp 0)) none [], AOper.mk (some 10) (.mv (.tmp 1)) none [], AOper.mk (some 11) (.mv (.tmp 0)) none [], AOper.mk (some 12) (.bin .eql (.tmp 10) (.tmp 11)) none [1, 2], AOper.mk (some 13) (.mv (.tmp 12)) none [3], AOper.mk (some 14) (.mv (.tmp 1)) (some (13, false)) [4], AOper.mk (some 15) (.bin .eql (.tmp 14) (.const (.int .i64 1))) (some (13, false)) [5, 4], AOper.mk (some 16) (.pick (.tmp 13) (.const (.bool true)) (.tmp 15)) none [4, 6], AOper.mk (some 4) (.mv (.tmp 9)) none [0, 4, 0], AOper.mk (some 5) (.mv (.tmp 16)) none [7, 8, 0, 1, 2, 3, 4, 5, 6, 7, 8]]
def l16 : AFn :=
  (AFn.mk 17 2 (ACode.seq (ACode.reg l16r0) (ACode.seq (ACode.seq (ACode.reg l16r1) (ACode.cond (.tmp 7) (ACode.seq (ACode.reg l16r2) ACode.ret) ACode.skip)) (ACode.seq (ACode.reg l16r3) ACode.ret))) [ARes.tmp 4, ARes.tmp 5])
theorem l16_eq : lowFn Try.prog 16 = some l16 := by kernel_rfl
def l17r0 : List AOper :=
  [AOper.mk (some 2) (.mv (.const (.bool false))) none []]
def l17r1 : List AOper :=
  [AOper.mk (some 3) (.mv (.tmp 0)) none [], AOper.mk (some 4) (.len (.tmp 3)) none [0], AOper.mk (some 5) (.bin .leq (.tmp 4) (.const (.int .i64 4))) none [1], AOper.mk (some 6) (.mv (.tmp 5)) none [2], AOper.mk (some 7) (.mv (.tmp 0)) (some (6, true)) [3], AOper.mk (some 8) (.call 34 [.tmp 7, .const (.int .i64 0), .const (.int .i64 60)]) (some (6, true)) [4, 3, 3], AOper.mk (some 9) (.pick (.tmp 6) (.tmp 8) (.const (.bool false))) none [3, 5], AOper.mk (some 10) (.mv (.tmp 9)) none [6, 5], AOper.mk (some 11) (.mv (.tmp 0)) (some (10, true)) [7], AOper.mk (some 12) (.call 35 [.tmp 11]) (some (10, true)) [8, 7, 7], AOper.mk (some 13) (.bin .leq (.tmp 12) (.const (.int .i64 60))) (some (10, true)) [9, 7], AOper.mk (some 14) (.pick (.tmp 10) (.tmp 13) (.const (.bool false))) none [7, 10], AOper.mk (some 2) (.mv (.tmp 14)) none [11, 9, 0, 1, 2, 3, 4, 5, 6, 7, 8, 9, 10, 11]]
def l17 : AFn :=
  (AFn.mk 15 1 (ACode.seq (ACode.reg l17r0) (ACode.seq (ACode.reg l17r1) ACode.ret)) [ARes.tmp 2])
theorem l17_eq : lowFn Try.prog 17 = some l17 := by kernel_rfl
def l18r0 : List AOper :=
  [AOper.mk (some 4) (.mv (.const (.int .i64 0))) none []]
def l18r1 : List AOper :=
  [AOper.mk (some 5) (.mv (.tmp 1)) none [], AOper.mk (some 6) (.mv (.tmp 0)) none [], AOper.mk (some 7) (.len (.tmp 6)) none [1], AOper.mk (some 8) (.bin .geq (.tmp 5) (.tmp 7)) none [0, 2]]
def l18r2 : List AOper :=
  [AOper.mk (some 4) (.mv (.const (.int .i64 1))) none []]
def l18r3 : List AOper :=
  [AOper.mk (some 9) (.mv (.tmp 0)) none [], AOper.mk (some 10) (.mv (.tmp 0)) none [], AOper.mk (some 11) (.len (.tmp 10)) none [1], AOper.mk (some 12) (.bin .sub (.tmp 11) (.const (.int .i64 1))) none [2], AOper.mk (some 13) (.mv (.tmp 1)) none [], AOper.mk (some 14) (.bin .sub (.tmp 12) (.tmp 13)) none [3, 4], AOper.mk (some 15) (.idxA 1 (.tmp 9) (.tmp 14)) none [0, 5], AOper.mk (some 16) (.load false 1 (.tmp 15)) none [6], AOper.mk (some 4) (.mv (.tmp 16)) none [7, 0, 1, 2, 3, 4, 5, 6, 7]]
def l18 : AFn :=
  (AFn.mk 17 2 (ACode.seq (ACode.reg l18r0) (ACode.seq (ACode.seq (ACode.reg l18r1) (ACode.cond (.tmp 8) (ACode.seq (ACode.reg l18r2) ACode.ret) ACode.skip)) (ACode.seq (ACode.reg l18r3) ACode.ret))) [ARes.tmp 4])
theorem l18_eq : lowFn Try.prog 18 = some l18 := by kernel_rfl
def l19r0 : List AOper :=
  [AOper.mk (some 1) (.box (.tmp 0)) none [], AOper.mk (some 2) (.mv (.const (.bool false))) none []]
def l19r1 : List AOper :=
  [AOper.mk (some 5) (.fld 1 (.tmp 1)) none [], AOper.mk (some 6) (.load false 1 (.tmp 5)) none [0], AOper.mk (some 7) (.call 14 [.tmp 6]) none [1], AOper.mk (some 8) (.un .not (.tmp 7)) none [2], AOper.mk (some 9) (.mv (.tmp 8)) none [3, 2], AOper.mk (some 10) (.fld 2 (.tmp 1)) (some (9, false)) [4], AOper.mk (some 11) (.load false 1 (.tmp 10)) (some (9, false)) [5, 4], AOper.mk (some 12) (.fld 1 (.tmp 1)) (some (9, false)) [4], AOper.mk (some 13) (.load false 1 (.tmp 12)) (some (9, false)) [7, 4], AOper.mk (some 14) (.len (.tmp 13)) (some (9, false)) [8, 4], AOper.mk (some 15) (.call 36 [.tmp 11, .tmp 14]) (some (9, false)) [6, 9, 4, 4], AOper.mk (some 16) (.un .not (.tmp 15)) (some (9, false)) [10, 4], AOper.mk (some 17) (.pick (.tmp 9) (.const (.bool true)) (.tmp 16)) none [4, 11], AOper.mk (some 18) (.mv (.tmp 17)) none [12, 10], AOper.mk (some 19) (.fld 0 (.tmp 1)) (some (18, false)) [13], AOper.mk (some 20) (.load false 1 (.tmp 19)) (some (18, false)) [14, 13], AOper.mk (some 21) (.call 30 [.tmp 20, .const (.int .i64 60)]) (some (18, false)) [15, 13, 13], AOper.mk (some 22) (.un .not (.tmp 21)) (some (18, false)) [16, 13], AOper.mk (some 23) (.pick (.tmp 18) (.const (.bool true)) (.tmp 22)) none [13, 17]]
def l19r2 : List AOper :=
  [AOper.mk (some 2) (.mv (.const (.bool false))) none []]
def l19r3 : List AOper :=
  [AOper.mk (some 25) (.load true 3 (.tmp 1)) none [], AOper.mk (some 26) (.call 37 [.tmp 25]) none [0], AOper.mk (some 24) (.mv (.tmp 26)) none [1], AOper.mk (some 27) (.extract (.tmp 24) 0) none [2], AOper.mk (some 28) (.extract (.tmp 24) 1) none [2], AOper.mk (some 3) (.mv (.tmp 27)) none [3, 1, 0, 1, 2, 3], AOper.mk (some 4) (.mv (.tmp 28)) none [4, 5, 0, 1, 2, 3, 4, 5]]
def l19r4 : List AOper :=
  [AOper.mk (some 29) (.load true 3 (.tmp 1)) none [], AOper.mk (some 30) (.call 27 [.tmp 29]) none [0], AOper.mk (some 31) (.bin .eql (.tmp 30) (.const (.int .i64 0))) none [1], AOper.mk (some 32) (.mv (.tmp 31)) none [2, 1], AOper.mk (some 33) (.mv (.tmp 3)) (some (32, false)) [3], AOper.mk (some 34) (.bin .geq (.tmp 33) (.const (.int .i64 0))) (some (32, false)) [4, 3], AOper.mk (some 35) (.mv (.tmp 34)) (some (32, false)) [5, 3, 3], AOper.mk (some 36) (.mv (.tmp 4)) (some (35, true)) [6], AOper.mk (some 37) (.bin .lss (.tmp 36) (.const (.int .i64 60))) (some (35, true)) [7, 6], AOper.mk (some 38) (.pick (.tmp 35) (.tmp 37) (.const (.bool false))) (some (32, false)) [6, 8, 3], AOper.mk (some 39) (.pick (.tmp 32) (.const (.bool true)) (.tmp 38)) none [3, 9], AOper.mk (some 2) (.mv (.tmp 39)) none [10, 6, 0, 1, 2, 3, 4, 5, 6, 7, 8, 9, 10]]
def l19 : AFn :=
  (AFn.mk 40 1 (ACode.seq (ACode.reg l19r0) (ACode.seq (ACode.seq (ACode.reg l19r1) (ACode.cond (.tmp 23) (ACode.seq (ACode.reg l19r2) ACode.ret) ACode.skip)) (ACode.seq (ACode.reg l19r3) (ACode.seq (ACode.reg l19r4) ACode.ret)))) [ARes.tmp 2])
theorem l19_eq : lowFn Try.prog 19 = some l19 := by kernel_rfl
def l20r0 : List AOper :=
  [AOper.mk (some 1) (.box (.tmp 0)) none [], AOper.mk (some 2) (.alloc [.int .i64 0, .slice none 0 0, .slice none 0 0, .int .i64 0, .int .i64 0, .int .i64 0, .int .i64 0, .slice none 0 0]) none []]
def l20r1 : List AOper :=
  [AOper.mk (some 6) (.load true 3 (.tmp 1)) none [], AOper.mk (some 7) (.build [.int .i64 0, .slice none 0 0, .slice none 0 0, .int .i64 0, .int .i64 0, .int .i64 0, .int .i64 0, .slice none 0 0] [(0, 3, .tmp 6)]) none [0], AOper.mk (some 3) (.alloc [.int .i64 0, .slice none 0 0, .slice none 0 0, .int .i64 0, .int .i64 0, .int .i64 0, .int .i64 0, .slice none 0 0]) none [], AOper.mk none (.store 8 (.tmp 3) (.tmp 7)) none [2, 1, 0, 1, 2]]
def l20r2 : List AOper :=
  [AOper.mk (some 8) (.fld 1 (.tmp 1)) none [], AOper.mk (some 9) (.load false 1 (.tmp 8)) none [0], AOper.mk (some 10) (.len (.tmp 9)) none [1], AOper.mk (some 11) (.mv (.const (.int .i64 0))) none []]
def l20r3 : List AOper :=
  [AOper.mk (some 12) (.bin .lss (.tmp 11) (.tmp 10)) none []]
def l20r4 : List AOper :=
  [AOper.mk (some 13) (.mv (.tmp 11)) none [], AOper.mk (some 14) (.idxA 1 (.tmp 9) (.tmp 11)) none [], AOper.mk (some 15) (.load false 1 (.tmp 14)) none [1], AOper.mk (some 4) (.mv (.tmp 13)) none [0, 0, 1, 2], AOper.mk (some 5) (.mv (.tmp 15)) none [2, 3, 0, 1, 2, 3]]
def l20r5a : List AOper :=
  [AOper.mk (some 16) (.fld 7 (.tmp 3)) none [], AOper.mk (some 17) (.load false 1 (.tmp 16)) none [0], AOper.mk (some 18) (.mv (.tmp 5)) none [], AOper.mk (some 19) (.fld 2 (.tmp 1)) none [], AOper.mk (some 20) (.load false 1 (.tmp 19)) none [3], AOper.mk (some 21) (.mv (.tmp 4)) none [], AOper.mk (some 22) (.idxA 1 (.tmp 20) (.tmp 21)) none [4, 5], AOper.mk (some 23) (.load false 1 (.tmp 22)) none [6], AOper.mk (some 24) (.build [.int .i64 0, .int .i64 0] [(0, 1, .tmp 18), (1, 1, .tmp 23)]) none [2, 7], AOper.mk (some 25) (.bslice 2 [.int .i64 0, .int .i64 0] [(0, .tmp 24)] 1) none [8]]
def l20r5b : List AOper :=
  [AOper.mk (some 26) (.append 2 (.tmp 17) (.tmp 25)) none [1, 9], AOper.mk (some 27) (.fld 7 (.tmp 3)) none [0, 1, 2, 3, 4, 5, 6, 7, 8, 9, 10], AOper.mk none (.store 1 (.tmp 27) (.tmp 26)) none [11, 10, 10, 0, 1, 2, 3, 4, 5, 6, 7, 8, 9, 10]]
def l20r5 : List AOper := l20r5a ++ l20r5b
def l20r6 : List AOper :=
  [AOper.mk (some 28) (.bin .add (.tmp 11) (.const (.int .i64 1))) none [], AOper.mk (some 11) (.mv (.tmp 28)) none [0]]
def l20r7 : List AOper :=
  [AOper.mk (some 29) (.load true 8 (.tmp 3)) none [], AOper.mk none (.store 8 (.tmp 2) (.tmp 29)) none [0, 0]]
def l20 : AFn :=
  (AFn.mk 30 1 (ACode.seq (ACode.reg l20r0) (ACode.seq (ACode.reg l20r1) (ACode.seq (ACode.seq (ACode.reg l20r2) (ACode.block 0 (ACode.loop (ACode.seq (ACode.reg l20r3) (ACode.seq (ACode.cond (.tmp 12) ACode.skip (ACode.exit 0)) (ACode.seq (ACode.block 1 (ACode.seq (ACode.reg l20r4) (ACode.draw l20r5))) (ACode.reg l20r6))))))) (ACode.seq (ACode.reg l20r7) ACode.ret)))) [ARes.cell 2 true 8])
theorem l20_eq : lowFn Try.prog 20 = some l20 := by kernel_rfl
def l21r0 : List AOper :=
  [AOper.mk (some 2) (.mv (.const (.slice none 0 0))) none []]
def l21r1 : List AOper :=
  [AOper.mk (some 3) (.mv (.const (.int .i64 0))) none []]
def l21r2 : List AOper :=
  [AOper.mk (some 9) (.mv (.tmp 0)) none [], AOper.mk (some 10) (.len (.tmp 9)) none [0], AOper.mk (some 11) (.mv (.const (.int .i64 0))) none []]
def l21r3 : List AOper :=
  [AOper.mk (some 12) (.bin .lss (.tmp 11) (.tmp 10)) none []]
def l21r4 : List AOper :=
  [AOper.mk (some 13) (.idxA 1 (.tmp 9) (.tmp 11)) none [], AOper.mk (some 14) (.load false 1 (.tmp 13)) none [0], AOper.mk (some 5) (.mv (.tmp 14)) none [1, 0, 1]]
def l21r5 : List AOper :=
  [AOper.mk (some 15) (.mv (.tmp 3)) none [], AOper.mk (some 16) (.mv (.tmp 5)) none [], AOper.mk (some 17) (.len (.tmp 16)) none [1], AOper.mk (some 18) (.bin .add (.tmp 15) (.tmp 17)) none [0, 2], AOper.mk (some 3) (.mv (.tmp 18)) none [3, 0, 1, 2, 3]]
def l21r6 : List AOper :=
  [AOper.mk (some 19) (.mv (.tmp 3)) none [], AOper.mk (some 20) (.bin .lss (.tmp 19) (.const (.int .i64 0))) none [0]]
def l21r7 : List AOper :=
  [AOper.mk (some 21) (.raw (Op.makeInterface 9 (.const (.string (ByteArray.mk (Array.mk [(108 : UInt8), (101 : UInt8), (110 : UInt8), (32 : UInt8), (111 : UInt8), (117 : UInt8), (116 : UInt8), (32 : UInt8), (111 : UInt8), (102 : UInt8), (32 : UInt8), (114 : UInt8), (97 : UInt8), (110 : UInt8), (103 : UInt8), (101 : UInt8)])))))) none [], AOper.mk none (.raw (Op.panic (.tmp 21))) none [0]]
def l21r8 : List AOper :=
  [AOper.mk (some 22) (.bin .add (.tmp 11) (.const (.int .i64 1))) none [], AOper.mk (some 11) (.mv (.tmp 22)) none [0]]
def l21r9 : List AOper :=
  [AOper.mk (some 23) (.mv (.tmp 3)) none [], AOper.mk (some 24) (.call 38 [.const (.slice none 0 0), .tmp 23]) none [0], AOper.mk (some 6) (.mv (.tmp 24)) none [1, 1, 0, 1]]
def l21r10 : List AOper :=
  [AOper.mk (some 25) (.mv (.tmp 0)) none [], AOper.mk (some 26) (.len (.tmp 25)) none [0], AOper.mk (some 27) (.mv (.const (.int .i64 0))) none []]
def l21r11 : List AOper :=
  [AOper.mk (some 28) (.bin .lss (.tmp 27) (.tmp 26)) none []]
def l21r12 : List AOper :=
  [AOper.mk (some 29) (.idxA 1 (.tmp 25) (.tmp 27)) none [], AOper.mk (some 30) (.load false 1 (.tmp 29)) none [0], AOper.mk (some 8) (.mv (.tmp 30)) none [1, 0, 1]]
def l21r13 : List AOper :=
  [AOper.mk (some 31) (.mv (.tmp 6)) none [], AOper.mk (some 32) (.mv (.tmp 8)) none [], AOper.mk (some 33) (.append 2 (.tmp 31) (.tmp 32)) none [0, 1], AOper.mk (some 6) (.mv (.tmp 33)) none [2, 2, 0, 1, 2]]
def l21r14 : List AOper :=
  [AOper.mk (some 34) (.bin .add (.tmp 27) (.const (.int .i64 1))) none [], AOper.mk (some 27) (.mv (.tmp 34)) none [0]]
def l21r15 : List AOper :=
  [AOper.mk (some 35) (.mv (.tmp 6)) none [], AOper.mk (some 2) (.mv (.tmp 35)) none [0, 0]]
def l21 : AFn :=
  (AFn.mk 36 1 (ACode.seq (ACode.reg l21r0) (ACode.seq (ACode.reg l21r1) (ACode.seq (ACode.seq (ACode.reg l21r2) (ACode.block 0 (ACode.loop (ACode.seq (ACode.reg l21r3) (ACode.seq (ACode.cond (.tmp 12) ACode.skip (ACode.exit 0)) (ACode.seq (ACode.block 1 (ACode.seq (ACode.reg l21r4) (ACode.seq (ACode.reg l21r5) (ACode.seq (ACode.reg l21r6) (ACode.cond (.tmp 20) (ACode.reg l21r7) ACode.skip))))) (ACode.reg l21r8))))))) (ACode.seq (ACode.reg l21r9) (ACode.seq (ACode.seq (ACode.reg l21r10) (ACode.block 2 (ACode.loop (ACode.seq (ACode.reg l21r11) (ACode.seq (ACode.cond (.tmp 28) ACode.skip (ACode.exit 2)) (ACode.seq (ACode.block 3 (ACode.seq (ACode.reg l21r12) (ACode.reg l21r13))) (ACode.reg l21r14))))))) (ACode.seq (ACode.reg l21r15) ACode.ret)))))) [ARes.tmp 2])
theorem l21_eq : lowFn Try.prog 21 = some l21 := by kernel_rfl
def l22r0 : List AOper :=
  [AOper.mk (some 4) (.mv (.const (.slice none 0 0))) none []]
def l22r1 : List AOper :=
  [AOper.mk (some 9) (.mv (.tmp 1)) none [], AOper.mk (some 10) (.bin .lss (.tmp 9) (.const (.int .i64 0))) none [0]]
def l22r2 : List AOper :=
  [AOper.mk (some 11) (.raw (Op.makeInterface 9 (.const (.string (ByteArray.mk (Array.mk [(99 : UInt8), (97 : UInt8), (110 : UInt8), (110 : UInt8), (111 : UInt8), (116 : UInt8), (32 : UInt8), (98 : UInt8), (101 : UInt8), (32 : UInt8), (110 : UInt8), (101 : UInt8), (103 : UInt8), (97 : UInt8), (116 : UInt8), (105 : UInt8), (118 : UInt8), (101 : UInt8)])))))) none [], AOper.mk none (.raw (Op.panic (.tmp 11))) none [0]]
def l22r3 : List AOper :=
  [AOper.mk (some 13) (.mv (.tmp 0)) none [], AOper.mk (some 14) (.len (.tmp 13)) none [0], AOper.mk (some 15) (.conv .u64 (.tmp 14)) none [1], AOper.mk (some 16) (.mv (.tmp 1)) none [], AOper.mk (some 17) (.conv .u64 (.tmp 16)) none [3], AOper.mk (some 18) (.call 39 [.tmp 15, .tmp 17]) none [2, 4], AOper.mk (some 12) (.mv (.tmp 18)) none [5], AOper.mk (some 19) (.extract (.tmp 12) 0) none [6], AOper.mk (some 20) (.extract (.tmp 12) 1) none [6], AOper.mk (some 5) (.mv (.tmp 19)) none [7, 5, 0, 1, 2, 3, 4, 5, 6, 7], AOper.mk (some 6) (.mv (.tmp 20)) none [8, 9, 0, 1, 2, 3, 4, 5, 6, 7, 8, 9]]
def l22r4 : List AOper :=
  [AOper.mk (some 21) (.mv (.tmp 5)) none [], AOper.mk (some 22) (.bin .gtr (.tmp 21) (.const (.int .u64 0))) none [0], AOper.mk (some 23) (.mv (.tmp 22)) none [1], AOper.mk (some 24) (.mv (.tmp 6)) (some (23, false)) [2], AOper.mk (some 25) (.bin .gtr (.tmp 24) (.const (.int .u64 9223372036854775807))) (some (23, false)) [3, 2], AOper.mk (some 26) (.pick (.tmp 23) (.const (.bool true)) (.tmp 25)) none [2, 4]]
def l22r5 : List AOper :=
  [AOper.mk (some 27) (.raw (Op.makeInterface 9 (.const (.string (ByteArray.mk (Array.mk [(116 : UInt8), (104 : UInt8), (101 : UInt8), (32 : UInt8), (114 : UInt8), (101 : UInt8), (115 : UInt8), (117 : UInt8), (108 : UInt8), (116 : UInt8), (32 : UInt8), (111 : UInt8), (102 : UInt8), (32 : UInt8), (40 : UInt8), (108 : UInt8), (101 : UInt8), (110 : UInt8), (40 : UInt8), (120 : UInt8), (41 : UInt8), (32 : UInt8), (42 : UInt8), (32 : UInt8), (99 : UInt8), (111 : UInt8), (117 : UInt8), (110 : UInt8), (116 : UInt8), (41 : UInt8), (32 : UInt8), (111 : UInt8), (118 : UInt8), (101 : UInt8), (114 : UInt8), (102 : UInt8), (108 : UInt8), (111 : UInt8), (119 : UInt8), (115 : UInt8)])))))) none [], AOper.mk none (.raw (Op.panic (.tmp 27))) none [0]]
def l22r6 : List AOper :=
  [AOper.mk (some 28) (.mv (.tmp 6)) none [], AOper.mk (some 29) (.conv .i64 (.tmp 28)) none [0], AOper.mk (some 30) (.mkslice 2 [.int .i64 0, .int .i64 0] (.tmp 29) (.tmp 29)) none [1, 1], AOper.mk (some 7) (.mv (.tmp 30)) none [2, 0, 1, 2]]
def l22r7 : List AOper :=
  [AOper.mk (some 31) (.mv (.tmp 7)) none [], AOper.mk (some 32) (.mv (.tmp 0)) none [], AOper.mk (some 33) (.cpy 2 (.tmp 31) (.tmp 32)) none [0, 1], AOper.mk (some 8) (.mv (.tmp 33)) none [2, 2, 0, 1, 2]]
def l22r8 : List AOper :=
  [AOper.mk (some 34) (.mv (.tmp 8)) none [], AOper.mk (some 35) (.mv (.tmp 7)) none [], AOper.mk (some 36) (.len (.tmp 35)) none [1], AOper.mk (some 37) (.bin .lss (.tmp 34) (.tmp 36)) none [0, 2]]
def l22r9a : List AOper :=
  [AOper.mk (some 38) (.mv (.tmp 8)) none [], AOper.mk (some 39) (.mv (.tmp 7)) none [], AOper.mk (some 40) (.mv (.tmp 8)) none [], AOper.mk (some 41) (.slice 2 (.tmp 39) (some (.tmp 40)) none) none [1, 2], AOper.mk (some 42) (.mv (.tmp 7)) none [], AOper.mk (some 43) (.mv (.tmp 8)) none [], AOper.mk (some 44) (.slice 2 (.tmp 42) none (some (.tmp 43))) none [4, 5], AOper.mk (some 45) (.cpy 2 (.tmp 41) (.tmp 44)) none [3, 6]]
def l22r9b : List AOper :=
  [AOper.mk (some 46) (.bin .add (.tmp 38) (.tmp 45)) none [0, 7], AOper.mk (some 8) (.mv (.tmp 46)) none [8, 7, 0, 1, 2, 3, 4, 5, 6, 7, 8]]
def l22r9 : List AOper := l22r9a ++ l22r9b
def l22r10 : List AOper :=
  [AOper.mk (some 47) (.mv (.tmp 7)) none [], AOper.mk (some 4) (.mv (.tmp 47)) none [0, 0]]
def l22 : AFn :=
  (AFn.mk 48 2 (ACode.seq (ACode.reg l22r0) (ACode.seq (ACode.seq (ACode.reg l22r1) (ACode.cond (.tmp 10) (ACode.reg l22r2) ACode.skip)) (ACode.seq (ACode.reg l22r3) (ACode.seq (ACode.seq (ACode.reg l22r4) (ACode.cond (.tmp 26) (ACode.reg l22r5) ACode.skip)) (ACode.seq (ACode.reg l22r6) (ACode.seq (ACode.reg l22r7) (ACode.seq (ACode.block 0 (ACode.loop (ACode.seq (ACode.seq (ACode.reg l22r8) (ACode.cond (.tmp 37) ACode.skip (ACode.exit 0))) (ACode.block 1 (ACode.draw l22r9))))) (ACode.seq (ACode.reg l22r10) ACode.ret)))))))) [ARes.tmp 4])
theorem l22_eq : lowFn Try.prog 22 = some l22 := by kernel_rfl
def l23r0 : List AOper :=
  [AOper.mk (some 2) (.box (.tmp 0)) none [], AOper.mk (some 4) (.alloc [.int .i64 0, .int .i64 0]) none [], AOper.mk (some 5) (.mv (.const (.bool false))) none []]
def l23r1 : List AOper :=
  [AOper.mk (some 6) (.fld 0 (.tmp 2)) none [], AOper.mk (some 7) (.load false 1 (.tmp 6)) none [0], AOper.mk (some 8) (.mv (.tmp 1)) none [], AOper.mk (some 9) (.bin .eql (.tmp 7) (.tmp 8)) none [1, 2]]
def l23r2 : List AOper :=
  [AOper.mk (some 10) (.load true 2 (.tmp 2)) none [], AOper.mk none (.store 2 (.tmp 4) (.tmp 10)) none [0, 0], AOper.mk (some 5) (.mv (.const (.bool true))) none [1, 0, 1]]
def l23r3a : List AOper :=
  [AOper.mk (some 11) (.mv (.tmp 1)) none [], AOper.mk (some 12) (.build [.int .i64 0, .int .i64 0] [(0, 1, .tmp 11)]) none [0], AOper.mk (some 13) (.fld 0 (.tmp 2)) none [], AOper.mk (some 14) (.load false 1 (.tmp 13)) none [2], AOper.mk (some 15) (.bin .eql (.tmp 14) (.const (.int .i64 1))) none [3], AOper.mk none (.store 2 (.tmp 4) (.tmp 12)) none [1, 0, 1]]
def l23r3b : List AOper :=
  [AOper.mk (some 5) (.mv (.tmp 15)) none [4, 5, 0, 1, 2, 3, 4, 5]]
def l23r3 : List AOper := l23r3a ++ l23r3b
def l23 : AFn :=
  (AFn.mk 16 2 (ACode.seq (ACode.reg l23r0) (ACode.seq (ACode.seq (ACode.reg l23r1) (ACode.cond (.tmp 9) (ACode.seq (ACode.reg l23r2) ACode.ret) ACode.skip)) (ACode.seq (ACode.draw l23r3) ACode.ret))) [ARes.cell 4 true 2, ARes.tmp 5])
theorem l23_eq : lowFn Try.prog 23 = some l23 := by kernel_rfl
def l24r0 : List AOper :=
  [AOper.mk (some 1) (.box (.tmp 0)) none [], AOper.mk (some 2) (.alloc [.int .i64 0, .slice none 0 0, .slice none 0 0]) none []]
def l24r1 : List AOper :=
  [AOper.mk (some 4) (.load true 8 (.tmp 1)) none [], AOper.mk (some 5) (.call 40 [.tmp 4]) none [0], AOper.mk (some 3) (.alloc [.int .i64 0, .slice none 0 0, .slice none 0 0]) none [], AOper.mk none (.store 3 (.tmp 3) (.tmp 5)) none [2, 1, 1, 0, 1, 2]]
def l24r2 : List AOper :=
  [AOper.mk (some 6) (.load true 3 (.tmp 3)) none [], AOper.mk (some 7) (.call 27 [.tmp 6]) none [0], AOper.mk (some 8) (.bin .eql (.tmp 7) (.const (.int .i64 0))) none [1]]
def l24r3a : List AOper :=
  [AOper.mk (some 9) (.fld 1 (.tmp 3)) none [], AOper.mk (some 10) (.load false 1 (.tmp 9)) none [0], AOper.mk (some 11) (.len (.tmp 10)) none [1], AOper.mk (some 12) (.mkslice 1 [.int .i64 0] (.tmp 11) (.tmp 11)) none [2, 2], AOper.mk (some 13) (.fld 0 (.tmp 3)) none [0, 1], AOper.mk none (.store 1 (.tmp 13) (.const (.int .i64 0))) none [4, 0, 1]]
def l24r3b : List AOper :=
  [AOper.mk (some 14) (.fld 2 (.tmp 3)) none [0, 1, 2, 3, 4, 5], AOper.mk none (.store 1 (.tmp 14) (.tmp 12)) none [6, 3, 5, 0, 1, 2, 3, 4, 5]]
def l24r3 : List AOper := l24r3a ++ l24r3b
def l24r4 : List AOper :=
  [AOper.mk (some 15) (.load true 3 (.tmp 3)) none [], AOper.mk none (.store 3 (.tmp 2) (.tmp 15)) none [0, 0]]
def l24 : AFn :=
  (AFn.mk 16 1 (ACode.seq (ACode.reg l24r0) (ACode.seq (ACode.reg l24r1) (ACode.seq (ACode.seq (ACode.reg l24r2) (ACode.cond (.tmp 8) (ACode.draw l24r3) ACode.skip)) (ACode.seq (ACode.reg l24r4) ACode.ret)))) [ARes.cell 2 true 3])
theorem l24_eq : lowFn Try.prog 24 = some l24 := by kernel_rfl
def l25r0 : List AOper :=
  [AOper.mk (some 2) (.mv (.const (.slice none 0 0))) none []]
def l25r1 : List AOper :=
  [AOper.mk (some 3) (.mv (.tmp 0)) none [], AOper.mk (some 4) (.call 41 [.tmp 3]) none [0], AOper.mk (some 2) (.mv (.tmp 4)) none [1, 1, 0, 1]]
def l25 : AFn :=
  (AFn.mk 5 1 (ACode.seq (ACode.reg l25r0) (ACode.seq (ACode.reg l25r1) ACode.ret)) [ARes.tmp 2])
theorem l25_eq : lowFn Try.prog 25 = some l25 := by kernel_rfl
def l26r0 : List AOper :=
  [AOper.mk (some 2) (.mv (.const (.slice none 0 0))) none []]
def l26r1 : List AOper :=
  [AOper.mk (some 5) (.mv (.tmp 0)) none [], AOper.mk (some 6) (.call 14 [.tmp 5]) none [0], AOper.mk (some 7) (.un .not (.tmp 6)) none [1]]
def l26r2 : List AOper :=
  [AOper.mk (some 2) (.mv (.const (.slice none 0 0))) none []]
def l26r3 : List AOper :=
  [AOper.mk (some 8) (.mv (.tmp 0)) none [], AOper.mk (some 9) (.len (.tmp 8)) none [0], AOper.mk (some 10) (.mkslice 1 [.int .i64 0] (.tmp 9) (.tmp 9)) none [1, 1], AOper.mk (some 3) (.mv (.tmp 10)) none [2, 0, 1, 2]]
def l26r4 : List AOper :=
  [AOper.mk (some 11) (.mv (.tmp 3)) none [], AOper.mk (some 12) (.len (.tmp 11)) none [0], AOper.mk (some 13) (.mv (.const (.int .i64 0))) none []]
def l26r5 : List AOper :=
  [AOper.mk (some 14) (.bin .lss (.tmp 13) (.tmp 12)) none []]
def l26r6 : List AOper :=
  [AOper.mk (some 15) (.mv (.tmp 13)) none [], AOper.mk (some 4) (.mv (.tmp 15)) none [0, 0]]
def l26r7 : List AOper :=
  [AOper.mk (some 16) (.mv (.tmp 3)) none [], AOper.mk (some 17) (.mv (.tmp 4)) none [], AOper.mk (some 18) (.mv (.tmp 0)) none [], AOper.mk (some 19) (.mv (.tmp 4)) none [], AOper.mk (some 20) (.bin .add (.tmp 19) (.const (.int .i64 1))) none [3], AOper.mk (some 21) (.slice 1 (.tmp 18) (some (.tmp 20)) none) none [2, 4], AOper.mk (some 22) (.call 31 [.tmp 21]) none [5], AOper.mk (some 23) (.idxA 1 (.tmp 16) (.tmp 17)) none [0, 1, 0, 1, 2, 3, 4, 5, 6], AOper.mk none (.store 1 (.tmp 23) (.tmp 22)) none [7, 6, 6, 0, 1, 2, 3, 4, 5, 6]]
def l26r8 : List AOper :=
  [AOper.mk (some 24) (.bin .add (.tmp 13) (.const (.int .i64 1))) none [], AOper.mk (some 13) (.mv (.tmp 24)) none [0]]
def l26r9 : List AOper :=
  [AOper.mk (some 25) (.mv (.tmp 3)) none [], AOper.mk (some 2) (.mv (.tmp 25)) none [0, 0]]
def l26 : AFn :=
  (AFn.mk 26 1 (ACode.seq (ACode.reg l26r0) (ACode.seq (ACode.seq (ACode.reg l26r1) (ACode.cond (.tmp 7) (ACode.seq (ACode.reg l26r2) ACode.ret) ACode.skip)) (ACode.seq (ACode.reg l26r3) (ACode.seq (ACode.seq (ACode.reg l26r4) (ACode.block 0 (ACode.loop (ACode.seq (ACode.reg l26r5) (ACode.seq (ACode.cond (.tmp 14) ACode.skip (ACode.exit 0)) (ACode.seq (ACode.block 1 (ACode.seq (ACode.reg l26r6) (ACode.reg l26r7))) (ACode.reg l26r8))))))) (ACode.seq (ACode.reg l26r9) ACode.ret))))) [ARes.tmp 2])
theorem l26_eq : lowFn Try.prog 26 = some l26 := by kernel_rfl
def l27r0 : List AOper :=
  [AOper.mk (some 1) (.box (.tmp 0)) none [], AOper.mk (some 2) (.mv (.const (.int .i64 0))) none []]
def l27r1 : List AOper :=
  [AOper.mk (some 3) (.fld 1 (.tmp 1)) none [], AOper.mk (some 4) (.load false 1 (.tmp 3)) none [0], AOper.mk (some 5) (.call 31 [.tmp 4]) none [1], AOper.mk (some 2) (.mv (.tmp 5)) none [2, 2, 0, 1, 2]]
def l27 : AFn :=
  (AFn.mk 6 1 (ACode.seq (ACode.reg l27r0) (ACode.seq (ACode.reg l27r1) ACode.ret)) [ARes.tmp 2])
theorem l27_eq : lowFn Try.prog 27 = some l27 := by kernel_rfl
def l28r0 : List AOper :=
  [AOper.mk (some 2) (.mv (.const (.slice none 0 0))) none []]
def l28r1 : List AOper :=
  [AOper.mk (some 6) (.bslice 1 [.int .i64 0] [] 0) none [], AOper.mk (some 3) (.mv (.tmp 6)) none [0, 0]]
def l28r2 : List AOper :=
  [AOper.mk (some 7) (.mv (.tmp 0)) none [], AOper.mk (some 8) (.bslice 1 [.int .i64 0] [(0, .const (.int .i64 2)), (1, .const (.int .i64 1)), (2, .const (.int .i64 3)), (3, .const (.int .i64 2)), (4, .const (.int .i64 0)), (5, .const (.int .i64 4))] 6) none [], AOper.mk (some 9) (.call 29 [.tmp 7, .tmp 8]) none [0, 1], AOper.mk (some 4) (.mv (.tmp 9)) none [2, 2, 0, 1, 2]]
def l28r3 : List AOper :=
  [AOper.mk (some 10) (.mv (.tmp 4)) none [], AOper.mk (some 11) (.bin .gtr (.tmp 10) (.const (.int .i64 0))) none [0]]
def l28r4 : List AOper :=
  [AOper.mk (some 14) (.mv (.tmp 0)) none [], AOper.mk (some 15) (.bslice 1 [.int .i64 0] [(0, .const (.int .i64 2)), (1, .const (.int .i64 3)), (2, .const (.int .i64 1)), (3, .const (.int .i64 4)), (4, .const (.int .i64 2)), (5, .const (.int .i64 3)), (6, .const (.int .i64 5)), (7, .const (.int .i64 0))] 8) none [], AOper.mk (some 16) (.call 29 [.tmp 14, .tmp 15]) none [0, 1], AOper.mk (some 5) (.mv (.tmp 16)) none [2, 2, 0, 1, 2]]
def l28r5 : List AOper :=
  [AOper.mk (some 17) (.mv (.tmp 3)) none [], AOper.mk (some 18) (.call 35 [.tmp 17]) none [0], AOper.mk (some 19) (.mv (.tmp 5)) none [], AOper.mk (some 20) (.bin .mul (.tmp 18) (.tmp 19)) none [1, 2], AOper.mk (some 21) (.bin .leq (.tmp 20) (.const (.int .i64 60))) none [3]]
def l28r6 : List AOper :=
  [AOper.mk (some 22) (.mv (.tmp 3)) none [], AOper.mk (some 23) (.mv (.tmp 5)) none [], AOper.mk (some 24) (.bslice 1 [.int .i64 0] [(0, .tmp 23)] 1) none [1], AOper.mk (some 25) (.append 1 (.tmp 22) (.tmp 24)) none [0, 2], AOper.mk (some 3) (.mv (.tmp 25)) none [3, 3, 0, 1, 2, 3]]
def l28r7 : List AOper :=
  [AOper.mk (some 12) (.mv (.tmp 4)) none [], AOper.mk (some 13) (.bin .sub (.tmp 12) (.const (.int .i64 1))) none [0], AOper.mk (some 4) (.mv (.tmp 13)) none [1, 0, 1]]
def l28r8 : List AOper :=
  [AOper.mk (some 26) (.mv (.tmp 3)) none [], AOper.mk (some 2) (.mv (.tmp 26)) none [0, 0]]
def l28 : AFn :=
  (AFn.mk 27 1 (ACode.seq (ACode.reg l28r0) (ACode.seq (ACode.reg l28r1) (ACode.seq (ACode.seq (ACode.reg l28r2) (ACode.block 0 (ACode.loop (ACode.seq (ACode.seq (ACode.reg l28r3) (ACode.cond (.tmp 11) ACode.skip (ACode.exit 0))) (ACode.seq (ACode.block 1 (ACode.seq (ACode.reg l28r4) (ACode.seq (ACode.reg l28r5) (ACode.cond (.tmp 21) (ACode.reg l28r6) ACode.skip)))) (ACode.reg l28r7)))))) (ACode.seq (ACode.reg l28r8) ACode.ret)))) [ARes.tmp 2])
theorem l28_eq : lowFn Try.prog 28 = some l28 := by kernel_rfl
def l29r0 : List AOper :=
  [AOper.mk (some 4) (.mv (.const (.int .i64 0))) none []]
def l29r1 : List AOper :=
  [AOper.mk (some 5) (.mv (.tmp 1)) none [], AOper.mk (some 6) (.mv (.tmp 0)) none [], AOper.mk (some 7) (.mv (.tmp 1)) none [], AOper.mk (some 8) (.len (.tmp 7)) none [2], AOper.mk (some 9) (.call 12 [.tmp 6, .tmp 8]) none [1, 3], AOper.mk (some 10) (.idxA 1 (.tmp 5) (.tmp 9)) none [0, 4], AOper.mk (some 11) (.load false 1 (.tmp 10)) none [5], AOper.mk (some 4) (.mv (.tmp 11)) none [6, 4, 0, 1, 2, 3, 4, 5, 6]]
def l29 : AFn :=
  (AFn.mk 12 2 (ACode.seq (ACode.reg l29r0) (ACode.seq (ACode.reg l29r1) ACode.ret)) [ARes.tmp 4])
theorem l29_eq : lowFn Try.prog 29 = some l29 := by kernel_rfl
def l30r0 : List AOper :=
  [AOper.mk (some 4) (.mv (.const (.bool false))) none []]
def l30r1 : List AOper :=
  [AOper.mk (some 5) (.mv (.tmp 0)) none [], AOper.mk (some 6) (.bin .leq (.const (.int .i64 0)) (.tmp 5)) none [0], AOper.mk (some 7) (.mv (.tmp 6)) none [1], AOper.mk (some 8) (.mv (.tmp 0)) (some (7, true)) [2], AOper.mk (some 9) (.mv (.tmp 1)) (some (7, true)) [2], AOper.mk (some 10) (.bin .leq (.tmp 8) (.tmp 9)) (some (7, true)) [3, 4, 2], AOper.mk (some 11) (.pick (.tmp 7) (.tmp 10) (.const (.bool false))) none [2, 5], AOper.mk (some 4) (.mv (.tmp 11)) none [6, 2, 0, 1, 2, 3, 4, 5, 6]]
def l30 : AFn :=
  (AFn.mk 12 2 (ACode.seq (ACode.reg l30r0) (ACode.seq (ACode.reg l30r1) ACode.ret)) [ARes.tmp 4])
theorem l30_eq : lowFn Try.prog 30 = some l30 := by kernel_rfl
def l31r0 : List AOper :=
  [AOper.mk (some 2) (.mv (.const (.int .i64 0))) none []]
def l31r1 : List AOper :=
  [AOper.mk (some 3) (.mv (.const (.int .i64 1))) none []]
def l31r2 : List AOper :=
  [AOper.mk (some 6) (.mv (.tmp 0)) none [], AOper.mk (some 7) (.len (.tmp 6)) none [0], AOper.mk (some 8) (.mv (.const (.int .i64 0))) none []]
def l31r3 : List AOper :=
  [AOper.mk (some 9) (.bin .lss (.tmp 8) (.tmp 7)) none []]
def l31r4 : List AOper :=
  [AOper.mk (some 10) (.idxA 1 (.tmp 6) (.tmp 8)) none [], AOper.mk (some 11) (.load false 1 (.tmp 10)) none [0], AOper.mk (some 5) (.mv (.tmp 11)) none [1, 0, 1]]
def l31r5 : List AOper :=
  [AOper.mk (some 12) (.mv (.tmp 3)) none [], AOper.mk (some 13) (.mv (.tmp 5)) none [], AOper.mk (some 14) (.bin .mul (.tmp 12) (.tmp 13)) none [0, 1], AOper.mk (some 3) (.mv (.tmp 14)) none [2, 0, 1, 2]]
def l31r6 : List AOper :=
  [AOper.mk (some 15) (.bin .add (.tmp 8) (.const (.int .i64 1))) none [], AOper.mk (some 8) (.mv (.tmp 15)) none [0]]
def l31r7 : List AOper :=
  [AOper.mk (some 16) (.mv (.tmp 3)) none [], AOper.mk (some 2) (.mv (.tmp 16)) none [0, 0]]
def l31 : AFn :=
  (AFn.mk 17 1 (ACode.seq (ACode.reg l31r0) (ACode.seq (ACode.reg l31r1) (ACode.seq (ACode.seq (ACode.reg l31r2) (ACode.block 0 (ACode.loop (ACode.seq (ACode.reg l31r3) (ACode.seq (ACode.cond (.tmp 9) ACode.skip (ACode.exit 0)) (ACode.seq (ACode.block 1 (ACode.seq (ACode.reg l31r4) (ACode.reg l31r5))) (ACode.reg l31r6))))))) (ACode.seq (ACode.reg l31r7) ACode.ret)))) [ARes.tmp 2])
theorem l31_eq : lowFn Try.prog 31 = some l31 := by kernel_rfl
def l32r0 : List AOper :=
  [AOper.mk (some 2) (.mv (.const (.slice none 0 0))) none []]
def l32r1 : List AOper :=
  [AOper.mk (some 3) (.mv (.const (.int .i64 0))) none []]
def l32r2 : List AOper :=
  [AOper.mk (some 9) (.mv (.tmp 0)) none [], AOper.mk (some 10) (.len (.tmp 9)) none [0], AOper.mk (some 11) (.mv (.const (.int .i64 0))) none []]
def l32r3 : List AOper :=
  [AOper.mk (some 12) (.bin .lss (.tmp 11) (.tmp 10)) none []]
def l32r4 : List AOper :=
  [AOper.mk (some 13) (.idxA 1 (.tmp 9) (.tmp 11)) none [], AOper.mk (some 14) (.load false 1 (.tmp 13)) none [0], AOper.mk (some 5) (.mv (.tmp 14)) none [1, 0, 1]]
def l32r5 : List AOper :=
  [AOper.mk (some 15) (.mv (.tmp 3)) none [], AOper.mk (some 16) (.mv (.tmp 5)) none [], AOper.mk (some 17) (.len (.tmp 16)) none [1], AOper.mk (some 18) (.bin .add (.tmp 15) (.tmp 17)) none [0, 2], AOper.mk (some 3) (.mv (.tmp 18)) none [3, 0, 1, 2, 3]]
def l32r6 : List AOper :=
  [AOper.mk (some 19) (.mv (.tmp 3)) none [], AOper.mk (some 20) (.bin .lss (.tmp 19) (.const (.int .i64 0))) none [0]]
def l32r7 : List AOper :=
  [AOper.mk (some 21) (.raw (Op.makeInterface 9 (.const (.string (ByteArray.mk (Array.mk [(108 : UInt8), (101 : UInt8), (110 : UInt8), (32 : UInt8), (111 : UInt8), (117 : UInt8), (116 : UInt8), (32 : UInt8), (111 : UInt8), (102 : UInt8), (32 : UInt8), (114 : UInt8), (97 : UInt8), (110 : UInt8), (103 : UInt8), (101 : UInt8)])))))) none [], AOper.mk none (.raw (Op.panic (.tmp 21))) none [0]]
def l32r8 : List AOper :=
  [AOper.mk (some 22) (.bin .add (.tmp 11) (.const (.int .i64 1))) none [], AOper.mk (some 11) (.mv (.tmp 22)) none [0]]
def l32r9 : List AOper :=
  [AOper.mk (some 23) (.mv (.tmp 3)) none [], AOper.mk (some 24) (.call 42 [.const (.slice none 0 0), .tmp 23]) none [0], AOper.mk (some 6) (.mv (.tmp 24)) none [1, 1, 0, 1]]
def l32r10 : List AOper :=
  [AOper.mk (some 25) (.mv (.tmp 0)) none [], AOper.mk (some 26) (.len (.tmp 25)) none [0], AOper.mk (some 27) (.mv (.const (.int .i64 0))) none []]
def l32r11 : List AOper :=
  [AOper.mk (some 28) (.bin .lss (.tmp 27) (.tmp 26)) none []]
def l32r12 : List AOper :=
  [AOper.mk (some 29) (.idxA 1 (.tmp 25) (.tmp 27)) none [], AOper.mk (some 30) (.load false 1 (.tmp 29)) none [0], AOper.mk (some 8) (.mv (.tmp 30)) none [1, 0, 1]]
def l32r13 : List AOper :=
  [AOper.mk (some 31) (.mv (.tmp 6)) none [], AOper.mk (some 32) (.mv (.tmp 8)) none [], AOper.mk (some 33) (.append 1 (.tmp 31) (.tmp 32)) none [0, 1], AOper.mk (some 6) (.mv (.tmp 33)) none [2, 2, 0, 1, 2]]
def l32r14 : List AOper :=
  [AOper.mk (some 34) (.bin .add (.tmp 27) (.const (.int .i64 1))) none [], AOper.mk (some 27) (.mv (.tmp 34)) none [0]]
def l32r15 : List AOper :=
  [AOper.mk (some 35) (.mv (.tmp 6)) none [], AOper.mk (some 2) (.mv (.tmp 35)) none [0, 0]]
def l32 : AFn :=
  (AFn.mk 36 1 (ACode.seq (ACode.reg l32r0) (ACode.seq (ACode.reg l32r1) (ACode.seq (ACode.seq (ACode.reg l32r2) (ACode.block 0 (ACode.loop (ACode.seq (ACode.reg l32r3) (ACode.seq (ACode.cond (.tmp 12) ACode.skip (ACode.exit 0)) (ACode.seq (ACode.block 1 (ACode.seq (ACode.reg l32r4) (ACode.seq (ACode.reg l32r5) (ACode.seq (ACode.reg l32r6) (ACode.cond (.tmp 20) (ACode.reg l32r7) ACode.skip))))) (ACode.reg l32r8))))))) (ACode.seq (ACode.reg l32r9) (ACode.seq (ACode.seq (ACode.reg l32r10) (ACode.block 2 (ACode.loop (ACode.seq (ACode.reg l32r11) (ACode.seq (ACode.cond (.tmp 28) ACode.skip (ACode.exit 2)) (ACode.seq (ACode.block 3 (ACode.seq (ACode.reg l32r12) (ACode.reg l32r13))) (ACode.reg l32r14))))))) (ACode.seq (ACode.reg l32r15) ACode.ret)))))) [ARes.tmp 2])
theorem l32_eq : lowFn Try.prog 32 = some l32 := by kernel_rfl
def l33r0 : List AOper :=
  [AOper.mk (some 4) (.mv (.const (.slice none 0 0))) none []]
def l33r1 : List AOper :=
  [AOper.mk (some 9) (.mv (.tmp 1)) none [], AOper.mk (some 10) (.bin .lss (.tmp 9) (.const (.int .i64 0))) none [0]]
def l33r2 : List AOper :=
  [AOper.mk (some 11) (.raw (Op.makeInterface 9 (.const (.string (ByteArray.mk (Array.mk [(99 : UInt8), (97 : UInt8), (110 : UInt8), (110 : UInt8), (111 : UInt8), (116 : UInt8), (32 : UInt8), (98 : UInt8), (101 : UInt8), (32 : UInt8), (110 : UInt8), (101 : UInt8), (103 : UInt8), (97 : UInt8), (116 : UInt8), (105 : UInt8), (118 : UInt8), (101 : UInt8)])))))) none [], AOper.mk none (.raw (Op.panic (.tmp 11))) none [0]]
def l33r3 : List AOper :=
  [AOper.mk (some 13) (.mv (.tmp 0)) none [], AOper.mk (some 14) (.len (.tmp 13)) none [0], AOper.mk (some 15) (.conv .u64 (.tmp 14)) none [1], AOper.mk (some 16) (.mv (.tmp 1)) none [], AOper.mk (some 17) (.conv .u64 (.tmp 16)) none [3], AOper.mk (some 18) (.call 39 [.tmp 15, .tmp 17]) none [2, 4], AOper.mk (some 12) (.mv (.tmp 18)) none [5], AOper.mk (some 19) (.extract (.tmp 12) 0) none [6], AOper.mk (some 20) (.extract (.tmp 12) 1) none [6], AOper.mk (some 5) (.mv (.tmp 19)) none [7, 5, 0, 1, 2, 3, 4, 5, 6, 7], AOper.mk (some 6) (.mv (.tmp 20)) none [8, 9, 0, 1, 2, 3, 4, 5, 6, 7, 8, 9]]
def l33r4 : List AOper :=
  [AOper.mk (some 21) (.mv (.tmp 5)) none [], AOper.mk (some 22) (.bin .gtr (.tmp 21) (.const (.int .u64 0))) none [0], AOper.mk (some 23) (.mv (.tmp 22)) none [1], AOper.mk (some 24) (.mv (.tmp 6)) (some (23, false)) [2], AOper.mk (some 25) (.bin .gtr (.tmp 24) (.const (.int .u64 9223372036854775807))) (some (23, false)) [3, 2], AOper.mk (some 26) (.pick (.tmp 23) (.const (.bool true)) (.tmp 25)) none [2, 4]]
def l33r5 : List AOper :=
  [AOper.mk (some 27) (.raw (Op.makeInterface 9 (.const (.string (ByteArray.mk (Array.mk [(116 : UInt8), (104 : UInt8), (101 : UInt8), (32 : UInt8), (114 : UInt8), (101 : UInt8), (115 : UInt8), (117 : UInt8), (108 : UInt8), (116 : UInt8), (32 : UInt8), (111 : UInt8), (102 : UInt8), (32 : UInt8), (40 : UInt8), (108 : UInt8), (101 : UInt8), (110 : UInt8), (40 : UInt8), (120 : UInt8), (41 : UInt8), (32 : UInt8), (42 : UInt8), (32 : UInt8), (99 : UInt8), (111 : UInt8), (117 : UInt8), (110 : UInt8), (116 : UInt8), (41 : UInt8), (32 : UInt8), (111 : UInt8), (118 : UInt8), (101 : UInt8), (114 : UInt8), (102 : UInt8), (108 : UInt8), (111 : UInt8), (119 : UInt8), (115 : UInt8)])))))) none [], AOper.mk none (.raw (Op.panic (.tmp 27))) none [0]]
def l33r6 : List AOper :=
  [AOper.mk (some 28) (.mv (.tmp 6)) none [], AOper.mk (some 29) (.conv .i64 (.tmp 28)) none [0], AOper.mk (some 30) (.mkslice 1 [.int .i64 0] (.tmp 29) (.tmp 29)) none [1, 1], AOper.mk (some 7) (.mv (.tmp 30)) none [2, 0, 1, 2]]
def l33r7 : List AOper :=
  [AOper.mk (some 31) (.mv (.tmp 7)) none [], AOper.mk (some 32) (.mv (.tmp 0)) none [], AOper.mk (some 33) (.cpy 1 (.tmp 31) (.tmp 32)) none [0, 1], AOper.mk (some 8) (.mv (.tmp 33)) none [2, 2, 0, 1, 2]]
def l33r8 : List AOper :=
  [AOper.mk (some 34) (.mv (.tmp 8)) none [], AOper.mk (some 35) (.mv (.tmp 7)) none [], AOper.mk (some 36) (.len (.tmp 35)) none [1], AOper.mk (some 37) (.bin .lss (.tmp 34) (.tmp 36)) none [0, 2]]
def l33r9a : List AOper :=
  [AOper.mk (some 38) (.mv (.tmp 8)) none [], AOper.mk (some 39) (.mv (.tmp 7)) none [], AOper.mk (some 40) (.mv (.tmp 8)) none [], AOper.mk (some 41) (.slice 1 (.tmp 39) (some (.tmp 40)) none) none [1, 2], AOper.mk (some 42) (.mv (.tmp 7)) none [], AOper.mk (some 43) (.mv (.tmp 8)) none [], AOper.mk (some 44) (.slice 1 (.tmp 42) none (some (.tmp 43))) none [4, 5], AOper.mk (some 45) (.cpy 1 (.tmp 41) (.tmp 44)) none [3, 6]]
def l33r9b : List AOper :=
  [AOper.mk (some 46) (.bin .add (.tmp 38) (.tmp 45)) none [0, 7], AOper.mk (some 8) (.mv (.tmp 46)) none [8, 7, 0, 1, 2, 3, 4, 5, 6, 7, 8]]
def l33r9 : List AOper := l33r9a ++ l33r9b
def l33r10 : List AOper :=
  [AOper.mk (some 47) (.mv (.tmp 7)) none [], AOper.mk (some 4) (.mv (.tmp 47)) none [0, 0]]
def l33 : AFn :=
  (AFn.mk 48 2 (ACode.seq (ACode.reg l33r0) (ACode.seq (ACode.seq (ACode.reg l33r1) (ACode.cond (.tmp 10) (ACode.reg l33r2) ACode.skip)) (ACode.seq (ACode.reg l33r3) (ACode.seq (ACode.seq (ACode.reg l33r4) (ACode.cond (.tmp 26) (ACode.reg l33r5) ACode.skip)) (ACode.seq (ACode.reg l33r6) (ACode.seq (ACode.reg l33r7) (ACode.seq (ACode.block 0 (ACode.loop (ACode.seq (ACode.seq (ACode.reg l33r8) (ACode.cond (.tmp 37) ACode.skip (ACode.exit 0))) (ACode.block 1 (ACode.draw l33r9))))) (ACode.seq (ACode.reg l33r10) ACode.ret)))))))) [ARes.tmp 4])
theorem l33_eq : lowFn Try.prog 33 = some l33 := by kernel_rfl
def l34r0 : List AOper :=
  [AOper.mk (some 6) (.mv (.const (.bool false))) none []]
def l34r1 : List AOper :=
  [AOper.mk (some 7) (.mv (.const (.int .i64 0))) none []]
def l34r2 : List AOper :=
  [AOper.mk (some 8) (.mv (.tmp 7)) none [], AOper.mk (some 9) (.mv (.tmp 0)) none [], AOper.mk (some 10) (.len (.tmp 9)) none [1], AOper.mk (some 11) (.bin .lss (.tmp 8) (.tmp 10)) none [0, 2]]
def l34r3 : List AOper :=
  [AOper.mk (some 14) (.mv (.tmp 0)) none [], AOper.mk (some 15) (.mv (.tmp 7)) none [], AOper.mk (some 16) (.idxA 1 (.tmp 14) (.tmp 15)) none [0, 1], AOper.mk (some 17) (.load false 1 (.tmp 16)) none [2], AOper.mk (some 18) (.mv (.tmp 1)) none [], AOper.mk (some 19) (.mv (.tmp 2)) none [], AOper.mk (some 20) (.call 43 [.tmp 17, .tmp 18, .tmp 19]) none [3, 4, 5], AOper.mk (some 21) (.un .not (.tmp 20)) none [6]]
def l34r4 : List AOper :=
  [AOper.mk (some 6) (.mv (.const (.bool false))) none []]
def l34r5 : List AOper :=
  [AOper.mk (some 12) (.mv (.tmp 7)) none [], AOper.mk (some 13) (.bin .add (.tmp 12) (.const (.int .i64 1))) none [0], AOper.mk (some 7) (.mv (.tmp 13)) none [1, 0, 1]]
def l34r6 : List AOper :=
  [AOper.mk (some 6) (.mv (.const (.bool true))) none []]
def l34 : AFn :=
  (AFn.mk 22 3 (ACode.seq (ACode.reg l34r0) (ACode.seq (ACode.seq (ACode.reg l34r1) (ACode.block 0 (ACode.loop (ACode.seq (ACode.seq (ACode.reg l34r2) (ACode.cond (.tmp 11) ACode.skip (ACode.exit 0))) (ACode.seq (ACode.block 1 (ACode.seq (ACode.reg l34r3) (ACode.cond (.tmp 21) (ACode.seq (ACode.reg l34r4) ACode.ret) ACode.skip))) (ACode.reg l34r5)))))) (ACode.seq (ACode.reg l34r6) ACode.ret))) [ARes.tmp 6])
theorem l34_eq : lowFn Try.prog 34 = some l34 := by kernel_rfl
def l35r0 : List AOper :=
  [AOper.mk (some 2) (.mv (.const (.int .i64 0))) none []]
def l35r1 : List AOper :=
  [AOper.mk (some 3) (.mv (.const (.int .i64 1))) none []]
def l35r2 : List AOper :=
  [AOper.mk (some 4) (.mv (.const (.int .i64 0))) none []]
def l35r3 : List AOper :=
  [AOper.mk (some 5) (.mv (.tmp 4)) none [], AOper.mk (some 6) (.mv (.tmp 0)) none [], AOper.mk (some 7) (.len (.tmp 6)) none [1], AOper.mk (some 8) (.bin .lss (.tmp 5) (.tmp 7)) none [0, 2]]
def l35r4 : List AOper :=
  [AOper.mk (some 11) (.mv (.tmp 3)) none [], AOper.mk (some 12) (.mv (.tmp 0)) none [], AOper.mk (some 13) (.mv (.tmp 4)) none [], AOper.mk (some 14) (.idxA 1 (.tmp 12) (.tmp 13)) none [1, 2], AOper.mk (some 15) (.load false 1 (.tmp 14)) none [3], AOper.mk (some 16) (.bin .mul (.tmp 11) (.tmp 15)) none [0, 4], AOper.mk (some 3) (.mv (.tmp 16)) none [5, 0, 1, 2, 3, 4, 5]]
def l35r5 : List AOper :=
  [AOper.mk (some 9) (.mv (.tmp 4)) none [], AOper.mk (some 10) (.bin .add (.tmp 9) (.const (.int .i64 1))) none [0], AOper.mk (some 4) (.mv (.tmp 10)) none [1, 0, 1]]
def l35r6 : List AOper :=
  [AOper.mk (some 17) (.mv (.tmp 3)) none [], AOper.mk (some 2) (.mv (.tmp 17)) none [0, 0]]
def l35 : AFn :=
  (AFn.mk 18 1 (ACode.seq (ACode.reg l35r0) (ACode.seq (ACode.reg l35r1) (ACode.seq (ACode.seq (ACode.reg l35r2) (ACode.block 0 (ACode.loop (ACode.seq (ACode.seq (ACode.reg l35r3) (ACode.cond (.tmp 8) ACode.skip (ACode.exit 0))) (ACode.seq (ACode.block 1 (ACode.reg l35r4)) (ACode.reg l35r5)))))) (ACode.seq (ACode.reg l35r6) ACode.ret)))) [ARes.tmp 2])
theorem l35_eq : lowFn Try.prog 35 = some l35 := by kernel_rfl
def l36r0 : List AOper :=
  [AOper.mk (some 4) (.mv (.const (.bool false))) none []]
def l36r1 : List AOper :=
  [AOper.mk (some 7) (.mv (.tmp 0)) none [], AOper.mk (some 8) (.len (.tmp 7)) none [0], AOper.mk (some 9) (.mv (.tmp 1)) none [], AOper.mk (some 10) (.bin .neq (.tmp 8) (.tmp 9)) none [1, 2]]
def l36r2 : List AOper :=
  [AOper.mk (some 4) (.mv (.const (.bool false))) none []]
def l36r3 : List AOper :=
  [AOper.mk (some 11) (.mv (.tmp 0)) none [], AOper.mk (some 12) (.len (.tmp 11)) none [0], AOper.mk (some 13) (.mv (.const (.int .i64 0))) none []]
def l36r4 : List AOper :=
  [AOper.mk (some 14) (.bin .lss (.tmp 13) (.tmp 12)) none []]
def l36r5 : List AOper :=
  [AOper.mk (some 15) (.idxA 1 (.tmp 11) (.tmp 13)) none [], AOper.mk (some 16) (.load false 1 (.tmp 15)) none [0], AOper.mk (some 6) (.mv (.tmp 16)) none [1, 0, 1]]
def l36r6 : List AOper :=
  [AOper.mk (some 17) (.mv (.tmp 6)) none [], AOper.mk (some 18) (.call 44 [.tmp 17, .const (.int .i64 60)]) none [0], AOper.mk (some 19) (.un .not (.tmp 18)) none [1]]
def l36r7 : List AOper :=
  [AOper.mk (some 4) (.mv (.const (.bool false))) none []]
def l36r8 : List AOper :=
  [AOper.mk (some 20) (.bin .add (.tmp 13) (.const (.int .i64 1))) none [], AOper.mk (some 13) (.mv (.tmp 20)) none [0]]
def l36r9 : List AOper :=
  [AOper.mk (some 4) (.mv (.const (.bool true))) none []]
def l36 : AFn :=
  (AFn.mk 21 2 (ACode.seq (ACode.reg l36r0) (ACode.seq (ACode.seq (ACode.reg l36r1) (ACode.cond (.tmp 10) (ACode.seq (ACode.reg l36r2) ACode.ret) ACode.skip)) (ACode.seq (ACode.seq (ACode.reg l36r3) (ACode.block 0 (ACode.loop (ACode.seq (ACode.reg l36r4) (ACode.seq (ACode.cond (.tmp 14) ACode.skip (ACode.exit 0)) (ACode.seq (ACode.block 1 (ACode.seq (ACode.reg l36r5) (ACode.seq (ACode.reg l36r6) (ACode.cond (.tmp 19) (ACode.seq (ACode.reg l36r7) ACode.ret) ACode.skip)))) (ACode.reg l36r8))))))) (ACode.seq (ACode.reg l36r9) ACode.ret)))) [ARes.tmp 4])
theorem l36_eq : lowFn Try.prog 36 = some l36 := by kernel_rfl
def l37r0 : List AOper :=
  [AOper.mk (some 1) (.box (.tmp 0)) none [], AOper.mk (some 2) (.mv (.const (.int .i64 0))) none [], AOper.mk (some 3) (.mv (.const (.int .i64 0))) none [1]]
def l37r1 : List AOper :=
  [AOper.mk (some 9) (.load true 3 (.tmp 1)) none [], AOper.mk (some 10) (.call 27 [.tmp 9]) none [0], AOper.mk (some 11) (.bin .eql (.tmp 10) (.const (.int .i64 0))) none [1]]
def l37r2 : List AOper :=
  [AOper.mk (some 2) (.mv (.const (.int .i64 (-1)))) none [], AOper.mk (some 3) (.mv (.const (.int .i64 (-1)))) none [0, 0]]
def l37r3a : List AOper :=
  [AOper.mk (some 12) (.fld 0 (.tmp 1)) none [], AOper.mk (some 13) (.load false 1 (.tmp 12)) none [0], AOper.mk (some 14) (.fld 0 (.tmp 1)) none [], AOper.mk (some 15) (.load false 1 (.tmp 14)) none [2], AOper.mk (some 4) (.mv (.tmp 13)) none [1, 0, 1]]
def l37r3b : List AOper :=
  [AOper.mk (some 5) (.mv (.tmp 15)) none [3, 4, 0, 1, 2, 3, 4]]
def l37r3 : List AOper := l37r3a ++ l37r3b
def l37r4 : List AOper :=
  [AOper.mk (some 16) (.fld 2 (.tmp 1)) none [], AOper.mk (some 17) (.load false 1 (.tmp 16)) none [0], AOper.mk (some 18) (.len (.tmp 17)) none [1], AOper.mk (some 19) (.mv (.const (.int .i64 0))) none []]
def l37r5 : List AOper :=
  [AOper.mk (some 20) (.bin .lss (.tmp 19) (.tmp 18)) none []]
def l37r6 : List AOper :=
  [AOper.mk (some 21) (.mv (.tmp 19)) none [], AOper.mk (some 22) (.idxA 1 (.tmp 17) (.tmp 19)) none [], AOper.mk (some 23) (.load false 1 (.tmp 22)) none [1], AOper.mk (some 6) (.mv (.tmp 21)) none [0, 0, 1, 2], AOper.mk (some 7) (.mv (.tmp 23)) none [2, 3, 0, 1, 2, 3]]
def l37r7 : List AOper :=
  [AOper.mk (some 24) (.fld 1 (.tmp 1)) none [], AOper.mk (some 25) (.load false 1 (.tmp 24)) none [0], AOper.mk (some 26) (.mv (.tmp 6)) none [], AOper.mk (some 27) (.idxA 1 (.tmp 25) (.tmp 26)) none [1, 2], AOper.mk (some 28) (.load false 1 (.tmp 27)) none [3], AOper.mk (some 29) (.bin .sub (.tmp 28) (.const (.int .i64 1))) none [4], AOper.mk (some 30) (.mv (.tmp 7)) none [], AOper.mk (some 31) (.bin .mul (.tmp 29) (.tmp 30)) none [5, 6], AOper.mk (some 8) (.mv (.tmp 31)) none [7, 0, 1, 2, 3, 4, 5, 6, 7]]
def l37r8 : List AOper :=
  [AOper.mk (some 32) (.mv (.tmp 4)) none [], AOper.mk (some 33) (.mv (.tmp 8)) none [], AOper.mk (some 34) (.minmax false (.tmp 33) (.const (.int .i64 0))) none [1], AOper.mk (some 35) (.bin .add (.tmp 32) (.tmp 34)) none [0, 2], AOper.mk (some 4) (.mv (.tmp 35)) none [3, 0, 1, 2, 3]]
def l37r9 : List AOper :=
  [AOper.mk (some 36) (.mv (.tmp 5)) none [], AOper.mk (some 37) (.mv (.tmp 8)) none [], AOper.mk (some 38) (.minmax true (.tmp 37) (.const (.int .i64 0))) none [1], AOper.mk (some 39) (.bin .add (.tmp 36) (.tmp 38)) none [0, 2], AOper.mk (some 5) (.mv (.tmp 39)) none [3, 0, 1, 2, 3]]
def l37r10 : List AOper :=
  [AOper.mk (some 40) (.bin .add (.tmp 19) (.const (.int .i64 1))) none [], AOper.mk (some 19) (.mv (.tmp 40)) none [0]]
def l37r11 : List AOper :=
  [AOper.mk (some 41) (.mv (.tmp 4)) none [], AOper.mk (some 42) (.mv (.tmp 5)) none [], AOper.mk (some 2) (.mv (.tmp 41)) none [0, 0], AOper.mk (some 3) (.mv (.tmp 42)) none [1, 2, 0, 1, 2]]
def l37 : AFn :=
  (AFn.mk 43 1 (ACode.seq (ACode.reg l37r0) (ACode.seq (ACode.seq (ACode.reg l37r1) (ACode.cond (.tmp 11) (ACode.seq (ACode.reg l37r2) ACode.ret) ACode.skip)) (ACode.seq (ACode.draw l37r3) (ACode.seq (ACode.seq (ACode.reg l37r4) (ACode.block 0 (ACode.loop (ACode.seq (ACode.reg l37r5) (ACode.seq (ACode.cond (.tmp 20) ACode.skip (ACode.exit 0)) (ACode.seq (ACode.block 1 (ACode.seq (ACode.reg l37r6) (ACode.seq (ACode.reg l37r7) (ACode.seq (ACode.reg l37r8) (ACode.reg l37r9))))) (ACode.reg l37r10))))))) (ACode.seq (ACode.reg l37r11) ACode.ret))))) [ARes.tmp 2, ARes.tmp 3])
theorem l37_eq : lowFn Try.prog 37 = some l37 := by kernel_rfl
def l38r0 : List AOper :=
  [AOper.mk (some 4) (.mv (.const (.slice none 0 0))) none []]
def l38r1 : List AOper :=
  [AOper.mk (some 5) (.mv (.tmp 1)) none [], AOper.mk (some 6) (.bin .lss (.tmp 5) (.const (.int .i64 0))) none [0]]
def l38r2 : List AOper :=
  [AOper.mk (some 7) (.raw (Op.makeInterface 9 (.const (.string (ByteArray.mk (Array.mk [(99 : UInt8), (97 : UInt8), (110 : UInt8), (110 : UInt8), (111 : UInt8), (116 : UInt8), (32 : UInt8), (98 : UInt8), (101 : UInt8), (32 : UInt8), (110 : UInt8), (101 : UInt8), (103 : UInt8), (97 : UInt8), (116 : UInt8), (105 : UInt8), (118 : UInt8), (101 : UInt8)])))))) none [], AOper.mk none (.raw (Op.panic (.tmp 7))) none [0]]
def l38r3 : List AOper :=
  [AOper.mk (some 8) (.mv (.tmp 1)) none [], AOper.mk (some 9) (.mv (.tmp 0)) none [], AOper.mk (some 10) (.raw (Op.call (Call.mk (Callee.builtin Builtin.cap) (Array.mk [.tmp 9]) (Array.mk [48])))) none [1], AOper.mk (some 11) (.mv (.tmp 0)) none [], AOper.mk (some 12) (.len (.tmp 11)) none [3], AOper.mk (some 13) (.bin .sub (.tmp 10) (.tmp 12)) none [2, 4], AOper.mk (some 14) (.bin .sub (.tmp 8) (.tmp 13)) none [0, 5], AOper.mk (some 1) (.mv (.tmp 14)) none [6, 0, 1, 2, 3, 4, 5, 6]]
def l38r4 : List AOper :=
  [AOper.mk (some 15) (.mv (.tmp 1)) none [], AOper.mk (some 16) (.bin .gtr (.tmp 15) (.const (.int .i64 0))) none [0]]
def l38r5 : List AOper :=
  [AOper.mk (some 17) (.mv (.tmp 0)) none [], AOper.mk (some 18) (.mv (.tmp 0)) none [], AOper.mk (some 19) (.raw (Op.call (Call.mk (Callee.builtin Builtin.cap) (Array.mk [.tmp 18]) (Array.mk [48])))) none [1], AOper.mk (some 20) (.slice 2 (.tmp 17) none (some (.tmp 19))) none [0, 2], AOper.mk (some 21) (.mv (.tmp 1)) none [], AOper.mk (some 22) (.raw (Op.call (Call.mk (Callee.builtin Builtin.append) (Array.mk [.tmp 20, .tmp 21]) (Array.mk [48, 3])))) none [3, 4], AOper.mk (some 23) (.mv (.tmp 0)) none [], AOper.mk (some 24) (.len (.tmp 23)) none [6], AOper.mk (some 25) (.slice 2 (.tmp 22) none (some (.tmp 24))) none [5, 7], AOper.mk (some 0) (.mv (.tmp 25)) none [8, 5, 0, 1, 2, 3, 4, 5, 6, 7, 8]]
def l38r6 : List AOper :=
  [AOper.mk (some 26) (.mv (.tmp 0)) none [], AOper.mk (some 4) (.mv (.tmp 26)) none [0, 0]]
def l38 : AFn :=
  (AFn.mk 27 2 (ACode.seq (ACode.reg l38r0) (ACode.seq (ACode.seq (ACode.reg l38r1) (ACode.cond (.tmp 6) (ACode.reg l38r2) ACode.skip)) (ACode.seq (ACode.seq (ACode.reg l38r3) (ACode.seq (ACode.reg l38r4) (ACode.cond (.tmp 16) (ACode.reg l38r5) ACode.skip))) (ACode.seq (ACode.reg l38r6) ACode.ret)))) [ARes.tmp 4])
theorem l38_eq : lowFn Try.prog 38 = some l38 := by kernel_rfl
def l39r0 : List AOper :=
  [AOper.mk (some 4) (.mv (.const (.int .u64 0))) none [], AOper.mk (some 5) (.mv (.const (.int .u64 0))) none [0]]
def l39r1 : List AOper :=
  [AOper.mk (some 11) (.mv (.tmp 0)) none [], AOper.mk (some 12) (.conv .u32 (.tmp 11)) none [0], AOper.mk (some 13) (.mv (.tmp 1)) none [], AOper.mk (some 14) (.conv .u32 (.tmp 13)) none [2], AOper.mk (some 15) (.call 45 [.tmp 12, .tmp 14]) none [1, 3], AOper.mk (some 10) (.mv (.tmp 15)) none [4], AOper.mk (some 16) (.extract (.tmp 10) 0) none [5], AOper.mk (some 17) (.extract (.tmp 10) 1) none [5], AOper.mk (some 6) (.mv (.tmp 16)) none [6, 4, 0, 1, 2, 3, 4, 5, 6], AOper.mk (some 7) (.mv (.tmp 17)) none [7, 8, 0, 1, 2, 3, 4, 5, 6, 7, 8]]
def l39r2 : List AOper :=
  [AOper.mk (some 18) (.mv (.tmp 6)) none [], AOper.mk (some 19) (.conv .u64 (.tmp 18)) none [0], AOper.mk (some 20) (.mv (.tmp 7)) none [], AOper.mk (some 21) (.conv .u64 (.tmp 20)) none [2], AOper.mk (some 4) (.mv (.tmp 19)) none [1, 0, 1], AOper.mk (some 5) (.mv (.tmp 21)) none [3, 4, 0, 1, 2, 3, 4]]
def l39r3 : List AOper :=
  [AOper.mk (some 23) (.mv (.tmp 0)) none [], AOper.mk (some 24) (.mv (.tmp 1)) none [], AOper.mk (some 25) (.call 46 [.tmp 23, .tmp 24]) none [0, 1], AOper.mk (some 22) (.mv (.tmp 25)) none [2], AOper.mk (some 26) (.extract (.tmp 22) 0) none [3], AOper.mk (some 27) (.extract (.tmp 22) 1) none [3], AOper.mk (some 8) (.mv (.tmp 26)) none [4, 2, 0, 1, 2, 3, 4], AOper.mk (some 9) (.mv (.tmp 27)) none [5, 6, 0, 1, 2, 3, 4, 5, 6]]
def l39r4 : List AOper :=
  [AOper.mk (some 28) (.mv (.tmp 8)) none [], AOper.mk (some 29) (.mv (.tmp 9)) none [], AOper.mk (some 4) (.mv (.tmp 28)) none [0, 0], AOper.mk (some 5) (.mv (.tmp 29)) none [1, 2, 0, 1, 2]]
def l39 : AFn :=
  (AFn.mk 30 2 (ACode.seq (ACode.reg l39r0) (ACode.seq (ACode.cond (.const (.bool false)) (ACode.seq (ACode.reg l39r1) (ACode.seq (ACode.reg l39r2) ACode.ret)) ACode.skip) (ACode.seq (ACode.reg l39r3) (ACode.seq (ACode.reg l39r4) ACode.ret)))) [ARes.tmp 4, ARes.tmp 5])
theorem l39_eq : lowFn Try.prog 39 = some l39 := by kernel_rfl
def l40r0 : List AOper :=
  [AOper.mk (some 1) (.box (.tmp 0)) none [], AOper.mk (some 2) (.alloc [.int .i64 0, .slice none 0 0, .slice none 0 0]) none []]
def l40r1 : List AOper :=
  [AOper.mk (some 6) (.fld 0 (.tmp 1)) none [], AOper.mk (some 7) (.load true 3 (.tmp 6)) none [0], AOper.mk (some 8) (.fld 3 (.tmp 1)) none [], AOper.mk (some 9) (.load true 4 (.tmp 8)) none [2], AOper.mk (some 10) (.call 47 [.tmp 7, .tmp 9]) none [1, 3], AOper.mk (some 11) (.build [.int .i64 0, .slice none 0 0, .slice none 0 0] [(0, 1, .tmp 10)]) none [4], AOper.mk (some 3) (.alloc [.int .i64 0, .slice none 0 0, .slice none 0 0]) none [], AOper.mk none (.store 3 (.tmp 3) (.tmp 11)) none [6, 5, 4, 0, 1, 2, 3, 4, 5, 6]]
def l40r2 : List AOper :=
  [AOper.mk (some 12) (.fld 7 (.tmp 1)) none [], AOper.mk (some 13) (.load false 1 (.tmp 12)) none [0], AOper.mk (some 14) (.len (.tmp 13)) none [1], AOper.mk (some 15) (.mv (.const (.int .i64 0))) none []]
def l40r3 : List AOper :=
  [AOper.mk (some 16) (.bin .lss (.tmp 15) (.tmp 14)) none []]
def l40r4 : List AOper :=
  [AOper.mk (some 17) (.idxA 2 (.tmp 13) (.tmp 15)) none [], AOper.mk (some 18) (.load true 2 (.tmp 17)) none [0], AOper.mk (some 5) (.alloc [.int .i64 0, .int .i64 0]) none [], AOper.mk none (.store 2 (.tmp 5) (.tmp 18)) none [2, 1, 0, 1, 2]]
def l40r5 : List AOper :=
  [AOper.mk (some 19) (.fld 1 (.tmp 3)) none [], AOper.mk (some 20) (.load false 1 (.tmp 19)) none [0], AOper.mk (some 21) (.fld 0 (.tmp 5)) none [], AOper.mk (some 22) (.load false 1 (.tmp 21)) none [2], AOper.mk (some 23) (.bslice 1 [.int .i64 0] [(0, .tmp 22)] 1) none [3], AOper.mk (some 24) (.append 1 (.tmp 20) (.tmp 23)) none [1, 4], AOper.mk (some 25) (.fld 1 (.tmp 3)) none [0, 1, 2, 3, 4, 5], AOper.mk none (.store 1 (.tmp 25) (.tmp 24)) none [6, 5, 5, 0, 1, 2, 3, 4, 5]]
def l40r6 : List AOper :=
  [AOper.mk (some 26) (.fld 2 (.tmp 3)) none [], AOper.mk (some 27) (.load false 1 (.tmp 26)) none [0], AOper.mk (some 28) (.fld 1 (.tmp 5)) none [], AOper.mk (some 29) (.load false 1 (.tmp 28)) none [2], AOper.mk (some 30) (.bslice 1 [.int .i64 0] [(0, .tmp 29)] 1) none [3], AOper.mk (some 31) (.append 1 (.tmp 27) (.tmp 30)) none [1, 4], AOper.mk (some 32) (.fld 2 (.tmp 3)) none [0, 1, 2, 3, 4, 5], AOper.mk none (.store 1 (.tmp 32) (.tmp 31)) none [6, 5, 5, 0, 1, 2, 3, 4, 5]]
def l40r7 : List AOper :=
  [AOper.mk (some 33) (.bin .add (.tmp 15) (.const (.int .i64 1))) none [], AOper.mk (some 15) (.mv (.tmp 33)) none [0]]
def l40r8 : List AOper :=
  [AOper.mk (some 34) (.load true 3 (.tmp 3)) none [], AOper.mk none (.store 3 (.tmp 2) (.tmp 34)) none [0, 0]]
def l40 : AFn :=
  (AFn.mk 35 1 (ACode.seq (ACode.reg l40r0) (ACode.seq (ACode.reg l40r1) (ACode.seq (ACode.seq (ACode.reg l40r2) (ACode.block 0 (ACode.loop (ACode.seq (ACode.reg l40r3) (ACode.seq (ACode.cond (.tmp 16) ACode.skip (ACode.exit 0)) (ACode.seq (ACode.block 1 (ACode.seq (ACode.reg l40r4) (ACode.seq (ACode.reg l40r5) (ACode.reg l40r6)))) (ACode.reg l40r7))))))) (ACode.seq (ACode.reg l40r8) ACode.ret)))) [ARes.cell 2 true 3])
theorem l40_eq : lowFn Try.prog 40 = some l40 := by kernel_rfl
def l41r0 : List AOper :=
  [AOper.mk (some 2) (.mv (.const (.slice none 0 0))) none []]
def l41r1 : List AOper :=
  [AOper.mk (some 3) (.mv (.tmp 0)) none [], AOper.mk (some 4) (.isnil false (.tmp 3)) none [0]]
def l41r2 : List AOper :=
  [AOper.mk (some 2) (.mv (.const (.slice none 0 0))) none []]
def l41r3 : List AOper :=
  [AOper.mk (some 5) (.bslice 1 [.int .i64 0] [] 0) none [], AOper.mk (some 6) (.mv (.tmp 0)) none [], AOper.mk (some 7) (.append 1 (.tmp 5) (.tmp 6)) none [0, 1], AOper.mk (some 2) (.mv (.tmp 7)) none [2, 2, 0, 1, 2]]
def l41 : AFn :=
  (AFn.mk 8 1 (ACode.seq (ACode.reg l41r0) (ACode.seq (ACode.seq (ACode.reg l41r1) (ACode.cond (.tmp 4) (ACode.seq (ACode.reg l41r2) ACode.ret) ACode.skip)) (ACode.seq (ACode.reg l41r3) ACode.ret))) [ARes.tmp 2])
theorem l41_eq : lowFn Try.prog 41 = some l41 := by kernel_rfl
def l42r0 : List AOper :=
  [AOper.mk (some 4) (.mv (.const (.slice none 0 0))) none []]
def l42r1 : List AOper :=
  [AOper.mk (some 5) (.mv (.tmp 1)) none [], AOper.mk (some 6) (.bin .lss (.tmp 5) (.const (.int .i64 0))) none [0]]
def l42r2 : List AOper :=
  [AOper.mk (some 7) (.raw (Op.makeInterface 9 (.const (.string (ByteArray.mk (Array.mk [(99 : UInt8), (97 : UInt8), (110 : UInt8), (110 : UInt8), (111 : UInt8), (116 : UInt8), (32 : UInt8), (98 : UInt8), (101 : UInt8), (32 : UInt8), (110 : UInt8), (101 : UInt8), (103 : UInt8), (97 : UInt8), (116 : UInt8), (105 : UInt8), (118 : UInt8), (101 : UInt8)])))))) none [], AOper.mk none (.raw (Op.panic (.tmp 7))) none [0]]
def l42r3 : List AOper :=
  [AOper.mk (some 8) (.mv (.tmp 1)) none [], AOper.mk (some 9) (.mv (.tmp 0)) none [], AOper.mk (some 10) (.raw (Op.call (Call.mk (Callee.builtin Builtin.cap) (Array.mk [.tmp 9]) (Array.mk [23])))) none [1], AOper.mk (some 11) (.mv (.tmp 0)) none [], AOper.mk (some 12) (.len (.tmp 11)) none [3], AOper.mk (some 13) (.bin .sub (.tmp 10) (.tmp 12)) none [2, 4], AOper.mk (some 14) (.bin .sub (.tmp 8) (.tmp 13)) none [0, 5], AOper.mk (some 1) (.mv (.tmp 14)) none [6, 0, 1, 2, 3, 4, 5, 6]]
def l42r4 : List AOper :=
  [AOper.mk (some 15) (.mv (.tmp 1)) none [], AOper.mk (some 16) (.bin .gtr (.tmp 15) (.const (.int .i64 0))) none [0]]
def l42r5 : List AOper :=
  [AOper.mk (some 17) (.mv (.tmp 0)) none [], AOper.mk (some 18) (.mv (.tmp 0)) none [], AOper.mk (some 19) (.raw (Op.call (Call.mk (Callee.builtin Builtin.cap) (Array.mk [.tmp 18]) (Array.mk [23])))) none [1], AOper.mk (some 20) (.slice 1 (.tmp 17) none (some (.tmp 19))) none [0, 2], AOper.mk (some 21) (.mv (.tmp 1)) none [], AOper.mk (some 22) (.raw (Op.call (Call.mk (Callee.builtin Builtin.append) (Array.mk [.tmp 20, .tmp 21]) (Array.mk [23, 3])))) none [3, 4], AOper.mk (some 23) (.mv (.tmp 0)) none [], AOper.mk (some 24) (.len (.tmp 23)) none [6], AOper.mk (some 25) (.slice 1 (.tmp 22) none (some (.tmp 24))) none [5, 7], AOper.mk (some 0) (.mv (.tmp 25)) none [8, 5, 0, 1, 2, 3, 4, 5, 6, 7, 8]]
def l42r6 : List AOper :=
  [AOper.mk (some 26) (.mv (.tmp 0)) none [], AOper.mk (some 4) (.mv (.tmp 26)) none [0, 0]]
def l42 : AFn :=
  (AFn.mk 27 2 (ACode.seq (ACode.reg l42r0) (ACode.seq (ACode.seq (ACode.reg l42r1) (ACode.cond (.tmp 6) (ACode.reg l42r2) ACode.skip)) (ACode.seq (ACode.seq (ACode.reg l42r3) (ACode.seq (ACode.reg l42r4) (ACode.cond (.tmp 16) (ACode.reg l42r5) ACode.skip))) (ACode.seq (ACode.reg l42r6) ACode.ret)))) [ARes.tmp 4])
theorem l42_eq : lowFn Try.prog 42 = some l42 := by kernel_rfl
def l43r0 : List AOper :=
  [AOper.mk (some 6) (.mv (.const (.bool false))) none []]
def l43r1 : List AOper :=
  [AOper.mk (some 7) (.mv (.tmp 1)) none [], AOper.mk (some 8) (.mv (.tmp 0)) none [], AOper.mk (some 9) (.bin .leq (.tmp 7) (.tmp 8)) none [0, 1], AOper.mk (some 10) (.mv (.tmp 9)) none [2], AOper.mk (some 11) (.mv (.tmp 0)) (some (10, true)) [3], AOper.mk (some 12) (.mv (.tmp 2)) (some (10, true)) [3], AOper.mk (some 13) (.bin .leq (.tmp 11) (.tmp 12)) (some (10, true)) [4, 5, 3], AOper.mk (some 14) (.pick (.tmp 10) (.tmp 13) (.const (.bool false))) none [3, 6], AOper.mk (some 6) (.mv (.tmp 14)) none [7, 3, 0, 1, 2, 3, 4, 5, 6, 7]]
def l43 : AFn :=
  (AFn.mk 15 3 (ACode.seq (ACode.reg l43r0) (ACode.seq (ACode.reg l43r1) ACode.ret)) [ARes.tmp 6])
theorem l43_eq : lowFn Try.prog 43 = some l43 := by kernel_rfl
def l44r0 : List AOper :=
  [AOper.mk (some 4) (.mv (.const (.bool false))) none []]
def l44r1 : List AOper :=
  [AOper.mk (some 5) (.mv (.tmp 1)) none [], AOper.mk (some 6) (.un .neg (.tmp 5)) none [0], AOper.mk (some 7) (.mv (.tmp 0)) none [], AOper.mk (some 8) (.bin .leq (.tmp 6) (.tmp 7)) none [1, 2], AOper.mk (some 9) (.mv (.tmp 8)) none [3], AOper.mk (some 10) (.mv (.tmp 0)) (some (9, true)) [4], AOper.mk (some 11) (.mv (.tmp 1)) (some (9, true)) [4], AOper.mk (some 12) (.bin .leq (.tmp 10) (.tmp 11)) (some (9, true)) [5, 6, 4], AOper.mk (some 13) (.pick (.tmp 9) (.tmp 12) (.const (.bool false))) none [4, 7], AOper.mk (some 4) (.mv (.tmp 13)) none [8, 4, 0, 1, 2, 3, 4, 5, 6, 7, 8]]
def l44 : AFn :=
  (AFn.mk 14 2 (ACode.seq (ACode.reg l44r0) (ACode.seq (ACode.reg l44r1) ACode.ret)) [ARes.tmp 4])
theorem l44_eq : lowFn Try.prog 44 = some l44 := by kernel_rfl
def l46r0 : List AOper :=
  [AOper.mk (some 4) (.mv (.const (.int .u64 0))) none [], AOper.mk (some 5) (.mv (.const (.int .u64 0))) none [0]]
def l46r1 : List AOper :=
  [AOper.mk (some 14) (.mv (.tmp 0)) none [], AOper.mk (some 15) (.bin .and (.tmp 14) (.const (.int .u64 4294967295))) none [0], AOper.mk (some 6) (.mv (.tmp 15)) none [1, 0, 1]]
def l46r2 : List AOper :=
  [AOper.mk (some 16) (.mv (.tmp 0)) none [], AOper.mk (some 17) (.bin .shr (.tmp 16) (.const (.int .u64 32))) none [0], AOper.mk (some 7) (.mv (.tmp 17)) none [1, 0, 1]]
def l46r3 : List AOper :=
  [AOper.mk (some 18) (.mv (.tmp 1)) none [], AOper.mk (some 19) (.bin .and (.tmp 18) (.const (.int .u64 4294967295))) none [0], AOper.mk (some 8) (.mv (.tmp 19)) none [1, 0, 1]]
def l46r4 : List AOper :=
  [AOper.mk (some 20) (.mv (.tmp 1)) none [], AOper.mk (some 21) (.bin .shr (.tmp 20) (.const (.int .u64 32))) none [0], AOper.mk (some 9) (.mv (.tmp 21)) none [1, 0, 1]]
def l46r5 : List AOper :=
  [AOper.mk (some 22) (.mv (.tmp 6)) none [], AOper.mk (some 23) (.mv (.tmp 8)) none [], AOper.mk (some 24) (.bin .mul (.tmp 22) (.tmp 23)) none [0, 1], AOper.mk (some 10) (.mv (.tmp 24)) none [2, 0, 1, 2]]
def l46r6 : List AOper :=
  [AOper.mk (some 25) (.mv (.tmp 7)) none [], AOper.mk (some 26) (.mv (.tmp 8)) none [], AOper.mk (some 27) (.bin .mul (.tmp 25) (.tmp 26)) none [0, 1], AOper.mk (some 28) (.mv (.tmp 10)) none [], AOper.mk (some 29) (.bin .shr (.tmp 28) (.const (.int .u64 32))) none [3], AOper.mk (some 30) (.bin .add (.tmp 27) (.tmp 29)) none [2, 4], AOper.mk (some 11) (.mv (.tmp 30)) none [5, 0, 1, 2, 3, 4, 5]]
def l46r7 : List AOper :=
  [AOper.mk (some 31) (.mv (.tmp 11)) none [], AOper.mk (some 32) (.bin .and (.tmp 31) (.const (.int .u64 4294967295))) none [0], AOper.mk (some 12) (.mv (.tmp 32)) none [1, 0, 1]]
def l46r8 : List AOper :=
  [AOper.mk (some 33) (.mv (.tmp 11)) none [], AOper.mk (some 34) (.bin .shr (.tmp 33) (.const (.int .u64 32))) none [0], AOper.mk (some 13) (.mv (.tmp 34)) none [1, 0, 1]]
def l46r9 : List AOper :=
  [AOper.mk (some 35) (.mv (.tmp 12)) none [], AOper.mk (some 36) (.mv (.tmp 6)) none [], AOper.mk (some 37) (.mv (.tmp 9)) none [], AOper.mk (some 38) (.bin .mul (.tmp 36) (.tmp 37)) none [1, 2], AOper.mk (some 39) (.bin .add (.tmp 35) (.tmp 38)) none [0, 3], AOper.mk (some 12) (.mv (.tmp 39)) none [4, 0, 1, 2, 3, 4]]
def l46r10 : List AOper :=
  [AOper.mk (some 40) (.mv (.tmp 7)) none [], AOper.mk (some 41) (.mv (.tmp 9)) none [], AOper.mk (some 42) (.bin .mul (.tmp 40) (.tmp 41)) none [0, 1], AOper.mk (some 43) (.mv (.tmp 13)) none [], AOper.mk (some 44) (.bin .add (.tmp 42) (.tmp 43)) none [2, 3], AOper.mk (some 45) (.mv (.tmp 12)) none [], AOper.mk (some 46) (.bin .shr (.tmp 45) (.const (.int .u64 32))) none [5], AOper.mk (some 47) (.bin .add (.tmp 44) (.tmp 46)) none [4, 6], AOper.mk (some 4) (.mv (.tmp 47)) none [7, 0, 1, 2, 3, 4, 5, 6, 7]]
def l46r11 : List AOper :=
  [AOper.mk (some 48) (.mv (.tmp 0)) none [], AOper.mk (some 49) (.mv (.tmp 1)) none [], AOper.mk (some 50) (.bin .mul (.tmp 48) (.tmp 49)) none [0, 1], AOper.mk (some 5) (.mv (.tmp 50)) none [2, 0, 1, 2]]
def l46 : AFn :=
  (AFn.mk 51 2 (ACode.seq (ACode.reg l46r0) (ACode.seq (ACode.reg l46r1) (ACode.seq (ACode.reg l46r2) (ACode.seq (ACode.reg l46r3) (ACode.seq (ACode.reg l46r4) (ACode.seq (ACode.reg l46r5) (ACode.seq (ACode.reg l46r6) (ACode.seq (ACode.reg l46r7) (ACode.seq (ACode.reg l46r8) (ACode.seq (ACode.reg l46r9) (ACode.seq (ACode.reg l46r10) (ACode.seq (ACode.reg l46r11) ACode.ret)))))))))))) [ARes.tmp 4, ARes.tmp 5])
theorem l46_eq : lowFn Try.prog 46 = some l46 := by kernel_rfl
def l47r0 : List AOper :=
  [AOper.mk (some 2) (.box (.tmp 0)) none [], AOper.mk (some 3) (.box (.tmp 1)) none [], AOper.mk (some 4) (.mv (.const (.int .i64 0))) none []]
def l47r1a : List AOper :=
  [AOper.mk (some 5) (.fld 0 (.tmp 2)) none [], AOper.mk (some 6) (.load false 1 (.tmp 5)) none [0], AOper.mk (some 7) (.load true 4 (.tmp 3)) none [], AOper.mk (some 8) (.fld 2 (.tmp 2)) none [], AOper.mk (some 9) (.load false 1 (.tmp 8)) none [3], AOper.mk (some 10) (.call 48 [.tmp 7, .tmp 9]) none [2, 4]]
def l47r1b : List AOper :=
  [AOper.mk (some 11) (.bin .add (.tmp 6) (.tmp 10)) none [1, 5], AOper.mk (some 4) (.mv (.tmp 11)) none [6, 5, 0, 1, 2, 3, 4, 5, 6]]
def l47r1 : List AOper := l47r1a ++ l47r1b
def l47 : AFn :=
  (AFn.mk 12 2 (ACode.seq (ACode.reg l47r0) (ACode.seq (ACode.draw l47r1) ACode.ret)) [ARes.tmp 4])
theorem l47_eq : lowFn Try.prog 47 = some l47 := by kernel_rfl
def l48r0 : List AOper :=
  [AOper.mk (some 2) (.box (.tmp 0)) none [], AOper.mk (some 4) (.mv (.const (.int .i64 0))) none []]
def l48r1 : List AOper :=
  [AOper.mk (some 5) (.mv (.const (.int .i64 0))) none []]
def l48r2 : List AOper :=
  [AOper.mk (some 8) (.mv (.tmp 1)) none [], AOper.mk (some 9) (.len (.tmp 8)) none [0], AOper.mk (some 10) (.mv (.const (.int .i64 0))) none []]
def l48r3 : List AOper :=
  [AOper.mk (some 11) (.bin .lss (.tmp 10) (.tmp 9)) none []]
def l48r4 : List AOper :=
  [AOper.mk (some 12) (.mv (.tmp 10)) none [], AOper.mk (some 13) (.idxA 1 (.tmp 8) (.tmp 10)) none [], AOper.mk (some 14) (.load false 1 (.tmp 13)) none [1], AOper.mk (some 6) (.mv (.tmp 12)) none [0, 0, 1, 2], AOper.mk (some 7) (.mv (.tmp 14)) none [2, 3, 0, 1, 2, 3]]
def l48r5 : List AOper :=
  [AOper.mk (some 15) (.mv (.tmp 5)) none [], AOper.mk (some 16) (.mv (.tmp 6)) none [], AOper.mk (some 17) (.idxP 1 4 (.tmp 2) (.tmp 16)) none [1], AOper.mk (some 18) (.load false 1 (.tmp 17)) none [2], AOper.mk (some 19) (.mv (.tmp 7)) none [], AOper.mk (some 20) (.bin .mul (.tmp 18) (.tmp 19)) none [3, 4], AOper.mk (some 21) (.bin .add (.tmp 15) (.tmp 20)) none [0, 5], AOper.mk (some 5) (.mv (.tmp 21)) none [6, 0, 1, 2, 3, 4, 5, 6]]
def l48r6 : List AOper :=
  [AOper.mk (some 22) (.bin .add (.tmp 10) (.const (.int .i64 1))) none [], AOper.mk (some 10) (.mv (.tmp 22)) none [0]]
def l48r7 : List AOper :=
  [AOper.mk (some 23) (.mv (.tmp 5)) none [], AOper.mk (some 4) (.mv (.tmp 23)) none [0, 0]]
def l48 : AFn :=
  (AFn.mk 24 2 (ACode.seq (ACode.reg l48r0) (ACode.seq (ACode.reg l48r1) (ACode.seq (ACode.seq (ACode.reg l48r2) (ACode.block 0 (ACode.loop (ACode.seq (ACode.reg l48r3) (ACode.seq (ACode.cond (.tmp 11) ACode.skip (ACode.exit 0)) (ACode.seq (ACode.block 1 (ACode.seq (ACode.reg l48r4) (ACode.reg l48r5))) (ACode.reg l48r6))))))) (ACode.seq (ACode.reg l48r7) ACode.ret)))) [ARes.tmp 4])
theorem l48_eq : lowFn Try.prog 48 = some l48 := by kernel_rfl
end Go.Proofs.Ytjpgiapplhlpoaa
