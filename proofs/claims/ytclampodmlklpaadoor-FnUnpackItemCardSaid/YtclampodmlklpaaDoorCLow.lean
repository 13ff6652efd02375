import Derived.Test.YtclampodmlklpaaDoorCW3
import Derived.Test.YtclampodmlklpaaDoorProg
import Derived.KernelRfl
set_option maxRecDepth 100000
namespace Go.Proofs.YtclampodmlklpaaDoor
open Vw Go
instance globs : Inhabited GlobT := ⟨⟨[(0, [1, 2, 4])]⟩⟩
attribute [push_cast] Bool.false_eq_true List.length_replicate
def l7r0 : List AOper :=
  [.mk (some 2) (.mv (.const (.bool false))) none []]
def l7r1 : List AOper :=
  [.mk (some 10) (.mv (.tmp 0)) none [], .mk (some 11) (.len (.tmp 10)) none [0], .mk (some 12) (.bin .gtr (.tmp 11) (.const (.int .i64 1048576))) none [1]]
def l7r2 : List AOper :=
  [.mk (some 2) (.mv (.const (.bool true))) none []]
def l7r3 : List AOper :=
  [.mk (some 14) (.mv (.tmp 0)) none [], .mk (some 15) (.call 29 [.tmp 14]) none [0], .mk (some 13) (.mv (.tmp 15)) none [1], .mk (some 16) (.extract (.tmp 13) 0) none [2], .mk (some 17) (.extract (.tmp 13) 1) none [2], .mk (some 3) (.alloc [.slice none 0 0, .bool false, .bool false]) none [], .mk none (.store 3 (.tmp 3) (.tmp 16)) none [5, 3, 1, 0, 1, 2, 3, 5], .mk (some 4) (.mv (.tmp 17)) none [4, 6, 0, 1, 2, 3, 4, 5, 6]]
def l7r4 : List AOper :=
  [.mk (some 18) (.load true 3 (.tmp 3)) none [], .mk (some 19) (.mv (.tmp 4)) none [], .mk (some 20) (.call 30 [.tmp 18, .tmp 19]) none [0, 1], .mk (some 5) (.mv (.tmp 20)) none [2, 2, 0, 1, 2]]
def l7r5 : List AOper :=
  [.mk (some 21) (.mv (.tmp 5)) none [], .mk (some 22) (.load true 3 (.tmp 3)) none [], .mk (some 23) (.mv (.tmp 4)) none [], .mk (some 24) (.call 31 [.tmp 22, .tmp 23]) none [1, 2], .mk (some 25) (.call 18 [.tmp 21, .tmp 24]) none [0, 3, 3], .mk (some 26) (.un .not (.tmp 25)) none [4], .mk (some 27) (.mv (.tmp 26)) none [5, 4], .mk (some 28) (.mv (.tmp 5)) (some (27, false)) [6], .mk (some 29) (.len (.tmp 28)) (some (27, false)) [7, 6], .mk (some 30) (.bin .eql (.tmp 29) (.const (.int .i64 0))) (some (27, false)) [8, 6], .mk (some 31) (.pick (.tmp 27) (.const (.bool true)) (.tmp 30)) none [6, 9]]
def l7r6 : List AOper :=
  [.mk (some 32) (.mv (.tmp 5)) none [], .mk (some 33) (.load true 3 (.tmp 3)) none [], .mk (some 34) (.mv (.tmp 4)) none [], .mk (some 35) (.call 31 [.tmp 33, .tmp 34]) none [1, 2], .mk (some 36) (.call 18 [.tmp 32, .tmp 35]) none [0, 3, 3], .mk (some 2) (.mv (.tmp 36)) none [4, 4, 0, 1, 2, 3, 4]]
def l7r7 : List AOper :=
  [.mk (some 38) (.load true 3 (.tmp 3)) none [], .mk (some 39) (.mv (.tmp 5)) none [], .mk (some 40) (.call 32 [.tmp 38, .tmp 39]) none [0, 1], .mk (some 37) (.mv (.tmp 40)) none [2], .mk (some 41) (.extract (.tmp 37) 0) none [3], .mk (some 42) (.extract (.tmp 37) 1) none [3], .mk (some 6) (.mv (.tmp 41)) none [4, 2, 0, 1, 2, 3, 4], .mk (some 7) (.mv (.tmp 42)) none [5, 6, 0, 1, 2, 3, 4, 5, 6]]
def l7r8 : List AOper :=
  [.mk (some 43) (.load true 3 (.tmp 3)) none [], .mk (some 44) (.call 24 [.tmp 43]) none [0], .mk (some 8) (.mv (.tmp 44)) none [1, 1, 0, 1]]
def l7r9 : List AOper :=
  [.mk (some 9) (.mv (.const (.int .i64 0))) none []]
def l7r10 : List AOper :=
  [.mk (some 45) (.mv (.tmp 9)) none [], .mk (some 46) (.mv (.tmp 8)) none [], .mk (some 47) (.len (.tmp 46)) none [1], .mk (some 48) (.bin .lss (.tmp 45) (.tmp 47)) none [0, 2]]
def l7r11 : List AOper :=
  [.mk (some 51) (.mv (.tmp 5)) none [], .mk (some 52) (.mv (.tmp 8)) none [], .mk (some 53) (.mv (.tmp 9)) none [], .mk (some 54) (.idxA 1 (.tmp 52) (.tmp 53)) none [1, 2], .mk (some 55) (.load false 1 (.tmp 54)) none [3], .mk (some 56) (.idxA 1 (.tmp 51) (.tmp 55)) none [0, 4], .mk (some 57) (.load false 1 (.tmp 56)) none [5], .mk (some 58) (.bin .neq (.tmp 57) (.const (.int .i64 0))) none [6]]
def l7r12 : List AOper :=
  [.mk (some 2) (.mv (.const (.bool false))) none []]
def l7r13 : List AOper :=
  [.mk (some 49) (.mv (.tmp 9)) none [], .mk (some 50) (.bin .add (.tmp 49) (.const (.int .i64 1))) none [0], .mk (some 9) (.mv (.tmp 50)) none [1, 0, 1]]
def l7r14 : List AOper :=
  [.mk (some 59) (.mv (.tmp 7)) none [], .mk (some 60) (.mv (.tmp 59)) none [0], .mk (some 61) (.mv (.tmp 6)) (some (60, true)) [1], .mk (some 62) (.mv (.tmp 4)) (some (60, true)) [1], .mk (some 63) (.call 18 [.tmp 61, .tmp 62]) (some (60, true)) [2, 3, 1, 1], .mk (some 64) (.pick (.tmp 60) (.tmp 63) (.const (.bool false))) none [1, 4], .mk (some 65) (.mv (.tmp 64)) none [5, 4], .mk (some 66) (.mv (.tmp 5)) (some (65, true)) [6], .mk (some 67) (.len (.tmp 66)) (some (65, true)) [7, 6], .mk (some 68) (.load true 3 (.tmp 3)) (some (65, true)) [6], .mk (some 69) (.call 21 [.tmp 68]) (some (65, true)) [9, 6, 6], .mk (some 70) (.bin .eql (.tmp 67) (.tmp 69)) (some (65, true)) [8, 10, 6], .mk (some 71) (.pick (.tmp 65) (.tmp 70) (.const (.bool false))) none [6, 11], .mk (some 72) (.mv (.tmp 71)) none [12, 10], .mk (some 73) (.mv (.tmp 5)) (some (72, true)) [13], .mk (some 74) (.call 33 [.tmp 73]) (some (72, true)) [14, 13, 13], .mk (some 75) (.pick (.tmp 72) (.tmp 74) (.const (.bool false))) none [13, 15], .mk (some 2) (.mv (.tmp 75)) none [16, 15, 0, 1, 2, 3, 4, 5, 6, 7, 8, 9, 10, 11, 12, 13, 14, 15, 16]]
def l7 : AFn :=
  (AFn.mk 76 1 (.seq (.reg l7r0) (.seq (.seq (.reg l7r1) (.cond (.tmp 12) (.seq (.reg l7r2) .ret) .skip)) (.seq (.reg l7r3) (.seq (.reg l7r4) (.seq (.seq (.reg l7r5) (.cond (.tmp 31) (.seq (.reg l7r6) .ret) .skip)) (.seq (.reg l7r7) (.seq (.reg l7r8) (.seq (.seq (.reg l7r9) (.block 0 (.loop (.seq (.seq (.reg l7r10) (.cond (.tmp 48) .skip (.exit 0))) (.seq (.block 1 (.seq (.reg l7r11) (.cond (.tmp 58) (.seq (.reg l7r12) .ret) .skip))) (.reg l7r13)))))) (.seq (.reg l7r14) .ret))))))))) [.tmp 2])
theorem l7_eq : lowFn Tryd.prog 7 = some l7 := by kernel_rfl
def l8r0 : List AOper :=
  [.mk (some 2) (.mv (.const (.bool false))) none []]
def l8r1 : List AOper :=
  [.mk (some 12) (.mv (.tmp 0)) none [], .mk (some 13) (.len (.tmp 12)) none [0], .mk (some 14) (.bin .gtr (.tmp 13) (.const (.int .i64 1048576))) none [1]]
def l8r2 : List AOper :=
  [.mk (some 2) (.mv (.const (.bool true))) none []]
def l8r3 : List AOper :=
  [.mk (some 16) (.mv (.tmp 0)) none [], .mk (some 17) (.call 34 [.tmp 16]) none [0], .mk (some 15) (.mv (.tmp 17)) none [1], .mk (some 18) (.extract (.tmp 15) 0) none [2], .mk (some 19) (.extract (.tmp 15) 1) none [2], .mk (some 3) (.alloc [.slice none 0 0, .bool false, .bool false]) none [], .mk none (.store 3 (.tmp 3) (.tmp 18)) none [5, 3, 1, 0, 1, 2, 3, 5], .mk (some 4) (.mv (.tmp 19)) none [4, 6, 0, 1, 2, 3, 4, 5, 6]]
def l8r4 : List AOper :=
  [.mk (some 21) (.load true 3 (.tmp 3)) none [], .mk (some 22) (.mv (.tmp 4)) none [], .mk (some 23) (.call 32 [.tmp 21, .tmp 22]) none [0, 1], .mk (some 20) (.mv (.tmp 23)) none [2], .mk (some 24) (.extract (.tmp 20) 0) none [3], .mk (some 25) (.extract (.tmp 20) 1) none [3], .mk (some 5) (.mv (.tmp 24)) none [4, 2, 0, 1, 2, 3, 4], .mk (some 6) (.mv (.tmp 25)) none [5, 6, 0, 1, 2, 3, 4, 5, 6]]
def l8r5 : List AOper :=
  [.mk (some 27) (.load true 3 (.tmp 3)) none [], .mk (some 28) (.mv (.tmp 4)) none [], .mk (some 29) (.call 35 [.tmp 27, .tmp 28]) none [0, 1], .mk (some 26) (.mv (.tmp 29)) none [2], .mk (some 30) (.extract (.tmp 26) 0) none [3], .mk (some 31) (.extract (.tmp 26) 1) none [3], .mk (some 7) (.mv (.tmp 30)) none [4, 2, 0, 1, 2, 3, 4], .mk (some 8) (.mv (.tmp 31)) none [5, 6, 0, 1, 2, 3, 4, 5, 6]]
def l8r6 : List AOper :=
  [.mk (some 32) (.mv (.tmp 5)) none [], .mk (some 33) (.mv (.tmp 7)) none [], .mk (some 34) (.call 18 [.tmp 32, .tmp 33]) none [0, 1], .mk (some 35) (.un .not (.tmp 34)) none [2], .mk (some 36) (.mv (.tmp 35)) none [3, 2], .mk (some 37) (.mv (.tmp 6)) (some (36, false)) [4], .mk (some 38) (.mv (.tmp 8)) (some (36, false)) [4], .mk (some 39) (.binB .neq (.tmp 37) (.tmp 38)) (some (36, false)) [5, 6, 4], .mk (some 40) (.pick (.tmp 36) (.const (.bool true)) (.tmp 39)) none [4, 7], .mk (some 41) (.mv (.tmp 40)) none [8, 4], .mk (some 42) (.mv (.tmp 6)) (some (41, false)) [9], .mk (some 43) (.un .not (.tmp 42)) (some (41, false)) [10, 9], .mk (some 44) (.pick (.tmp 41) (.const (.bool true)) (.tmp 43)) none [9, 11]]
def l8r7 : List AOper :=
  [.mk (some 45) (.mv (.tmp 5)) none [], .mk (some 46) (.mv (.tmp 7)) none [], .mk (some 47) (.call 18 [.tmp 45, .tmp 46]) none [0, 1], .mk (some 48) (.mv (.tmp 47)) none [2, 2], .mk (some 49) (.mv (.tmp 6)) (some (48, true)) [3], .mk (some 50) (.mv (.tmp 8)) (some (48, true)) [3], .mk (some 51) (.binB .eql (.tmp 49) (.tmp 50)) (some (48, true)) [4, 5, 3], .mk (some 52) (.pick (.tmp 48) (.tmp 51) (.const (.bool false))) none [3, 6], .mk (some 2) (.mv (.tmp 52)) none [7, 3, 0, 1, 2, 3, 4, 5, 6, 7]]
def l8r8 : List AOper :=
  [.mk (some 53) (.load true 3 (.tmp 3)) none [], .mk (some 54) (.mv (.tmp 5)) none [], .mk (some 55) (.call 30 [.tmp 53, .tmp 54]) none [0, 1], .mk (some 9) (.mv (.tmp 55)) none [2, 2, 0, 1, 2]]
def l8r9 : List AOper :=
  [.mk (some 56) (.load true 3 (.tmp 3)) none [], .mk (some 57) (.call 24 [.tmp 56]) none [0], .mk (some 10) (.mv (.tmp 57)) none [1, 1, 0, 1]]
def l8r10 : List AOper :=
  [.mk (some 11) (.mv (.const (.int .i64 0))) none []]
def l8r11 : List AOper :=
  [.mk (some 58) (.mv (.tmp 11)) none [], .mk (some 59) (.mv (.tmp 4)) none [], .mk (some 60) (.len (.tmp 59)) none [1], .mk (some 61) (.bin .lss (.tmp 58) (.tmp 60)) none [0, 2]]
def l8r12a : List AOper :=
  [.mk (some 64) (.mv (.tmp 10)) none [], .mk (some 65) (.mv (.tmp 11)) none [], .mk (some 66) (.call 27 [.tmp 64, .tmp 65]) none [0, 1], .mk (some 67) (.un .not (.tmp 66)) none [2], .mk (some 68) (.mv (.tmp 67)) none [3, 2], .mk (some 69) (.mv (.tmp 9)) (some (68, true)) [4], .mk (some 70) (.mv (.tmp 11)) (some (68, true)) [4], .mk (some 71) (.idxA 1 (.tmp 69) (.tmp 70)) (some (68, true)) [5, 6, 4], .mk (some 72) (.load false 1 (.tmp 71)) (some (68, true)) [7, 4], .mk (some 73) (.mv (.tmp 4)) (some (68, true)) [4], .mk (some 74) (.mv (.tmp 11)) (some (68, true)) [4], .mk (some 75) (.idxA 1 (.tmp 73) (.tmp 74)) (some (68, true)) [9, 10, 4], .mk (some 76) (.load false 1 (.tmp 75)) (some (68, true)) [11, 4]]
def l8r12b : List AOper :=
  [.mk (some 77) (.bin .neq (.tmp 72) (.tmp 76)) (some (68, true)) [8, 12, 4], .mk (some 78) (.pick (.tmp 68) (.tmp 77) (.const (.bool false))) none [4, 13]]
def l8r12 : List AOper := l8r12a ++ l8r12b
def l8r13 : List AOper :=
  [.mk (some 2) (.mv (.const (.bool false))) none []]
def l8r14 : List AOper :=
  [.mk (some 62) (.mv (.tmp 11)) none [], .mk (some 63) (.bin .add (.tmp 62) (.const (.int .i64 1))) none [0], .mk (some 11) (.mv (.tmp 63)) none [1, 0, 1]]
def l8r15 : List AOper :=
  [.mk (some 79) (.mv (.tmp 9)) none [], .mk (some 80) (.len (.tmp 79)) none [0], .mk (some 81) (.mv (.tmp 4)) none [], .mk (some 82) (.len (.tmp 81)) none [2], .mk (some 83) (.bin .eql (.tmp 80) (.tmp 82)) none [1, 3], .mk (some 84) (.mv (.tmp 83)) none [4], .mk (some 85) (.mv (.tmp 5)) (some (84, true)) [5], .mk (some 86) (.len (.tmp 85)) (some (84, true)) [6, 5], .mk (some 87) (.fld 0 (.tmp 3)) (some (84, true)) [5], .mk (some 88) (.load false 1 (.tmp 87)) (some (84, true)) [8, 5], .mk (some 89) (.len (.tmp 88)) (some (84, true)) [9, 5], .mk (some 90) (.bin .eql (.tmp 86) (.tmp 89)) (some (84, true)) [7, 10, 5], .mk (some 91) (.pick (.tmp 84) (.tmp 90) (.const (.bool false))) none [5, 11], .mk (some 2) (.mv (.tmp 91)) none [12, 5, 0, 1, 2, 3, 4, 5, 6, 7, 8, 9, 10, 11, 12]]
def l8 : AFn :=
  (AFn.mk 92 1 (.seq (.reg l8r0) (.seq (.seq (.reg l8r1) (.cond (.tmp 14) (.seq (.reg l8r2) .ret) .skip)) (.seq (.reg l8r3) (.seq (.reg l8r4) (.seq (.reg l8r5) (.seq (.seq (.reg l8r6) (.cond (.tmp 44) (.seq (.reg l8r7) .ret) .skip)) (.seq (.reg l8r8) (.seq (.reg l8r9) (.seq (.seq (.reg l8r10) (.block 0 (.loop (.seq (.seq (.reg l8r11) (.cond (.tmp 61) .skip (.exit 0))) (.seq (.block 1 (.seq (.draw l8r12) (.cond (.tmp 78) (.seq (.reg l8r13) .ret) .skip))) (.reg l8r14)))))) (.seq (.reg l8r15) .ret)))))))))) [.tmp 2])
theorem l8_eq : lowFn Tryd.prog 8 = some l8 := by kernel_rfl
def l14r0 : List AOper :=
  [.mk (some 1) (.box (.tmp 0)) none [], .mk (some 2) (.mv (.const (.bool false))) none []]
def l14r1 : List AOper :=
  [.mk (some 5) (.fld 0 (.tmp 1)) none [], .mk (some 6) (.load false 1 (.tmp 5)) none [0], .mk (some 7) (.len (.tmp 6)) none [1], .mk (some 8) (.bin .lss (.tmp 7) (.const (.int .i64 1))) none [2], .mk (some 9) (.mv (.tmp 8)) none [3], .mk (some 10) (.fld 0 (.tmp 1)) (some (9, false)) [4], .mk (some 11) (.load false 1 (.tmp 10)) (some (9, false)) [5, 4], .mk (some 12) (.len (.tmp 11)) (some (9, false)) [6, 4], .mk (some 13) (.bin .gtr (.tmp 12) (.const (.int .i64 5))) (some (9, false)) [7, 4], .mk (some 14) (.pick (.tmp 9) (.const (.bool true)) (.tmp 13)) none [4, 8]]
def l14r2 : List AOper :=
  [.mk (some 2) (.mv (.const (.bool false))) none []]
def l14r3 : List AOper :=
  [.mk (some 15) (.fld 0 (.tmp 1)) none [], .mk (some 16) (.load false 1 (.tmp 15)) none [0], .mk (some 17) (.len (.tmp 16)) none [1], .mk (some 18) (.mv (.const (.int .i64 0))) none []]
def l14r4 : List AOper :=
  [.mk (some 19) (.bin .lss (.tmp 18) (.tmp 17)) none []]
def l14r5 : List AOper :=
  [.mk (some 20) (.idxA 1 (.tmp 16) (.tmp 18)) none [], .mk (some 21) (.load false 1 (.tmp 20)) none [0], .mk (some 4) (.mv (.tmp 21)) none [1, 0, 1]]
def l14r6 : List AOper :=
  [.mk (some 22) (.mv (.tmp 4)) none [], .mk (some 23) (.call 56 [.tmp 22]) none [0], .mk (some 24) (.un .not (.tmp 23)) none [1]]
def l14r7 : List AOper :=
  [.mk (some 2) (.mv (.const (.bool false))) none []]
def l14r8 : List AOper :=
  [.mk (some 25) (.bin .add (.tmp 18) (.const (.int .i64 1))) none [], .mk (some 18) (.mv (.tmp 25)) none [0]]
def l14r9 : List AOper :=
  [.mk (some 2) (.mv (.const (.bool true))) none []]
def l14 : AFn :=
  (AFn.mk 26 1 (.seq (.reg l14r0) (.seq (.seq (.reg l14r1) (.cond (.tmp 14) (.seq (.reg l14r2) .ret) .skip)) (.seq (.seq (.reg l14r3) (.block 0 (.loop (.seq (.reg l14r4) (.seq (.cond (.tmp 19) .skip (.exit 0)) (.seq (.block 1 (.seq (.reg l14r5) (.seq (.reg l14r6) (.cond (.tmp 24) (.seq (.reg l14r7) .ret) .skip)))) (.reg l14r8))))))) (.seq (.reg l14r9) .ret)))) [.tmp 2])
theorem l14_eq : lowFn Tryd.prog 14 = some l14 := by kernel_rfl
def l18r0 : List AOper :=
  [.mk (some 4) (.mv (.const (.bool false))) none []]
def l18r1 : List AOper :=
  [.mk (some 6) (.mv (.tmp 0)) none [], .mk (some 7) (.len (.tmp 6)) none [0], .mk (some 8) (.mv (.tmp 1)) none [], .mk (some 9) (.len (.tmp 8)) none [2], .mk (some 10) (.bin .neq (.tmp 7) (.tmp 9)) none [1, 3]]
def l18r2 : List AOper :=
  [.mk (some 4) (.mv (.const (.bool false))) none []]
def l18r3 : List AOper :=
  [.mk (some 5) (.mv (.const (.int .i64 0))) none []]
def l18r4 : List AOper :=
  [.mk (some 11) (.mv (.tmp 5)) none [], .mk (some 12) (.mv (.tmp 0)) none [], .mk (some 13) (.len (.tmp 12)) none [1], .mk (some 14) (.bin .lss (.tmp 11) (.tmp 13)) none [0, 2]]
def l18r5a : List AOper :=
  [.mk (some 17) (.mv (.tmp 0)) none [], .mk (some 18) (.mv (.tmp 5)) none [], .mk (some 19) (.idxA 1 (.tmp 17) (.tmp 18)) none [0, 1], .mk (some 20) (.load false 1 (.tmp 19)) none [2], .mk (some 21) (.mv (.tmp 1)) none [], .mk (some 22) (.mv (.tmp 5)) none [], .mk (some 23) (.idxA 1 (.tmp 21) (.tmp 22)) none [4, 5], .mk (some 24) (.load false 1 (.tmp 23)) none [6]]
def l18r5b : List AOper :=
  [.mk (some 25) (.bin .neq (.tmp 20) (.tmp 24)) none [3, 7]]
def l18r5 : List AOper := l18r5a ++ l18r5b
def l18r6 : List AOper :=
  [.mk (some 4) (.mv (.const (.bool false))) none []]
def l18r7 : List AOper :=
  [.mk (some 15) (.mv (.tmp 5)) none [], .mk (some 16) (.bin .add (.tmp 15) (.const (.int .i64 1))) none [0], .mk (some 5) (.mv (.tmp 16)) none [1, 0, 1]]
def l18r8 : List AOper :=
  [.mk (some 4) (.mv (.const (.bool true))) none []]
def l18 : AFn :=
  (AFn.mk 26 2 (.seq (.reg l18r0) (.seq (.seq (.reg l18r1) (.cond (.tmp 10) (.seq (.reg l18r2) .ret) .skip)) (.seq (.seq (.reg l18r3) (.block 0 (.loop (.seq (.seq (.reg l18r4) (.cond (.tmp 14) .skip (.exit 0))) (.seq (.block 1 (.seq (.draw l18r5) (.cond (.tmp 25) (.seq (.reg l18r6) .ret) .skip))) (.reg l18r7)))))) (.seq (.reg l18r8) .ret)))) [.tmp 4])
theorem l18_eq : lowFn Tryd.prog 18 = some l18 := by kernel_rfl
def l21r0 : List AOper :=
  [.mk (some 1) (.box (.tmp 0)) none [], .mk (some 2) (.mv (.const (.int .i64 0))) none []]
def l21r1 : List AOper :=
  [.mk (some 3) (.load true 3 (.tmp 1)) none [], .mk (some 4) (.call 14 [.tmp 3]) none [0], .mk (some 5) (.un .not (.tmp 4)) none [1]]
def l21r2 : List AOper :=
  [.mk (some 2) (.mv (.const (.int .i64 (-1)))) none []]
def l21r3 : List AOper :=
  [.mk (some 6) (.load true 3 (.tmp 1)) none [], .mk (some 7) (.call 60 [.tmp 6]) none [0], .mk (some 2) (.mv (.tmp 7)) none [1, 1, 0, 1]]
def l21 : AFn :=
  (AFn.mk 8 1 (.seq (.reg l21r0) (.seq (.seq (.reg l21r1) (.cond (.tmp 5) (.seq (.reg l21r2) .ret) .skip)) (.seq (.reg l21r3) .ret))) [.tmp 2])
theorem l21_eq : lowFn Tryd.prog 21 = some l21 := by kernel_rfl
def l22r0 : List AOper :=
  [.mk (some 1) (.box (.tmp 0)) none [], .mk (some 2) (.mv (.const (.int .i64 0))) none []]
def l22r1 : List AOper :=
  [.mk (some 5) (.load true 3 (.tmp 1)) none [], .mk (some 6) (.call 57 [.tmp 5]) none [0], .mk (some 7) (.un .not (.tmp 6)) none [1]]
def l22r2 : List AOper :=
  [.mk (some 2) (.mv (.const (.int .i64 (-1)))) none []]
def l22r3 : List AOper :=
  [.mk (some 9) (.load true 3 (.tmp 1)) none [], .mk (some 10) (.call 59 [.tmp 9]) none [0], .mk (some 8) (.mv (.tmp 10)) none [1], .mk (some 11) (.extract (.tmp 8) 0) none [2], .mk (some 12) (.extract (.tmp 8) 1) none [2], .mk (some 3) (.mv (.tmp 11)) none [3, 1, 0, 1, 2, 3], .mk (some 4) (.mv (.tmp 12)) none [4, 5, 0, 1, 2, 3, 4, 5]]
def l22r4 : List AOper :=
  [.mk (some 13) (.mv (.tmp 4)) none [], .mk (some 2) (.mv (.tmp 13)) none [0, 0]]
def l22 : AFn :=
  (AFn.mk 14 1 (.seq (.reg l22r0) (.seq (.seq (.reg l22r1) (.cond (.tmp 7) (.seq (.reg l22r2) .ret) .skip)) (.seq (.reg l22r3) (.seq (.reg l22r4) .ret)))) [.tmp 2])
theorem l22_eq : lowFn Tryd.prog 22 = some l22 := by kernel_rfl
def l24r0 : List AOper :=
  [.mk (some 1) (.box (.tmp 0)) none [], .mk (some 2) (.mv (.const (.slice none 0 0))) none []]
def l24r1 : List AOper :=
  [.mk (some 7) (.load true 3 (.tmp 1)) none [], .mk (some 8) (.call 14 [.tmp 7]) none [0], .mk (some 9) (.un .not (.tmp 8)) none [1]]
def l24r2 : List AOper :=
  [.mk (some 2) (.mv (.const (.slice none 0 0))) none []]
def l24r3 : List AOper :=
  [.mk (some 3) (.mv (.const (.slice none 0 0))) none []]
def l24r4 : List AOper :=
  [.mk (some 4) (.mv (.const (.int .i64 0))) none []]
def l24r5 : List AOper :=
  [.mk (some 10) (.load true 3 (.tmp 1)) none [], .mk (some 11) (.call 58 [.tmp 10]) none [0], .mk (some 12) (.len (.tmp 11)) none [1], .mk (some 13) (.mv (.const (.int .i64 0))) none []]
def l24r6 : List AOper :=
  [.mk (some 14) (.bin .lss (.tmp 13) (.tmp 12)) none []]
def l24r7 : List AOper :=
  [.mk (some 15) (.idxA 2 (.tmp 11) (.tmp 13)) none [], .mk (some 16) (.load true 2 (.tmp 15)) none [0], .mk (some 6) (.alloc [.int .i64 0, .int .i64 0]) none [], .mk none (.store 2 (.tmp 6) (.tmp 16)) none [2, 1, 0, 1, 2]]
def l24r8 : List AOper :=
  [.mk (some 17) (.mv (.tmp 3)) none [], .mk (some 18) (.mv (.tmp 4)) none [], .mk (some 19) (.fld 0 (.tmp 6)) none [], .mk (some 20) (.load false 1 (.tmp 19)) none [2], .mk (some 21) (.build [.int .i64 0, .int .i64 0, .int .i64 0] [(0, 1, .tmp 18), (1, 1, .tmp 20), (2, 1, .const (.int .i64 1))]) none [1, 3], .mk (some 22) (.call 61 [.tmp 21]) none [4], .mk (some 23) (.append 1 (.tmp 17) (.tmp 22)) none [0, 5, 5], .mk (some 3) (.mv (.tmp 23)) none [6, 6, 0, 1, 2, 3, 4, 5, 6]]
def l24r9 : List AOper :=
  [.mk (some 24) (.load true 2 (.tmp 6)) none [], .mk (some 25) (.call 62 [.tmp 24]) none [0], .mk (some 4) (.mv (.tmp 25)) none [1, 1, 0, 1]]
def l24r10 : List AOper :=
  [.mk (some 26) (.bin .add (.tmp 13) (.const (.int .i64 1))) none [], .mk (some 13) (.mv (.tmp 26)) none [0]]
def l24r11 : List AOper :=
  [.mk (some 27) (.mv (.tmp 3)) none [], .mk (some 28) (.mv (.tmp 4)) none [], .mk (some 29) (.load true 3 (.tmp 1)) none [], .mk (some 30) (.call 60 [.tmp 29]) none [2], .mk (some 31) (.build [.int .i64 0, .int .i64 0, .int .i64 0] [(0, 1, .tmp 28), (1, 1, .tmp 30), (2, 1, .const (.int .i64 1))]) none [1, 3], .mk (some 32) (.call 61 [.tmp 31]) none [4, 3], .mk (some 33) (.append 1 (.tmp 27) (.tmp 32)) none [0, 5, 5], .mk (some 2) (.mv (.tmp 33)) none [6, 6, 0, 1, 2, 3, 4, 5, 6]]
def l24 : AFn :=
  (AFn.mk 34 1 (.seq (.reg l24r0) (.seq (.seq (.reg l24r1) (.cond (.tmp 9) (.seq (.reg l24r2) .ret) .skip)) (.seq (.reg l24r3) (.seq (.reg l24r4) (.seq (.seq (.reg l24r5) (.block 0 (.loop (.seq (.reg l24r6) (.seq (.cond (.tmp 14) .skip (.exit 0)) (.seq (.block 1 (.seq (.reg l24r7) (.seq (.reg l24r8) (.reg l24r9)))) (.reg l24r10))))))) (.seq (.reg l24r11) .ret)))))) [.tmp 2])
theorem l24_eq : lowFn Tryd.prog 24 = some l24 := by kernel_rfl
def l27r0 : List AOper :=
  [.mk (some 4) (.mv (.const (.bool false))) none []]
def l27r1 : List AOper :=
  [.mk (some 5) (.mv (.const (.int .i64 0))) none []]
def l27r2 : List AOper :=
  [.mk (some 6) (.mv (.tmp 5)) none [], .mk (some 7) (.mv (.tmp 0)) none [], .mk (some 8) (.len (.tmp 7)) none [1], .mk (some 9) (.bin .lss (.tmp 6) (.tmp 8)) none [0, 2]]
def l27r3 : List AOper :=
  [.mk (some 12) (.mv (.tmp 0)) none [], .mk (some 13) (.mv (.tmp 5)) none [], .mk (some 14) (.idxA 1 (.tmp 12) (.tmp 13)) none [0, 1], .mk (some 15) (.load false 1 (.tmp 14)) none [2], .mk (some 16) (.mv (.tmp 1)) none [], .mk (some 17) (.bin .eql (.tmp 15) (.tmp 16)) none [3, 4]]
def l27r4 : List AOper :=
  [.mk (some 4) (.mv (.const (.bool true))) none []]
def l27r5 : List AOper :=
  [.mk (some 10) (.mv (.tmp 5)) none [], .mk (some 11) (.bin .add (.tmp 10) (.const (.int .i64 1))) none [0], .mk (some 5) (.mv (.tmp 11)) none [1, 0, 1]]
def l27r6 : List AOper :=
  [.mk (some 4) (.mv (.const (.bool false))) none []]
def l27 : AFn :=
  (AFn.mk 18 2 (.seq (.reg l27r0) (.seq (.seq (.reg l27r1) (.block 0 (.loop (.seq (.seq (.reg l27r2) (.cond (.tmp 9) .skip (.exit 0))) (.seq (.block 1 (.seq (.reg l27r3) (.cond (.tmp 17) (.seq (.reg l27r4) .ret) .skip))) (.reg l27r5)))))) (.seq (.reg l27r6) .ret))) [.tmp 4])
theorem l27_eq : lowFn Tryd.prog 27 = some l27 := by kernel_rfl
def l29r0 : List AOper :=
  [.mk (some 2) (.alloc [.slice none 0 0, .bool false, .bool false]) none [], .mk (some 3) (.mv (.const (.slice none 0 0))) none []]
def l29r1 : List AOper :=
  [.mk (some 6) (.mv (.tmp 0)) none [], .mk (some 7) (.call 55 [.tmp 6]) none [0], .mk (some 4) (.mv (.tmp 7)) none [1, 1, 0, 1]]
def l29r2 : List AOper :=
  [.mk (some 8) (.mv (.tmp 4)) none [], .mk (some 9) (.call 54 [.tmp 8]) none [0], .mk (some 5) (.alloc [.slice none 0 0, .bool false, .bool false]) none [], .mk none (.store 3 (.tmp 5) (.tmp 9)) none [2, 1, 1, 0, 1, 2]]
def l29r3a : List AOper :=
  [.mk (some 10) (.load true 3 (.tmp 5)) none [], .mk (some 11) (.mv (.tmp 4)) none [], .mk (some 12) (.load true 3 (.tmp 5)) none [], .mk (some 13) (.call 64 [.tmp 11, .tmp 12]) none [1, 2]]
def l29r3b : List AOper :=
  [.mk none (.store 3 (.tmp 2) (.tmp 10)) none [0, 3, 0], .mk (some 3) (.mv (.tmp 13)) none [3, 4, 0, 1, 2, 3, 4]]
def l29r3 : List AOper := l29r3a ++ l29r3b
def l29 : AFn :=
  (AFn.mk 14 1 (.seq (.reg l29r0) (.seq (.reg l29r1) (.seq (.reg l29r2) (.seq (.draw l29r3) .ret)))) [.cell 2 true 3, .tmp 3])
theorem l29_eq : lowFn Tryd.prog 29 = some l29 := by kernel_rfl
def l30r0 : List AOper :=
  [.mk (some 2) (.box (.tmp 0)) none [], .mk (some 4) (.mv (.const (.slice none 0 0))) none []]
def l30r1 : List AOper :=
  [.mk (some 5) (.load true 3 (.tmp 2)) none [], .mk (some 6) (.mv (.tmp 1)) none [], .mk (some 7) (.call 65 [.tmp 5, .tmp 6]) none [0, 1], .mk (some 8) (.un .not (.tmp 7)) none [2]]
def l30r2 : List AOper :=
  [.mk (some 4) (.mv (.const (.slice none 0 0))) none []]
def l30r3 : List AOper :=
  [.mk (some 9) (.load true 3 (.tmp 2)) none [], .mk (some 10) (.mv (.tmp 1)) none [], .mk (some 11) (.call 66 [.tmp 9, .tmp 10]) none [0, 1], .mk (some 4) (.mv (.tmp 11)) none [2, 2, 0, 1, 2]]
def l30 : AFn :=
  (AFn.mk 12 2 (.seq (.reg l30r0) (.seq (.seq (.reg l30r1) (.cond (.tmp 8) (.seq (.reg l30r2) .ret) .skip)) (.seq (.reg l30r3) .ret))) [.tmp 4])
theorem l30_eq : lowFn Tryd.prog 30 = some l30 := by kernel_rfl
def l31r0 : List AOper :=
  [.mk (some 2) (.box (.tmp 0)) none [], .mk (some 4) (.mv (.const (.slice none 0 0))) none []]
def l31r1 : List AOper :=
  [.mk (some 5) (.load true 3 (.tmp 2)) none [], .mk (some 6) (.call 57 [.tmp 5]) none [0], .mk (some 7) (.un .not (.tmp 6)) none [1], .mk (some 8) (.mv (.tmp 7)) none [2, 1], .mk (some 9) (.load true 3 (.tmp 2)) (some (8, false)) [3], .mk (some 10) (.mv (.tmp 1)) (some (8, false)) [3], .mk (some 11) (.call 67 [.tmp 9, .tmp 10]) (some (8, false)) [4, 5, 3, 3], .mk (some 12) (.un .not (.tmp 11)) (some (8, false)) [6, 3], .mk (some 13) (.pick (.tmp 8) (.const (.bool true)) (.tmp 12)) none [3, 7]]
def l31r2 : List AOper :=
  [.mk (some 4) (.mv (.const (.slice none 0 0))) none []]
def l31r3 : List AOper :=
  [.mk (some 14) (.load true 3 (.tmp 2)) none [], .mk (some 15) (.mv (.tmp 1)) none [], .mk (some 16) (.call 68 [.tmp 14, .tmp 15]) none [0, 1], .mk (some 4) (.mv (.tmp 16)) none [2, 2, 0, 1, 2]]
def l31 : AFn :=
  (AFn.mk 17 2 (.seq (.reg l31r0) (.seq (.seq (.reg l31r1) (.cond (.tmp 13) (.seq (.reg l31r2) .ret) .skip)) (.seq (.reg l31r3) .ret))) [.tmp 4])
theorem l31_eq : lowFn Tryd.prog 31 = some l31 := by kernel_rfl
def l32r0 : List AOper :=
  [.mk (some 2) (.box (.tmp 0)) none [], .mk (some 4) (.mv (.const (.slice none 0 0))) none [], .mk (some 5) (.mv (.const (.bool false))) none [1]]
def l32r1 : List AOper :=
  [.mk (some 6) (.load true 3 (.tmp 2)) none [], .mk (some 7) (.call 14 [.tmp 6]) none [0], .mk (some 8) (.un .not (.tmp 7)) none [1], .mk (some 9) (.mv (.tmp 8)) none [2, 1], .mk (some 10) (.mv (.tmp 1)) (some (9, false)) [3], .mk (some 11) (.len (.tmp 10)) (some (9, false)) [4, 3], .mk (some 12) (.load true 3 (.tmp 2)) (some (9, false)) [3], .mk (some 13) (.call 60 [.tmp 12]) (some (9, false)) [6, 3, 3], .mk (some 14) (.bin .neq (.tmp 11) (.tmp 13)) (some (9, false)) [5, 7, 3], .mk (some 15) (.pick (.tmp 9) (.const (.bool true)) (.tmp 14)) none [3, 8], .mk (some 16) (.mv (.tmp 15)) none [9, 7], .mk (some 17) (.mv (.tmp 1)) (some (16, false)) [10], .mk (some 18) (.call 69 [.tmp 17]) (some (16, false)) [11, 10, 10], .mk (some 19) (.un .not (.tmp 18)) (some (16, false)) [12, 10], .mk (some 20) (.pick (.tmp 16) (.const (.bool true)) (.tmp 19)) none [10, 13]]
def l32r2 : List AOper :=
  [.mk (some 4) (.mv (.const (.slice none 0 0))) none [], .mk (some 5) (.mv (.const (.bool false))) none [0, 0]]
def l32r3 : List AOper :=
  [.mk (some 21) (.load true 3 (.tmp 2)) none [], .mk (some 22) (.mv (.tmp 1)) none [], .mk (some 23) (.call 70 [.tmp 21, .tmp 22]) none [0, 1], .mk (some 4) (.mv (.tmp 23)) none [2, 2, 0, 1, 2], .mk (some 5) (.mv (.const (.bool true))) none [3, 0, 1, 2, 3]]
def l32 : AFn :=
  (AFn.mk 24 2 (.seq (.reg l32r0) (.seq (.seq (.reg l32r1) (.cond (.tmp 20) (.seq (.reg l32r2) .ret) .skip)) (.seq (.reg l32r3) .ret))) [.tmp 4, .tmp 5])
theorem l32_eq : lowFn Tryd.prog 32 = some l32 := by kernel_rfl
def l33r0 : List AOper :=
  [.mk (some 2) (.mv (.const (.bool false))) none []]
def l33r1 : List AOper :=
  [.mk (some 3) (.mv (.tmp 0)) none [], .mk (some 4) (.len (.tmp 3)) none [0], .mk (some 5) (.call 71 [.tmp 4]) none [1], .mk (some 6) (.mv (.tmp 5)) none [2, 2], .mk (some 7) (.mv (.tmp 0)) (some (6, true)) [3], .mk (some 8) (.call 69 [.tmp 7]) (some (6, true)) [4, 3, 3], .mk (some 9) (.pick (.tmp 6) (.tmp 8) (.const (.bool false))) none [3, 5], .mk (some 2) (.mv (.tmp 9)) none [6, 5, 0, 1, 2, 3, 4, 5, 6]]
def l33 : AFn :=
  (AFn.mk 10 1 (.seq (.reg l33r0) (.seq (.reg l33r1) .ret)) [.tmp 2])
theorem l33_eq : lowFn Tryd.prog 33 = some l33 := by kernel_rfl
def l34r0 : List AOper :=
  [.mk (some 2) (.alloc [.slice none 0 0, .bool false, .bool false]) none [], .mk (some 3) (.mv (.const (.slice none 0 0))) none []]
def l34r1 : List AOper :=
  [.mk (some 6) (.mv (.tmp 0)) none [], .mk (some 7) (.call 55 [.tmp 6]) none [0], .mk (some 4) (.mv (.tmp 7)) none [1, 1, 0, 1]]
def l34r2 : List AOper :=
  [.mk (some 8) (.mv (.tmp 4)) none [], .mk (some 9) (.call 54 [.tmp 8]) none [0], .mk (some 5) (.alloc [.slice none 0 0, .bool false, .bool false]) none [], .mk none (.store 3 (.tmp 5) (.tmp 9)) none [2, 1, 1, 0, 1, 2]]
def l34r3a : List AOper :=
  [.mk (some 10) (.load true 3 (.tmp 5)) none [], .mk (some 11) (.mv (.tmp 4)) none [], .mk (some 12) (.load true 3 (.tmp 5)) none [], .mk (some 13) (.call 72 [.tmp 11, .tmp 12, .const (.int .i64 1)]) none [1, 2]]
def l34r3b : List AOper :=
  [.mk none (.store 3 (.tmp 2) (.tmp 10)) none [0, 3, 0], .mk (some 3) (.mv (.tmp 13)) none [3, 4, 0, 1, 2, 3, 4]]
def l34r3 : List AOper := l34r3a ++ l34r3b
def l34 : AFn :=
  (AFn.mk 14 1 (.seq (.reg l34r0) (.seq (.reg l34r1) (.seq (.reg l34r2) (.seq (.draw l34r3) .ret)))) [.cell 2 true 3, .tmp 3])
theorem l34_eq : lowFn Tryd.prog 34 = some l34 := by kernel_rfl
def l35r0 : List AOper :=
  [.mk (some 2) (.box (.tmp 0)) none [], .mk (some 4) (.mv (.const (.slice none 0 0))) none [], .mk (some 5) (.mv (.const (.bool false))) none [1]]
def l35r1 : List AOper :=
  [.mk (some 6) (.load true 3 (.tmp 2)) none [], .mk (some 7) (.call 57 [.tmp 6]) none [0], .mk (some 8) (.un .not (.tmp 7)) none [1], .mk (some 9) (.mv (.tmp 8)) none [2, 1], .mk (some 10) (.mv (.tmp 1)) (some (9, false)) [3], .mk (some 11) (.len (.tmp 10)) (some (9, false)) [4, 3], .mk (some 12) (.load true 3 (.tmp 2)) (some (9, false)) [3], .mk (some 13) (.call 22 [.tmp 12]) (some (9, false)) [6, 3, 3], .mk (some 14) (.bin .neq (.tmp 11) (.tmp 13)) (some (9, false)) [5, 7, 3], .mk (some 15) (.pick (.tmp 9) (.const (.bool true)) (.tmp 14)) none [3, 8], .mk (some 16) (.mv (.tmp 15)) none [9, 7], .mk (some 17) (.mv (.tmp 1)) (some (16, false)) [10], .mk (some 18) (.call 73 [.tmp 17, .const (.int .i64 0), .const (.int .i64 255)]) (some (16, false)) [11, 10, 10], .mk (some 19) (.un .not (.tmp 18)) (some (16, false)) [12, 10], .mk (some 20) (.pick (.tmp 16) (.const (.bool true)) (.tmp 19)) none [10, 13]]
def l35r2 : List AOper :=
  [.mk (some 4) (.mv (.const (.slice none 0 0))) none [], .mk (some 5) (.mv (.const (.bool false))) none [0, 0]]
def l35r3 : List AOper :=
  [.mk (some 21) (.load true 3 (.tmp 2)) none [], .mk (some 22) (.mv (.tmp 1)) none [], .mk (some 23) (.call 74 [.tmp 21, .tmp 22]) none [0, 1], .mk (some 4) (.mv (.tmp 23)) none [2, 2, 0, 1, 2], .mk (some 5) (.mv (.const (.bool true))) none [3, 0, 1, 2, 3]]
def l35 : AFn :=
  (AFn.mk 24 2 (.seq (.reg l35r0) (.seq (.seq (.reg l35r1) (.cond (.tmp 20) (.seq (.reg l35r2) .ret) .skip)) (.seq (.reg l35r3) .ret))) [.tmp 4, .tmp 5])
theorem l35_eq : lowFn Tryd.prog 35 = some l35 := by kernel_rfl
def l54r0 : List AOper :=
  [.mk (some 2) (.alloc [.slice none 0 0, .bool false, .bool false]) none []]
def l54r1 : List AOper :=
  [.mk (some 5) (.mv (.tmp 0)) none [], .mk (some 6) (.call 85 [.tmp 5, .const (.int .i64 2)]) none [0], .mk (some 7) (.bin .eql (.tmp 6) (.const (.int .i64 0))) none [1], .mk (some 8) (.mv (.tmp 0)) none [], .mk (some 9) (.call 85 [.tmp 8, .const (.int .i64 2)]) none [3, 1], .mk (some 10) (.bin .eql (.tmp 9) (.const (.int .i64 0))) none [4], .mk (some 11) (.build [.slice none 0 0, .bool false, .bool false] [(1, 1, .tmp 7), (2, 1, .tmp 10)]) none [2, 5], .mk (some 3) (.alloc [.slice none 0 0, .bool false, .bool false]) none [], .mk none (.store 3 (.tmp 3) (.tmp 11)) none [7, 6, 4, 0, 1, 2, 3, 4, 5, 6, 7]]
def l54r2 : List AOper :=
  [.mk (some 12) (.mv (.tmp 0)) none [], .mk (some 13) (.bslice 1 [.int .i64 0] [(0, .const (.int .i64 2)), (1, .const (.int .i64 3)), (2, .const (.int .i64 1)), (3, .const (.int .i64 4)), (4, .const (.int .i64 5))] 5) none [], .mk (some 14) (.call 75 [.tmp 12, .tmp 13]) none [0, 1], .mk (some 4) (.mv (.tmp 14)) none [2, 2, 0, 1, 2]]
def l54r3 : List AOper :=
  [.mk (some 15) (.mv (.tmp 4)) none [], .mk (some 16) (.bin .gtr (.tmp 15) (.const (.int .i64 0))) none [0]]
def l54r4a : List AOper :=
  [.mk (some 19) (.fld 0 (.tmp 3)) none [], .mk (some 20) (.load false 1 (.tmp 19)) none [0], .mk (some 21) (.mv (.tmp 0)) none [], .mk (some 22) (.bslice 1 [.int .i64 0] [(0, .const (.int .i64 1)), (1, .const (.int .i64 2)), (2, .const (.int .i64 4)), (3, .const (.int .i64 1)), (4, .const (.int .i64 2))] 5) none [], .mk (some 23) (.call 75 [.tmp 21, .tmp 22]) none [2, 3], .mk (some 24) (.bslice 1 [.int .i64 0] [(0, .tmp 23)] 1) none [4]]
def l54r4b : List AOper :=
  [.mk (some 25) (.append 1 (.tmp 20) (.tmp 24)) none [1, 5, 4], .mk (some 26) (.fld 0 (.tmp 3)) none [0, 1, 2, 3, 4, 5, 6], .mk none (.store 1 (.tmp 26) (.tmp 25)) none [7, 6, 6, 0, 1, 2, 3, 4, 5, 6]]
def l54r4 : List AOper := l54r4a ++ l54r4b
def l54r5 : List AOper :=
  [.mk (some 17) (.mv (.tmp 4)) none [], .mk (some 18) (.bin .sub (.tmp 17) (.const (.int .i64 1))) none [0], .mk (some 4) (.mv (.tmp 18)) none [1, 0, 1]]
def l54r6 : List AOper :=
  [.mk (some 27) (.mv (.tmp 0)) none [], .mk (some 28) (.call 85 [.tmp 27, .const (.int .i64 20)]) none [0]]
def l54r7 : List AOper :=
  [.mk (some 30) (.bin .eql (.tmp 28) (.const (.int .i64 0))) none [], .mk (some 29) (.mv (.tmp 30)) none [0]]
def l54r8a : List AOper :=
  [.mk (some 31) (.fld 0 (.tmp 3)) none [], .mk (some 32) (.load false 1 (.tmp 31)) none [0], .mk (some 33) (.mv (.tmp 0)) none [], .mk (some 34) (.bslice 1 [.int .i64 0] [(0, .const (.int .i64 3)), (1, .const (.int .i64 0)), (2, .const (.int .i64 8))] 3) none [], .mk (some 35) (.call 75 [.tmp 33, .tmp 34]) none [2, 3]]
def l54r8b : List AOper :=
  [.mk (some 36) (.idxA 1 (.tmp 32) (.const (.int .i64 0))) none [1, 0, 1, 2, 3, 4], .mk none (.store 1 (.tmp 36) (.tmp 35)) none [5, 4, 4, 0, 1, 2, 3, 4]]
def l54r8 : List AOper := l54r8a ++ l54r8b
def l54r9 : List AOper :=
  [.mk (some 38) (.bin .eql (.tmp 28) (.const (.int .i64 1))) none [], .mk (some 37) (.mv (.tmp 38)) none [0]]
def l54r10 : List AOper :=
  [.mk (some 39) (.fld 0 (.tmp 3)) none [], .mk none (.store 1 (.tmp 39) (.const (.slice none 0 0))) none [0]]
def l54r11 : List AOper :=
  [.mk (some 40) (.load true 3 (.tmp 3)) none [], .mk none (.store 3 (.tmp 2) (.tmp 40)) none [0, 0]]
def l54 : AFn :=
  (AFn.mk 41 1 (.seq (.reg l54r0) (.seq (.reg l54r1) (.seq (.seq (.reg l54r2) (.block 0 (.loop (.seq (.seq (.reg l54r3) (.cond (.tmp 16) .skip (.exit 0))) (.seq (.block 1 (.draw l54r4)) (.reg l54r5)))))) (.seq (.seq (.reg l54r6) (.block 2 (.seq (.reg l54r7) (.cond (.tmp 29) (.draw l54r8) (.seq (.reg l54r9) (.cond (.tmp 37) (.reg l54r10) .skip)))))) (.seq (.reg l54r11) .ret))))) [.cell 2 true 3])
theorem l54_eq : lowFn Tryd.prog 54 = some l54 := by kernel_rfl
def l55r0 : List AOper :=
  [.mk (some 2) (.mv (.const (.pointer none))) none []]
def l55r1 : List AOper :=
  [.mk (some 3) (.mv (.tmp 0)) none [], .mk (some 4) (.len (.tmp 3)) none [0], .mk (some 5) (.bin .gtr (.tmp 4) (.const (.int .i64 2000))) none [1]]
def l55r2 : List AOper :=
  [.mk (some 6) (.mv (.tmp 0)) none [], .mk (some 7) (.slice 1 (.tmp 6) none (some (.const (.int .i64 2000)))) none [0], .mk (some 0) (.mv (.tmp 7)) none [1, 0, 1]]
def l55r3 : List AOper :=
  [.mk (some 8) (.mv (.tmp 0)) none [], .mk (some 9) (.build [.slice none 0 0, .int .i64 0] [(0, 1, .tmp 8)]) none [0], .mk (some 10) (.box (.tmp 9)) none [1], .mk (some 2) (.mv (.tmp 10)) none [2, 0, 1, 2]]
def l55 : AFn :=
  (AFn.mk 11 1 (.seq (.reg l55r0) (.seq (.seq (.reg l55r1) (.cond (.tmp 5) (.reg l55r2) .skip)) (.seq (.reg l55r3) .ret))) [.tmp 2])
theorem l55_eq : lowFn Tryd.prog 55 = some l55 := by kernel_rfl
def l56r0 : List AOper :=
  [.mk (some 2) (.mv (.const (.bool false))) none []]
def l56r1 : List AOper :=
  [.mk (some 5) (.load true 3 (.global 0)) none [], .mk (some 6) (.mv (.const (.int .i64 0))) none []]
def l56r2 : List AOper :=
  [.mk (some 7) (.bin .lss (.tmp 6) (.const (.int .i64 3))) none []]
def l56r3 : List AOper :=
  [.mk (some 8) (.raw (Op.index 95 (.tmp 5) (.tmp 6))) none [], .mk (some 4) (.mv (.tmp 8)) none [0, 0]]
def l56r4 : List AOper :=
  [.mk (some 9) (.mv (.tmp 0)) none [], .mk (some 10) (.mv (.tmp 4)) none [], .mk (some 11) (.bin .eql (.tmp 9) (.tmp 10)) none [0, 1]]
def l56r5 : List AOper :=
  [.mk (some 2) (.mv (.const (.bool true))) none []]
def l56r6 : List AOper :=
  [.mk (some 12) (.bin .add (.tmp 6) (.const (.int .i64 1))) none [], .mk (some 6) (.mv (.tmp 12)) none [0]]
def l56r7 : List AOper :=
  [.mk (some 2) (.mv (.const (.bool false))) none []]
def l56 : AFn :=
  (AFn.mk 13 1 (.seq (.reg l56r0) (.seq (.seq (.reg l56r1) (.block 0 (.loop (.seq (.reg l56r2) (.seq (.cond (.tmp 7) .skip (.exit 0)) (.seq (.block 1 (.seq (.reg l56r3) (.seq (.reg l56r4) (.cond (.tmp 11) (.seq (.reg l56r5) .ret) .skip)))) (.reg l56r6))))))) (.seq (.reg l56r7) .ret))) [.tmp 2])
theorem l56_eq : lowFn Tryd.prog 56 = some l56 := by kernel_rfl
def l57r0 : List AOper :=
  [.mk (some 1) (.box (.tmp 0)) none [], .mk (some 2) (.mv (.const (.bool false))) none []]
def l57r1 : List AOper :=
  [.mk (some 3) (.mv (.const (.int .i64 0))) none []]
def l57r2 : List AOper :=
  [.mk (some 4) (.mv (.tmp 3)) none [], .mk (some 5) (.fld 0 (.tmp 1)) none [], .mk (some 6) (.load false 1 (.tmp 5)) none [1], .mk (some 7) (.len (.tmp 6)) none [2], .mk (some 8) (.bin .lss (.tmp 4) (.tmp 7)) none [0, 3]]
def l57r3 : List AOper :=
  [.mk (some 11) (.fld 0 (.tmp 1)) none [], .mk (some 12) (.load false 1 (.tmp 11)) none [0], .mk (some 13) (.mv (.tmp 3)) none [], .mk (some 14) (.idxA 1 (.tmp 12) (.tmp 13)) none [1, 2], .mk (some 15) (.load false 1 (.tmp 14)) none [3], .mk (some 16) (.bin .neq (.tmp 15) (.const (.int .i64 1))) none [4], .mk (some 17) (.mv (.tmp 16)) none [5], .mk (some 18) (.fld 0 (.tmp 1)) (some (17, true)) [6], .mk (some 19) (.load false 1 (.tmp 18)) (some (17, true)) [7, 6], .mk (some 20) (.mv (.tmp 3)) (some (17, true)) [6], .mk (some 21) (.idxA 1 (.tmp 19) (.tmp 20)) (some (17, true)) [8, 9, 6], .mk (some 22) (.load false 1 (.tmp 21)) (some (17, true)) [10, 6], .mk (some 23) (.bin .neq (.tmp 22) (.const (.int .i64 2))) (some (17, true)) [11, 6], .mk (some 24) (.pick (.tmp 17) (.tmp 23) (.const (.bool false))) none [6, 12], .mk (some 25) (.mv (.tmp 24)) none [13, 6], .mk (some 26) (.fld 0 (.tmp 1)) (some (25, true)) [14], .mk (some 27) (.load false 1 (.tmp 26)) (some (25, true)) [15, 14], .mk (some 28) (.mv (.tmp 3)) (some (25, true)) [14], .mk (some 29) (.idxA 1 (.tmp 27) (.tmp 28)) (some (25, true)) [16, 17, 14], .mk (some 30) (.load false 1 (.tmp 29)) (some (25, true)) [18, 14], .mk (some 31) (.bin .neq (.tmp 30) (.const (.int .i64 4))) (some (25, true)) [19, 14], .mk (some 32) (.pick (.tmp 25) (.tmp 31) (.const (.bool false))) none [14, 20]]
def l57r4 : List AOper :=
  [.mk (some 2) (.mv (.const (.bool false))) none []]
def l57r5 : List AOper :=
  [.mk (some 9) (.mv (.tmp 3)) none [], .mk (some 10) (.bin .add (.tmp 9) (.const (.int .i64 1))) none [0], .mk (some 3) (.mv (.tmp 10)) none [1, 0, 1]]
def l57r6 : List AOper :=
  [.mk (some 33) (.fld 0 (.tmp 1)) none [], .mk (some 34) (.load false 1 (.tmp 33)) none [0], .mk (some 35) (.len (.tmp 34)) none [1], .mk (some 36) (.call 63 [.tmp 35, .const (.int .i64 1), .const (.int .i64 5)]) none [2], .mk (some 2) (.mv (.tmp 36)) none [3, 3, 0, 1, 2, 3]]
def l57 : AFn :=
  (AFn.mk 37 1 (.seq (.reg l57r0) (.seq (.seq (.reg l57r1) (.block 0 (.loop (.seq (.seq (.reg l57r2) (.cond (.tmp 8) .skip (.exit 0))) (.seq (.block 1 (.seq (.reg l57r3) (.cond (.tmp 32) (.seq (.reg l57r4) .ret) .skip))) (.reg l57r5)))))) (.seq (.reg l57r6) .ret))) [.tmp 2])
theorem l57_eq : lowFn Tryd.prog 57 = some l57 := by kernel_rfl
def l58r0 : List AOper :=
  [.mk (some 1) (.box (.tmp 0)) none [], .mk (some 2) (.mv (.const (.slice none 0 0))) none []]
def l58r1 : List AOper :=
  [.mk (some 7) (.fld 0 (.tmp 1)) none [], .mk (some 8) (.load false 1 (.tmp 7)) none [0], .mk (some 9) (.len (.tmp 8)) none [1], .mk (some 10) (.mkslice 2 [.int .i64 0, .int .i64 0] (.tmp 9) (.tmp 9)) none [2, 2], .mk (some 3) (.mv (.tmp 10)) none [3, 0, 1, 2, 3]]
def l58r2 : List AOper :=
  [.mk (some 4) (.mv (.const (.int .i64 0))) none []]
def l58r3 : List AOper :=
  [.mk (some 11) (.fld 0 (.tmp 1)) none [], .mk (some 12) (.load false 1 (.tmp 11)) none [0], .mk (some 13) (.len (.tmp 12)) none [1], .mk (some 14) (.mv (.const (.int .i64 0))) none []]
def l58r4 : List AOper :=
  [.mk (some 15) (.bin .lss (.tmp 14) (.tmp 13)) none []]
def l58r5 : List AOper :=
  [.mk (some 16) (.mv (.tmp 14)) none [], .mk (some 17) (.idxA 1 (.tmp 12) (.tmp 14)) none [], .mk (some 18) (.load false 1 (.tmp 17)) none [1], .mk (some 5) (.mv (.tmp 16)) none [0, 0, 1, 2], .mk (some 6) (.mv (.tmp 18)) none [2, 3, 0, 1, 2, 3]]
def l58r6 : List AOper :=
  [.mk (some 19) (.mv (.tmp 3)) none [], .mk (some 20) (.mv (.tmp 5)) none [], .mk (some 21) (.load true 3 (.tmp 1)) none [], .mk (some 22) (.mv (.tmp 4)) none [], .mk (some 23) (.mv (.tmp 6)) none [], .mk (some 24) (.call 91 [.tmp 21, .tmp 22, .tmp 23]) none [2, 3, 4], .mk (some 25) (.mv (.tmp 6)) none [], .mk (some 26) (.build [.int .i64 0, .int .i64 0] [(0, 1, .tmp 24), (1, 1, .tmp 25)]) none [5, 6], .mk (some 27) (.idxA 2 (.tmp 19) (.tmp 20)) none [0, 1, 0, 1, 2, 3, 4, 5, 6, 7], .mk none (.store 2 (.tmp 27) (.tmp 26)) none [8, 7, 5, 0, 1, 2, 3, 4, 5, 6, 7]]
def l58r7 : List AOper :=
  [.mk (some 28) (.mv (.tmp 3)) none [], .mk (some 29) (.mv (.tmp 5)) none [], .mk (some 30) (.idxA 2 (.tmp 28) (.tmp 29)) none [0, 1], .mk (some 31) (.load true 2 (.tmp 30)) none [2], .mk (some 32) (.call 62 [.tmp 31]) none [3], .mk (some 4) (.mv (.tmp 32)) none [4, 4, 0, 1, 2, 3, 4]]
def l58r8 : List AOper :=
  [.mk (some 33) (.bin .add (.tmp 14) (.const (.int .i64 1))) none [], .mk (some 14) (.mv (.tmp 33)) none [0]]
def l58r9 : List AOper :=
  [.mk (some 34) (.mv (.tmp 3)) none [], .mk (some 2) (.mv (.tmp 34)) none [0, 0]]
def l58 : AFn :=
  (AFn.mk 35 1 (.seq (.reg l58r0) (.seq (.reg l58r1) (.seq (.reg l58r2) (.seq (.seq (.reg l58r3) (.block 0 (.loop (.seq (.reg l58r4) (.seq (.cond (.tmp 15) .skip (.exit 0)) (.seq (.block 1 (.seq (.reg l58r5) (.seq (.reg l58r6) (.reg l58r7)))) (.reg l58r8))))))) (.seq (.reg l58r9) .ret))))) [.tmp 2])
theorem l58_eq : lowFn Tryd.prog 58 = some l58 := by kernel_rfl
def l59r0 : List AOper :=
  [.mk (some 1) (.box (.tmp 0)) none [], .mk (some 2) (.mv (.const (.slice none 0 0))) none [], .mk (some 3) (.mv (.const (.int .i64 0))) none [1]]
def l59r1 : List AOper :=
  [.mk (some 8) (.bslice 1 [.int .i64 0] [] 0) none [], .mk (some 4) (.mv (.tmp 8)) none [0, 0]]
def l59r2 : List AOper :=
  [.mk (some 5) (.mv (.const (.int .i64 0))) none []]
def l59r3 : List AOper :=
  [.mk (some 6) (.mv (.const (.int .i64 1))) none []]
def l59r4 : List AOper :=
  [.mk (some 7) (.mv (.const (.int .i64 0))) none []]
def l59r5 : List AOper :=
  [.mk (some 9) (.mv (.tmp 7)) none [], .mk (some 10) (.fld 0 (.tmp 1)) none [], .mk (some 11) (.load false 1 (.tmp 10)) none [1], .mk (some 12) (.len (.tmp 11)) none [2], .mk (some 13) (.bin .lss (.tmp 9) (.tmp 12)) none [0, 3]]
def l59r6 : List AOper :=
  [.mk (some 16) (.fld 2 (.tmp 1)) none [], .mk (some 17) (.load false 1 (.tmp 16)) none [0]]
def l59r7 : List AOper :=
  [.mk (some 18) (.mv (.tmp 5)) none [], .mk (some 19) (.fld 0 (.tmp 1)) none [], .mk (some 20) (.load false 1 (.tmp 19)) none [1], .mk (some 21) (.mv (.tmp 7)) none [], .mk (some 22) (.idxA 1 (.tmp 20) (.tmp 21)) none [2, 3], .mk (some 23) (.load false 1 (.tmp 22)) none [4], .mk (some 24) (.call 92 [.tmp 18, .tmp 23]) none [0, 5], .mk (some 5) (.mv (.tmp 24)) none [6, 6, 0, 1, 2, 3, 4, 5, 6]]
def l59r8 : List AOper :=
  [.mk (some 25) (.mv (.tmp 6)) none [], .mk (some 26) (.fld 0 (.tmp 1)) none [], .mk (some 27) (.load false 1 (.tmp 26)) none [1], .mk (some 28) (.mv (.tmp 7)) none [], .mk (some 29) (.idxA 1 (.tmp 27) (.tmp 28)) none [2, 3], .mk (some 30) (.load false 1 (.tmp 29)) none [4], .mk (some 31) (.minmax true (.tmp 25) (.tmp 30)) none [0, 5], .mk (some 6) (.mv (.tmp 31)) none [6, 0, 1, 2, 3, 4, 5, 6]]
def l59r9 : List AOper :=
  [.mk (some 32) (.mv (.tmp 4)) none [], .mk (some 33) (.mv (.tmp 5)) none [], .mk (some 34) (.bslice 1 [.int .i64 0] [(0, .tmp 33)] 1) none [1], .mk (some 35) (.append 1 (.tmp 32) (.tmp 34)) none [0, 2], .mk (some 4) (.mv (.tmp 35)) none [3, 3, 0, 1, 2, 3]]
def l59r10 : List AOper :=
  [.mk (some 36) (.mv (.tmp 5)) none [], .mk (some 37) (.fld 0 (.tmp 1)) none [], .mk (some 38) (.load false 1 (.tmp 37)) none [1], .mk (some 39) (.mv (.tmp 7)) none [], .mk (some 40) (.idxA 1 (.tmp 38) (.tmp 39)) none [2, 3], .mk (some 41) (.load false 1 (.tmp 40)) none [4], .mk (some 42) (.bin .add (.tmp 36) (.tmp 41)) none [0, 5], .mk (some 5) (.mv (.tmp 42)) none [6, 0, 1, 2, 3, 4, 5, 6]]
def l59r11 : List AOper :=
  [.mk (some 14) (.mv (.tmp 7)) none [], .mk (some 15) (.bin .add (.tmp 14) (.const (.int .i64 1))) none [0], .mk (some 7) (.mv (.tmp 15)) none [1, 0, 1]]
def l59r12 : List AOper :=
  [.mk (some 43) (.mv (.tmp 4)) none [], .mk (some 44) (.mv (.tmp 5)) none [], .mk (some 45) (.mv (.tmp 6)) none [], .mk (some 46) (.call 92 [.tmp 44, .tmp 45]) none [1, 2], .mk (some 2) (.mv (.tmp 43)) none [0, 3, 0], .mk (some 3) (.mv (.tmp 46)) none [3, 4, 0, 1, 2, 3, 4]]
def l59 : AFn :=
  (AFn.mk 47 1 (.seq (.reg l59r0) (.seq (.reg l59r1) (.seq (.reg l59r2) (.seq (.reg l59r3) (.seq (.seq (.reg l59r4) (.block 0 (.loop (.seq (.seq (.reg l59r5) (.cond (.tmp 13) .skip (.exit 0))) (.seq (.block 1 (.seq (.seq (.reg l59r6) (.cond (.tmp 17) (.seq (.reg l59r7) (.reg l59r8)) .skip)) (.seq (.reg l59r9) (.reg l59r10)))) (.reg l59r11)))))) (.seq (.reg l59r12) .ret)))))) [.tmp 2, .tmp 3])
theorem l59_eq : lowFn Tryd.prog 59 = some l59 := by kernel_rfl
def l60r0 : List AOper :=
  [.mk (some 1) (.box (.tmp 0)) none [], .mk (some 2) (.mv (.const (.int .i64 0))) none []]
def l60r1a : List AOper :=
  [.mk (some 4) (.load true 3 (.tmp 1)) none [], .mk (some 5) (.call 58 [.tmp 4]) none [0], .mk (some 6) (.fld 0 (.tmp 1)) none [], .mk (some 7) (.load false 1 (.tmp 6)) none [2], .mk (some 8) (.len (.tmp 7)) none [3], .mk (some 9) (.bin .sub (.tmp 8) (.const (.int .i64 1))) none [4], .mk (some 10) (.idxA 2 (.tmp 5) (.tmp 9)) none [1, 5], .mk (some 11) (.load true 2 (.tmp 10)) none [6], .mk (some 3) (.alloc [.int .i64 0, .int .i64 0]) none []]
def l60r1b : List AOper :=
  [.mk none (.store 2 (.tmp 3) (.tmp 11)) none [8, 7, 1, 0, 1, 2, 3, 4, 5, 6, 7, 8]]
def l60r1 : List AOper := l60r1a ++ l60r1b
def l60r2a : List AOper :=
  [.mk (some 12) (.load true 3 (.tmp 1)) none [], .mk (some 13) (.load true 2 (.tmp 3)) none [], .mk (some 14) (.call 62 [.tmp 13]) none [1], .mk (some 15) (.fld 0 (.tmp 1)) none [], .mk (some 16) (.load false 1 (.tmp 15)) none [3], .mk (some 17) (.call 93 [.tmp 16]) none [4, 2]]
def l60r2b : List AOper :=
  [.mk (some 18) (.call 91 [.tmp 12, .tmp 14, .tmp 17]) none [0, 2, 5, 5], .mk (some 2) (.mv (.tmp 18)) none [6, 6, 0, 1, 2, 3, 4, 5, 6]]
def l60r2 : List AOper := l60r2a ++ l60r2b
def l60 : AFn :=
  (AFn.mk 19 1 (.seq (.reg l60r0) (.seq (.draw l60r1) (.seq (.draw l60r2) .ret))) [.tmp 2])
theorem l60_eq : lowFn Tryd.prog 60 = some l60 := by kernel_rfl
def l61r0 : List AOper :=
  [.mk (some 1) (.box (.tmp 0)) none [], .mk (some 2) (.mv (.const (.slice none 0 0))) none []]
def l61r1 : List AOper :=
  [.mk (some 5) (.load true 3 (.tmp 1)) none [], .mk (some 6) (.call 94 [.tmp 5]) none [0], .mk (some 7) (.mkslice 1 [.int .i64 0] (.tmp 6) (.tmp 6)) none [1, 1], .mk (some 3) (.mv (.tmp 7)) none [2, 1, 0, 1, 2]]
def l61r2 : List AOper :=
  [.mk (some 8) (.mv (.tmp 3)) none [], .mk (some 9) (.len (.tmp 8)) none [0], .mk (some 10) (.mv (.const (.int .i64 0))) none []]
def l61r3 : List AOper :=
  [.mk (some 11) (.bin .lss (.tmp 10) (.tmp 9)) none []]
def l61r4 : List AOper :=
  [.mk (some 12) (.mv (.tmp 10)) none [], .mk (some 4) (.mv (.tmp 12)) none [0, 0]]
def l61r5 : List AOper :=
  [.mk (some 13) (.mv (.tmp 3)) none [], .mk (some 14) (.mv (.tmp 4)) none [], .mk (some 15) (.load true 3 (.tmp 1)) none [], .mk (some 16) (.mv (.tmp 4)) none [], .mk (some 17) (.call 95 [.tmp 15, .tmp 16]) none [2, 3], .mk (some 18) (.idxA 1 (.tmp 13) (.tmp 14)) none [0, 1, 0, 1, 2, 3, 4], .mk none (.store 1 (.tmp 18) (.tmp 17)) none [5, 4, 4, 0, 1, 2, 3, 4]]
def l61r6 : List AOper :=
  [.mk (some 19) (.bin .add (.tmp 10) (.const (.int .i64 1))) none [], .mk (some 10) (.mv (.tmp 19)) none [0]]
def l61r7 : List AOper :=
  [.mk (some 20) (.mv (.tmp 3)) none [], .mk (some 2) (.mv (.tmp 20)) none [0, 0]]
def l61 : AFn :=
  (AFn.mk 21 1 (.seq (.reg l61r0) (.seq (.reg l61r1) (.seq (.seq (.reg l61r2) (.block 0 (.loop (.seq (.reg l61r3) (.seq (.cond (.tmp 11) .skip (.exit 0)) (.seq (.block 1 (.seq (.reg l61r4) (.reg l61r5))) (.reg l61r6))))))) (.seq (.reg l61r7) .ret)))) [.tmp 2])
theorem l61_eq : lowFn Tryd.prog 61 = some l61 := by kernel_rfl
def l62r0 : List AOper :=
  [.mk (some 1) (.box (.tmp 0)) none [], .mk (some 2) (.mv (.const (.int .i64 0))) none []]
def l62r1 : List AOper :=
  [.mk (some 3) (.fld 0 (.tmp 1)) none [], .mk (some 4) (.load false 1 (.tmp 3)) none [0], .mk (some 5) (.fld 1 (.tmp 1)) none [], .mk (some 6) (.load false 1 (.tmp 5)) none [2], .mk (some 7) (.bin .add (.tmp 4) (.tmp 6)) none [1, 3], .mk (some 2) (.mv (.tmp 7)) none [4, 0, 1, 2, 3, 4]]
def l62 : AFn :=
  (AFn.mk 8 1 (.seq (.reg l62r0) (.seq (.reg l62r1) .ret)) [.tmp 2])
theorem l62_eq : lowFn Tryd.prog 62 = some l62 := by kernel_rfl
def l63r0 : List AOper :=
  [.mk (some 6) (.mv (.const (.bool false))) none []]
def l63r1 : List AOper :=
  [.mk (some 7) (.mv (.tmp 1)) none [], .mk (some 8) (.mv (.tmp 0)) none [], .mk (some 9) (.bin .leq (.tmp 7) (.tmp 8)) none [0, 1], .mk (some 10) (.mv (.tmp 9)) none [2], .mk (some 11) (.mv (.tmp 0)) (some (10, true)) [3], .mk (some 12) (.mv (.tmp 2)) (some (10, true)) [3], .mk (some 13) (.bin .leq (.tmp 11) (.tmp 12)) (some (10, true)) [4, 5, 3], .mk (some 14) (.pick (.tmp 10) (.tmp 13) (.const (.bool false))) none [3, 6], .mk (some 6) (.mv (.tmp 14)) none [7, 3, 0, 1, 2, 3, 4, 5, 6, 7]]
def l63 : AFn :=
  (AFn.mk 15 3 (.seq (.reg l63r0) (.seq (.reg l63r1) .ret)) [.tmp 6])
theorem l63_eq : lowFn Tryd.prog 63 = some l63 := by kernel_rfl
def l64r0 : List AOper :=
  [.mk (some 3) (.box (.tmp 1)) none [], .mk (some 4) (.mv (.const (.slice none 0 0))) none []]
def l64r1 : List AOper :=
  [.mk (some 8) (.bslice 1 [.int .i64 0] [] 0) none [], .mk (some 5) (.mv (.tmp 8)) none [0, 0]]
def l64r2 : List AOper :=
  [.mk (some 6) (.mv (.const (.int .i64 0))) none []]
def l64r3 : List AOper :=
  [.mk (some 9) (.mv (.tmp 6)) none [], .mk (some 10) (.fld 0 (.tmp 3)) none [], .mk (some 11) (.load false 1 (.tmp 10)) none [1], .mk (some 12) (.len (.tmp 11)) none [2], .mk (some 13) (.bin .lss (.tmp 9) (.tmp 12)) none [0, 3]]
def l64r4 : List AOper :=
  [.mk (some 16) (.mv (.tmp 0)) none [], .mk (some 17) (.call 85 [.tmp 16, .const (.int .i64 256)]) none [0], .mk (some 7) (.mv (.tmp 17)) none [1, 1, 0, 1]]
def l64r5 : List AOper :=
  [.mk (some 18) (.fld 0 (.tmp 3)) none [], .mk (some 19) (.load false 1 (.tmp 18)) none [0], .mk (some 20) (.mv (.tmp 6)) none [], .mk (some 21) (.idxA 1 (.tmp 19) (.tmp 20)) none [1, 2], .mk (some 22) (.load false 1 (.tmp 21)) none [3], .mk (some 23) (.bin .geq (.tmp 22) (.const (.int .i64 2))) none [4]]
def l64r6 : List AOper :=
  [.mk (some 24) (.mv (.tmp 7)) none [], .mk (some 25) (.mv (.tmp 0)) none [], .mk (some 26) (.call 85 [.tmp 25, .const (.int .i64 256)]) none [1], .mk (some 27) (.bin .mul (.const (.int .i64 256)) (.tmp 26)) none [2], .mk (some 28) (.bin .add (.tmp 24) (.tmp 27)) none [0, 3], .mk (some 7) (.mv (.tmp 28)) none [4, 2, 0, 1, 2, 3, 4]]
def l64r7 : List AOper :=
  [.mk (some 29) (.fld 0 (.tmp 3)) none [], .mk (some 30) (.load false 1 (.tmp 29)) none [0], .mk (some 31) (.mv (.tmp 6)) none [], .mk (some 32) (.idxA 1 (.tmp 30) (.tmp 31)) none [1, 2], .mk (some 33) (.load false 1 (.tmp 32)) none [3], .mk (some 34) (.bin .eql (.tmp 33) (.const (.int .i64 4))) none [4]]
def l64r8 : List AOper :=
  [.mk (some 35) (.mv (.tmp 7)) none [], .mk (some 36) (.mv (.tmp 0)) none [], .mk (some 37) (.call 85 [.tmp 36, .const (.int .i64 256)]) none [1], .mk (some 38) (.bin .mul (.const (.int .i64 65536)) (.tmp 37)) none [2], .mk (some 39) (.bin .add (.tmp 35) (.tmp 38)) none [0, 3], .mk (some 40) (.mv (.tmp 0)) none [], .mk (some 41) (.call 85 [.tmp 40, .const (.int .i64 256)]) none [5, 2], .mk (some 42) (.bin .mul (.const (.int .i64 16777216)) (.tmp 41)) none [6], .mk (some 43) (.bin .add (.tmp 39) (.tmp 42)) none [4, 7], .mk (some 7) (.mv (.tmp 43)) none [8, 6, 0, 1, 2, 3, 4, 5, 6, 7, 8]]
def l64r9 : List AOper :=
  [.mk (some 44) (.mv (.tmp 5)) none [], .mk (some 45) (.mv (.tmp 7)) none [], .mk (some 46) (.bslice 1 [.int .i64 0] [(0, .tmp 45)] 1) none [1], .mk (some 47) (.append 1 (.tmp 44) (.tmp 46)) none [0, 2], .mk (some 5) (.mv (.tmp 47)) none [3, 3, 0, 1, 2, 3]]
def l64r10 : List AOper :=
  [.mk (some 14) (.mv (.tmp 6)) none [], .mk (some 15) (.bin .add (.tmp 14) (.const (.int .i64 1))) none [0], .mk (some 6) (.mv (.tmp 15)) none [1, 0, 1]]
def l64r11 : List AOper :=
  [.mk (some 48) (.mv (.tmp 5)) none [], .mk (some 49) (.len (.tmp 48)) none [0], .mk (some 50) (.bin .gtr (.tmp 49) (.const (.int .i64 0))) none [1]]
def l64r12 : List AOper :=
  [.mk (some 51) (.mv (.tmp 0)) none [], .mk (some 52) (.call 85 [.tmp 51, .const (.int .i64 20)]) none [0]]
def l64r13 : List AOper :=
  [.mk (some 54) (.bin .eql (.tmp 52) (.const (.int .i64 0))) none [], .mk (some 53) (.mv (.tmp 54)) none [0]]
def l64r14 : List AOper :=
  [.mk (some 55) (.mv (.tmp 5)) none [], .mk (some 56) (.mv (.tmp 0)) none [], .mk (some 57) (.bslice 1 [.int .i64 0] [(0, .const (.int .i64 (-1))), (1, .const (.int .i64 256)), (2, .const (.int .i64 65536)), (3, .const (.int .i64 4294967296))] 4) none [], .mk (some 58) (.call 75 [.tmp 56, .tmp 57]) none [1, 2], .mk (some 59) (.idxA 1 (.tmp 55) (.const (.int .i64 0))) none [0, 0, 1, 2, 3], .mk none (.store 1 (.tmp 59) (.tmp 58)) none [4, 3, 3, 0, 1, 2, 3]]
def l64r15 : List AOper :=
  [.mk (some 61) (.bin .eql (.tmp 52) (.const (.int .i64 1))) none [], .mk (some 60) (.mv (.tmp 61)) none [0]]
def l64r16 : List AOper :=
  [.mk (some 62) (.mv (.tmp 5)) none [], .mk (some 63) (.slice 1 (.tmp 62) (some (.const (.int .i64 1))) none) none [0], .mk (some 5) (.mv (.tmp 63)) none [1, 0, 1]]
def l64r17 : List AOper :=
  [.mk (some 64) (.mv (.tmp 5)) none [], .mk (some 4) (.mv (.tmp 64)) none [0, 0]]
def l64 : AFn :=
  (AFn.mk 65 2 (.seq (.reg l64r0) (.seq (.reg l64r1) (.seq (.seq (.reg l64r2) (.block 0 (.loop (.seq (.seq (.reg l64r3) (.cond (.tmp 13) .skip (.exit 0))) (.seq (.block 1 (.seq (.reg l64r4) (.seq (.seq (.reg l64r5) (.cond (.tmp 23) (.reg l64r6) .skip)) (.seq (.seq (.reg l64r7) (.cond (.tmp 34) (.reg l64r8) .skip)) (.reg l64r9))))) (.reg l64r10)))))) (.seq (.seq (.reg l64r11) (.cond (.tmp 50) (.seq (.reg l64r12) (.block 2 (.seq (.reg l64r13) (.cond (.tmp 53) (.reg l64r14) (.seq (.reg l64r15) (.cond (.tmp 60) (.reg l64r16) .skip)))))) .skip)) (.seq (.reg l64r17) .ret))))) [.tmp 4])
theorem l64_eq : lowFn Tryd.prog 64 = some l64 := by kernel_rfl
def l65r0 : List AOper :=
  [.mk (some 2) (.box (.tmp 0)) none [], .mk (some 4) (.mv (.const (.bool false))) none []]
def l65r1 : List AOper :=
  [.mk (some 7) (.load true 3 (.tmp 2)) none [], .mk (some 8) (.call 14 [.tmp 7]) none [0], .mk (some 9) (.un .not (.tmp 8)) none [1], .mk (some 10) (.mv (.tmp 9)) none [2, 1], .mk (some 11) (.mv (.tmp 1)) (some (10, false)) [3], .mk (some 12) (.len (.tmp 11)) (some (10, false)) [4, 3], .mk (some 13) (.fld 0 (.tmp 2)) (some (10, false)) [3], .mk (some 14) (.load false 1 (.tmp 13)) (some (10, false)) [6, 3], .mk (some 15) (.len (.tmp 14)) (some (10, false)) [7, 3], .mk (some 16) (.bin .neq (.tmp 12) (.tmp 15)) (some (10, false)) [5, 8, 3], .mk (some 17) (.pick (.tmp 10) (.const (.bool true)) (.tmp 16)) none [3, 9]]
def l65r2 : List AOper :=
  [.mk (some 4) (.mv (.const (.bool false))) none []]
def l65r3 : List AOper :=
  [.mk (some 18) (.mv (.tmp 1)) none [], .mk (some 19) (.len (.tmp 18)) none [0], .mk (some 20) (.mv (.const (.int .i64 0))) none []]
def l65r4 : List AOper :=
  [.mk (some 21) (.bin .lss (.tmp 20) (.tmp 19)) none []]
def l65r5 : List AOper :=
  [.mk (some 22) (.mv (.tmp 20)) none [], .mk (some 23) (.idxA 1 (.tmp 18) (.tmp 20)) none [], .mk (some 24) (.load false 1 (.tmp 23)) none [1], .mk (some 5) (.mv (.tmp 22)) none [0, 0, 1, 2], .mk (some 6) (.mv (.tmp 24)) none [2, 3, 0, 1, 2, 3]]
def l65r6 : List AOper :=
  [.mk (some 25) (.mv (.tmp 6)) none [], .mk (some 26) (.fld 0 (.tmp 2)) none [], .mk (some 27) (.load false 1 (.tmp 26)) none [1], .mk (some 28) (.mv (.tmp 5)) none [], .mk (some 29) (.idxA 1 (.tmp 27) (.tmp 28)) none [2, 3], .mk (some 30) (.load false 1 (.tmp 29)) none [4], .mk (some 31) (.call 96 [.tmp 30]) none [5], .mk (some 32) (.call 78 [.tmp 25, .tmp 31]) none [0, 6, 6], .mk (some 33) (.un .not (.tmp 32)) none [7]]
def l65r7 : List AOper :=
  [.mk (some 4) (.mv (.const (.bool false))) none []]
def l65r8 : List AOper :=
  [.mk (some 34) (.bin .add (.tmp 20) (.const (.int .i64 1))) none [], .mk (some 20) (.mv (.tmp 34)) none [0]]
def l65r9 : List AOper :=
  [.mk (some 4) (.mv (.const (.bool true))) none []]
def l65 : AFn :=
  (AFn.mk 35 2 (.seq (.reg l65r0) (.seq (.seq (.reg l65r1) (.cond (.tmp 17) (.seq (.reg l65r2) .ret) .skip)) (.seq (.seq (.reg l65r3) (.block 0 (.loop (.seq (.reg l65r4) (.seq (.cond (.tmp 21) .skip (.exit 0)) (.seq (.block 1 (.seq (.reg l65r5) (.seq (.reg l65r6) (.cond (.tmp 33) (.seq (.reg l65r7) .ret) .skip)))) (.reg l65r8))))))) (.seq (.reg l65r9) .ret)))) [.tmp 4])
theorem l65_eq : lowFn Tryd.prog 65 = some l65 := by kernel_rfl
def l66r0 : List AOper :=
  [.mk (some 2) (.box (.tmp 0)) none [], .mk (some 4) (.mv (.const (.slice none 0 0))) none []]
def l66r1a : List AOper :=
  [.mk (some 9) (.load true 3 (.tmp 2)) none [], .mk (some 10) (.call 60 [.tmp 9]) none [0], .mk (some 11) (.mkslice 1 [.int .i64 0] (.tmp 10) (.tmp 10)) none [1, 1], .mk (some 12) (.load true 3 (.tmp 2)) none [], .mk (some 13) (.call 79 [.tmp 12]) none [3, 1], .mk (some 6) (.alloc [.nilFunc]) none []]
def l66r1b : List AOper :=
  [.mk (some 5) (.mv (.tmp 11)) none [2, 4, 0, 1, 2, 5], .mk none (.store 1 (.tmp 6) (.tmp 13)) none [5, 4, 6, 0, 1, 2, 3, 4, 5, 6]]
def l66r1 : List AOper := l66r1a ++ l66r1b
def l66r2 : List AOper :=
  [.mk (some 14) (.load true 3 (.tmp 2)) none [], .mk (some 15) (.call 58 [.tmp 14]) none [0], .mk (some 16) (.len (.tmp 15)) none [1], .mk (some 17) (.mv (.const (.int .i64 0))) none []]
def l66r3 : List AOper :=
  [.mk (some 18) (.bin .lss (.tmp 17) (.tmp 16)) none []]
def l66r4 : List AOper :=
  [.mk (some 19) (.mv (.tmp 17)) none [], .mk (some 20) (.idxA 2 (.tmp 15) (.tmp 17)) none [], .mk (some 21) (.load true 2 (.tmp 20)) none [1], .mk (some 8) (.alloc [.int .i64 0, .int .i64 0]) none [], .mk (some 7) (.mv (.tmp 19)) none [0, 0, 1, 2, 3], .mk none (.store 2 (.tmp 8) (.tmp 21)) none [3, 2, 4, 0, 1, 2, 3, 4]]
def l66r5a : List AOper :=
  [.mk (some 22) (.load true 1 (.tmp 6)) none [], .mk (some 23) (.mv (.tmp 5)) none [], .mk (some 24) (.load true 2 (.tmp 8)) none [], .mk (some 25) (.mv (.tmp 1)) none [], .mk (some 26) (.mv (.tmp 7)) none [], .mk (some 27) (.idxA 1 (.tmp 25) (.tmp 26)) none [3, 4], .mk (some 28) (.load false 1 (.tmp 27)) none [5]]
def l66r5b : List AOper :=
  [.mk (some 29) (.call 97 [.tmp 22, .tmp 23, .tmp 24, .tmp 28]) none [0, 1, 2, 6]]
def l66r5 : List AOper := l66r5a ++ l66r5b
def l66r6 : List AOper :=
  [.mk (some 30) (.bin .add (.tmp 17) (.const (.int .i64 1))) none [], .mk (some 17) (.mv (.tmp 30)) none [0]]
def l66r7 : List AOper :=
  [.mk (some 31) (.mv (.tmp 5)) none [], .mk (some 4) (.mv (.tmp 31)) none [0, 0]]
def l66 : AFn :=
  (AFn.mk 32 2 (.seq (.reg l66r0) (.seq (.draw l66r1) (.seq (.seq (.reg l66r2) (.block 0 (.loop (.seq (.reg l66r3) (.seq (.cond (.tmp 18) .skip (.exit 0)) (.seq (.block 1 (.seq (.reg l66r4) (.draw l66r5))) (.reg l66r6))))))) (.seq (.reg l66r7) .ret)))) [.tmp 4])
theorem l66_eq : lowFn Tryd.prog 66 = some l66 := by kernel_rfl
def l67r0 : List AOper :=
  [.mk (some 2) (.box (.tmp 0)) none [], .mk (some 4) (.mv (.const (.bool false))) none []]
def l67r1 : List AOper :=
  [.mk (some 6) (.mv (.tmp 1)) none [], .mk (some 7) (.len (.tmp 6)) none [0], .mk (some 8) (.fld 0 (.tmp 2)) none [], .mk (some 9) (.load false 1 (.tmp 8)) none [2], .mk (some 10) (.len (.tmp 9)) none [3], .mk (some 11) (.bin .neq (.tmp 7) (.tmp 10)) none [1, 4]]
def l67r2 : List AOper :=
  [.mk (some 4) (.mv (.const (.bool false))) none []]
def l67r3 : List AOper :=
  [.mk (some 5) (.mv (.const (.int .i64 0))) none []]
def l67r4 : List AOper :=
  [.mk (some 12) (.mv (.tmp 5)) none [], .mk (some 13) (.mv (.tmp 1)) none [], .mk (some 14) (.len (.tmp 13)) none [1], .mk (some 15) (.bin .lss (.tmp 12) (.tmp 14)) none [0, 2]]
def l67r5a : List AOper :=
  [.mk (some 18) (.mv (.tmp 1)) none [], .mk (some 19) (.mv (.tmp 5)) none [], .mk (some 20) (.idxA 1 (.tmp 18) (.tmp 19)) none [0, 1], .mk (some 21) (.load false 1 (.tmp 20)) none [2], .mk (some 22) (.fld 0 (.tmp 2)) none [], .mk (some 23) (.load false 1 (.tmp 22)) none [4], .mk (some 24) (.mv (.tmp 5)) none [], .mk (some 25) (.idxA 1 (.tmp 23) (.tmp 24)) none [5, 6], .mk (some 26) (.load false 1 (.tmp 25)) none [7], .mk (some 27) (.call 98 [.tmp 26]) none [8], .mk (some 28) (.bin .sub (.tmp 27) (.const (.int .i64 1))) none [9]]
def l67r5b : List AOper :=
  [.mk (some 29) (.call 63 [.tmp 21, .const (.int .i64 0), .tmp 28]) none [3, 10, 9], .mk (some 30) (.un .not (.tmp 29)) none [11]]
def l67r5 : List AOper := l67r5a ++ l67r5b
def l67r6 : List AOper :=
  [.mk (some 4) (.mv (.const (.bool false))) none []]
def l67r7 : List AOper :=
  [.mk (some 16) (.mv (.tmp 5)) none [], .mk (some 17) (.bin .add (.tmp 16) (.const (.int .i64 1))) none [0], .mk (some 5) (.mv (.tmp 17)) none [1, 0, 1]]
def l67r8 : List AOper :=
  [.mk (some 4) (.mv (.const (.bool true))) none []]
def l67 : AFn :=
  (AFn.mk 31 2 (.seq (.reg l67r0) (.seq (.seq (.reg l67r1) (.cond (.tmp 11) (.seq (.reg l67r2) .ret) .skip)) (.seq (.seq (.reg l67r3) (.block 0 (.loop (.seq (.seq (.reg l67r4) (.cond (.tmp 15) .skip (.exit 0))) (.seq (.block 1 (.seq (.draw l67r5) (.cond (.tmp 30) (.seq (.reg l67r6) .ret) .skip))) (.reg l67r7)))))) (.seq (.reg l67r8) .ret)))) [.tmp 4])
theorem l67_eq : lowFn Tryd.prog 67 = some l67 := by kernel_rfl
def l68r0 : List AOper :=
  [.mk (some 2) (.box (.tmp 0)) none [], .mk (some 4) (.mv (.const (.slice none 0 0))) none []]
def l68r1 : List AOper :=
  [.mk (some 12) (.load true 3 (.tmp 2)) none [], .mk (some 13) (.call 59 [.tmp 12]) none [0], .mk (some 11) (.mv (.tmp 13)) none [1], .mk (some 14) (.extract (.tmp 11) 0) none [2], .mk (some 15) (.extract (.tmp 11) 1) none [2], .mk (some 5) (.mv (.tmp 14)) none [3, 1, 0, 1, 2, 3], .mk (some 6) (.mv (.tmp 15)) none [4, 5, 0, 1, 2, 3, 4, 5]]
def l68r2 : List AOper :=
  [.mk (some 16) (.mv (.tmp 6)) none [], .mk (some 17) (.mkslice 1 [.int .i64 0] (.tmp 16) (.tmp 16)) none [0, 0], .mk (some 7) (.mv (.tmp 17)) none [1, 0, 1]]
def l68r3 : List AOper :=
  [.mk (some 8) (.mv (.const (.int .i64 0))) none []]
def l68r4 : List AOper :=
  [.mk (some 18) (.mv (.tmp 8)) none [], .mk (some 19) (.mv (.tmp 1)) none [], .mk (some 20) (.len (.tmp 19)) none [1], .mk (some 21) (.bin .lss (.tmp 18) (.tmp 20)) none [0, 2]]
def l68r5a : List AOper :=
  [.mk (some 24) (.mv (.tmp 1)) none [], .mk (some 25) (.mv (.tmp 8)) none [], .mk (some 26) (.idxA 1 (.tmp 24) (.tmp 25)) none [0, 1], .mk (some 27) (.load false 1 (.tmp 26)) none [2], .mk (some 28) (.fld 0 (.tmp 2)) none [], .mk (some 29) (.load false 1 (.tmp 28)) none [4], .mk (some 30) (.mv (.tmp 8)) none [], .mk (some 31) (.idxA 1 (.tmp 29) (.tmp 30)) none [5, 6], .mk (some 32) (.load false 1 (.tmp 31)) none [7], .mk (some 33) (.fld 1 (.tmp 2)) none [], .mk (some 34) (.load false 1 (.tmp 33)) none [9]]
def l68r5b : List AOper :=
  [.mk (some 35) (.call 99 [.tmp 27, .tmp 32, .tmp 34]) none [3, 8, 10], .mk (some 9) (.mv (.tmp 35)) none [11, 11, 0, 1, 2, 3, 4, 5, 6, 7, 8, 9, 10, 11]]
def l68r5 : List AOper := l68r5a ++ l68r5b
def l68r6 : List AOper :=
  [.mk (some 10) (.mv (.const (.int .i64 0))) none []]
def l68r7 : List AOper :=
  [.mk (some 36) (.mv (.tmp 10)) none [], .mk (some 37) (.mv (.tmp 9)) none [], .mk (some 38) (.len (.tmp 37)) none [1], .mk (some 39) (.bin .lss (.tmp 36) (.tmp 38)) none [0, 2]]
def l68r8a : List AOper :=
  [.mk (some 42) (.mv (.tmp 7)) none [], .mk (some 43) (.mv (.tmp 5)) none [], .mk (some 44) (.mv (.tmp 8)) none [], .mk (some 45) (.idxA 1 (.tmp 43) (.tmp 44)) none [1, 2], .mk (some 46) (.load false 1 (.tmp 45)) none [3], .mk (some 47) (.mv (.tmp 10)) none [], .mk (some 48) (.bin .add (.tmp 46) (.tmp 47)) none [4, 5], .mk (some 49) (.mv (.tmp 9)) none [], .mk (some 50) (.mv (.tmp 10)) none [], .mk (some 51) (.idxA 1 (.tmp 49) (.tmp 50)) none [7, 8], .mk (some 52) (.load false 1 (.tmp 51)) none [9]]
def l68r8b : List AOper :=
  [.mk (some 53) (.idxA 1 (.tmp 42) (.tmp 48)) none [0, 6, 0, 1, 2, 3, 4, 5, 6, 7, 8, 9, 10], .mk none (.store 1 (.tmp 53) (.tmp 52)) none [11, 10, 0, 1, 2, 3, 4, 5, 6, 7, 8, 9, 10]]
def l68r8 : List AOper := l68r8a ++ l68r8b
def l68r9 : List AOper :=
  [.mk (some 40) (.mv (.tmp 10)) none [], .mk (some 41) (.bin .add (.tmp 40) (.const (.int .i64 1))) none [0], .mk (some 10) (.mv (.tmp 41)) none [1, 0, 1]]
def l68r10 : List AOper :=
  [.mk (some 22) (.mv (.tmp 8)) none [], .mk (some 23) (.bin .add (.tmp 22) (.const (.int .i64 1))) none [0], .mk (some 8) (.mv (.tmp 23)) none [1, 0, 1]]
def l68r11 : List AOper :=
  [.mk (some 54) (.mv (.tmp 7)) none [], .mk (some 4) (.mv (.tmp 54)) none [0, 0]]
def l68 : AFn :=
  (AFn.mk 55 2 (.seq (.reg l68r0) (.seq (.reg l68r1) (.seq (.reg l68r2) (.seq (.seq (.reg l68r3) (.block 0 (.loop (.seq (.seq (.reg l68r4) (.cond (.tmp 21) .skip (.exit 0))) (.seq (.block 1 (.seq (.draw l68r5) (.seq (.reg l68r6) (.block 2 (.loop (.seq (.seq (.reg l68r7) (.cond (.tmp 39) .skip (.exit 2))) (.seq (.block 3 (.draw l68r8)) (.reg l68r9)))))))) (.reg l68r10)))))) (.seq (.reg l68r11) .ret))))) [.tmp 4])
theorem l68_eq : lowFn Tryd.prog 68 = some l68 := by kernel_rfl
def l69r0 : List AOper :=
  [.mk (some 2) (.mv (.const (.bool false))) none []]
def l69r1 : List AOper :=
  [.mk (some 5) (.mv (.tmp 0)) none [], .mk (some 6) (.len (.tmp 5)) none [0], .mk (some 7) (.mv (.const (.int .i64 0))) none []]
def l69r2 : List AOper :=
  [.mk (some 8) (.bin .lss (.tmp 7) (.tmp 6)) none []]
def l69r3 : List AOper :=
  [.mk (some 9) (.idxA 1 (.tmp 5) (.tmp 7)) none [], .mk (some 10) (.load false 1 (.tmp 9)) none [0], .mk (some 4) (.mv (.tmp 10)) none [1, 0, 1]]
def l69r4 : List AOper :=
  [.mk (some 11) (.mv (.tmp 4)) none [], .mk (some 12) (.call 78 [.tmp 11, .const (.int .i64 255)]) none [0], .mk (some 13) (.un .not (.tmp 12)) none [1]]
def l69r5 : List AOper :=
  [.mk (some 2) (.mv (.const (.bool false))) none []]
def l69r6 : List AOper :=
  [.mk (some 14) (.bin .add (.tmp 7) (.const (.int .i64 1))) none [], .mk (some 7) (.mv (.tmp 14)) none [0]]
def l69r7 : List AOper :=
  [.mk (some 2) (.mv (.const (.bool true))) none []]
def l69 : AFn :=
  (AFn.mk 15 1 (.seq (.reg l69r0) (.seq (.seq (.reg l69r1) (.block 0 (.loop (.seq (.reg l69r2) (.seq (.cond (.tmp 8) .skip (.exit 0)) (.seq (.block 1 (.seq (.reg l69r3) (.seq (.reg l69r4) (.cond (.tmp 13) (.seq (.reg l69r5) .ret) .skip)))) (.reg l69r6))))))) (.seq (.reg l69r7) .ret))) [.tmp 2])
theorem l69_eq : lowFn Tryd.prog 69 = some l69 := by kernel_rfl
def l70r0 : List AOper :=
  [.mk (some 2) (.box (.tmp 0)) none [], .mk (some 4) (.mv (.const (.slice none 0 0))) none []]
def l70r1a : List AOper :=
  [.mk (some 9) (.fld 0 (.tmp 2)) none [], .mk (some 10) (.load false 1 (.tmp 9)) none [0], .mk (some 11) (.len (.tmp 10)) none [1], .mk (some 12) (.mkslice 1 [.int .i64 0] (.tmp 11) (.tmp 11)) none [2, 2], .mk (some 13) (.load true 3 (.tmp 2)) none [], .mk (some 14) (.call 79 [.tmp 13]) none [4], .mk (some 6) (.alloc [.nilFunc]) none []]
def l70r1b : List AOper :=
  [.mk (some 5) (.mv (.tmp 12)) none [3, 5, 0, 1, 2, 3, 6], .mk none (.store 1 (.tmp 6) (.tmp 14)) none [6, 5, 7, 0, 1, 2, 3, 4, 5, 6, 7]]
def l70r1 : List AOper := l70r1a ++ l70r1b
def l70r2 : List AOper :=
  [.mk (some 15) (.load true 3 (.tmp 2)) none [], .mk (some 16) (.call 58 [.tmp 15]) none [0], .mk (some 17) (.len (.tmp 16)) none [1], .mk (some 18) (.mv (.const (.int .i64 0))) none []]
def l70r3 : List AOper :=
  [.mk (some 19) (.bin .lss (.tmp 18) (.tmp 17)) none []]
def l70r4 : List AOper :=
  [.mk (some 20) (.mv (.tmp 18)) none [], .mk (some 21) (.idxA 2 (.tmp 16) (.tmp 18)) none [], .mk (some 22) (.load true 2 (.tmp 21)) none [1], .mk (some 8) (.alloc [.int .i64 0, .int .i64 0]) none [], .mk (some 7) (.mv (.tmp 20)) none [0, 0, 1, 2, 3], .mk none (.store 2 (.tmp 8) (.tmp 22)) none [3, 2, 4, 0, 1, 2, 3, 4]]
def l70r5 : List AOper :=
  [.mk (some 23) (.mv (.tmp 5)) none [], .mk (some 24) (.mv (.tmp 7)) none [], .mk (some 25) (.load true 1 (.tmp 6)) none [], .mk (some 26) (.mv (.tmp 1)) none [], .mk (some 27) (.load true 2 (.tmp 8)) none [], .mk (some 28) (.call 100 [.tmp 25, .tmp 26, .tmp 27]) none [2, 3, 4], .mk (some 29) (.idxA 1 (.tmp 23) (.tmp 24)) none [0, 1, 0, 1, 2, 3, 4, 5], .mk none (.store 1 (.tmp 29) (.tmp 28)) none [6, 5, 5, 0, 1, 2, 3, 4, 5]]
def l70r6 : List AOper :=
  [.mk (some 30) (.bin .add (.tmp 18) (.const (.int .i64 1))) none [], .mk (some 18) (.mv (.tmp 30)) none [0]]
def l70r7 : List AOper :=
  [.mk (some 31) (.mv (.tmp 5)) none [], .mk (some 4) (.mv (.tmp 31)) none [0, 0]]
def l70 : AFn :=
  (AFn.mk 32 2 (.seq (.reg l70r0) (.seq (.draw l70r1) (.seq (.seq (.reg l70r2) (.block 0 (.loop (.seq (.reg l70r3) (.seq (.cond (.tmp 19) .skip (.exit 0)) (.seq (.block 1 (.seq (.reg l70r4) (.reg l70r5))) (.reg l70r6))))))) (.seq (.reg l70r7) .ret)))) [.tmp 4])
theorem l70_eq : lowFn Tryd.prog 70 = some l70 := by kernel_rfl
def l71r0 : List AOper :=
  [.mk (some 2) (.mv (.const (.bool false))) none []]
def l71r1 : List AOper :=
  [.mk (some 3) (.mv (.tmp 0)) none [], .mk (some 4) (.bin .leq (.const (.int .i64 0)) (.tmp 3)) none [0], .mk (some 5) (.mv (.tmp 4)) none [1], .mk (some 6) (.mv (.tmp 0)) (some (5, true)) [2], .mk (some 7) (.bin .leq (.tmp 6) (.const (.int .i64 60))) (some (5, true)) [3, 2], .mk (some 8) (.pick (.tmp 5) (.tmp 7) (.const (.bool false))) none [2, 4], .mk (some 2) (.mv (.tmp 8)) none [5, 2, 0, 1, 2, 3, 4, 5]]
def l71 : AFn :=
  (AFn.mk 9 1 (.seq (.reg l71r0) (.seq (.reg l71r1) .ret)) [.tmp 2])
theorem l71_eq : lowFn Tryd.prog 71 = some l71 := by kernel_rfl
def l72r0 : List AOper :=
  [.mk (some 4) (.box (.tmp 1)) none [], .mk (some 6) (.mv (.const (.slice none 0 0))) none []]
def l72r1 : List AOper :=
  [.mk (some 9) (.bslice 1 [.int .i64 0] [] 0) none [], .mk (some 7) (.mv (.tmp 9)) none [0, 0]]
def l72r2 : List AOper :=
  [.mk (some 10) (.mv (.tmp 2)) none [], .mk (some 11) (.load true 3 (.tmp 4)) none [], .mk (some 12) (.call 22 [.tmp 11]) none [1], .mk (some 13) (.bin .mul (.tmp 10) (.tmp 12)) none [0, 2], .mk (some 8) (.mv (.tmp 13)) none [3, 2, 0, 1, 2, 3]]
def l72r3 : List AOper :=
  [.mk (some 14) (.mv (.tmp 8)) none [], .mk (some 15) (.bin .gtr (.tmp 14) (.const (.int .i64 0))) none [0]]
def l72r4 : List AOper :=
  [.mk (some 18) (.mv (.tmp 7)) none [], .mk (some 19) (.mv (.tmp 0)) none [], .mk (some 20) (.call 85 [.tmp 19, .const (.int .i64 256)]) none [1], .mk (some 21) (.bslice 1 [.int .i64 0] [(0, .tmp 20)] 1) none [2], .mk (some 22) (.append 1 (.tmp 18) (.tmp 21)) none [0, 3, 2], .mk (some 7) (.mv (.tmp 22)) none [4, 4, 0, 1, 2, 3, 4]]
def l72r5 : List AOper :=
  [.mk (some 16) (.mv (.tmp 8)) none [], .mk (some 17) (.bin .sub (.tmp 16) (.const (.int .i64 1))) none [0], .mk (some 8) (.mv (.tmp 17)) none [1, 0, 1]]
def l72r6 : List AOper :=
  [.mk (some 23) (.mv (.tmp 7)) none [], .mk (some 24) (.len (.tmp 23)) none [0], .mk (some 25) (.bin .gtr (.tmp 24) (.const (.int .i64 0))) none [1]]
def l72r7 : List AOper :=
  [.mk (some 26) (.mv (.tmp 0)) none [], .mk (some 27) (.call 85 [.tmp 26, .const (.int .i64 20)]) none [0]]
def l72r8 : List AOper :=
  [.mk (some 29) (.bin .eql (.tmp 27) (.const (.int .i64 0))) none [], .mk (some 28) (.mv (.tmp 29)) none [0]]
def l72r9 : List AOper :=
  [.mk (some 30) (.mv (.tmp 7)) none [], .mk (some 31) (.slice 1 (.tmp 30) (some (.const (.int .i64 1))) none) none [0], .mk (some 7) (.mv (.tmp 31)) none [1, 0, 1]]
def l72r10 : List AOper :=
  [.mk (some 33) (.bin .eql (.tmp 27) (.const (.int .i64 1))) none [], .mk (some 32) (.mv (.tmp 33)) none [0]]
def l72r11 : List AOper :=
  [.mk (some 34) (.mv (.tmp 7)) none [], .mk (some 35) (.mv (.tmp 0)) none [], .mk (some 36) (.bslice 1 [.int .i64 0] [(0, .const (.int .i64 (-1))), (1, .const (.int .i64 256))] 2) none [], .mk (some 37) (.call 75 [.tmp 35, .tmp 36]) none [1, 2], .mk (some 38) (.idxA 1 (.tmp 34) (.const (.int .i64 0))) none [0, 0, 1, 2, 3], .mk none (.store 1 (.tmp 38) (.tmp 37)) none [4, 3, 3, 0, 1, 2, 3]]
def l72r12 : List AOper :=
  [.mk (some 39) (.mv (.tmp 7)) none [], .mk (some 6) (.mv (.tmp 39)) none [0, 0]]
def l72 : AFn :=
  (AFn.mk 40 3 (.seq (.reg l72r0) (.seq (.reg l72r1) (.seq (.seq (.reg l72r2) (.block 0 (.loop (.seq (.seq (.reg l72r3) (.cond (.tmp 15) .skip (.exit 0))) (.seq (.block 1 (.reg l72r4)) (.reg l72r5)))))) (.seq (.seq (.reg l72r6) (.cond (.tmp 25) (.seq (.reg l72r7) (.block 2 (.seq (.reg l72r8) (.cond (.tmp 28) (.reg l72r9) (.seq (.reg l72r10) (.cond (.tmp 32) (.reg l72r11) .skip)))))) .skip)) (.seq (.reg l72r12) .ret))))) [.tmp 6])
theorem l72_eq : lowFn Tryd.prog 72 = some l72 := by kernel_rfl
def l73r0 : List AOper :=
  [.mk (some 6) (.mv (.const (.bool false))) none []]
def l73r1 : List AOper :=
  [.mk (some 7) (.mv (.const (.int .i64 0))) none []]
def l73r2 : List AOper :=
  [.mk (some 8) (.mv (.tmp 7)) none [], .mk (some 9) (.mv (.tmp 0)) none [], .mk (some 10) (.len (.tmp 9)) none [1], .mk (some 11) (.bin .lss (.tmp 8) (.tmp 10)) none [0, 2]]
def l73r3 : List AOper :=
  [.mk (some 14) (.mv (.tmp 0)) none [], .mk (some 15) (.mv (.tmp 7)) none [], .mk (some 16) (.idxA 1 (.tmp 14) (.tmp 15)) none [0, 1], .mk (some 17) (.load false 1 (.tmp 16)) none [2], .mk (some 18) (.mv (.tmp 1)) none [], .mk (some 19) (.mv (.tmp 2)) none [], .mk (some 20) (.call 63 [.tmp 17, .tmp 18, .tmp 19]) none [3, 4, 5], .mk (some 21) (.un .not (.tmp 20)) none [6]]
def l73r4 : List AOper :=
  [.mk (some 6) (.mv (.const (.bool false))) none []]
def l73r5 : List AOper :=
  [.mk (some 12) (.mv (.tmp 7)) none [], .mk (some 13) (.bin .add (.tmp 12) (.const (.int .i64 1))) none [0], .mk (some 7) (.mv (.tmp 13)) none [1, 0, 1]]
def l73r6 : List AOper :=
  [.mk (some 6) (.mv (.const (.bool true))) none []]
def l73 : AFn :=
  (AFn.mk 22 3 (.seq (.reg l73r0) (.seq (.seq (.reg l73r1) (.block 0 (.loop (.seq (.seq (.reg l73r2) (.cond (.tmp 11) .skip (.exit 0))) (.seq (.block 1 (.seq (.reg l73r3) (.cond (.tmp 21) (.seq (.reg l73r4) .ret) .skip))) (.reg l73r5)))))) (.seq (.reg l73r6) .ret))) [.tmp 6])
theorem l73_eq : lowFn Tryd.prog 73 = some l73 := by kernel_rfl
def l74r0 : List AOper :=
  [.mk (some 2) (.box (.tmp 0)) none [], .mk (some 4) (.mv (.const (.slice none 0 0))) none []]
def l74r1 : List AOper :=
  [.mk (some 10) (.load true 3 (.tmp 2)) none [], .mk (some 11) (.call 59 [.tmp 10]) none [0], .mk (some 9) (.mv (.tmp 11)) none [1], .mk (some 12) (.extract (.tmp 9) 0) none [2], .mk (some 13) (.extract (.tmp 9) 1) none [2], .mk (some 5) (.mv (.tmp 12)) none [3, 1, 0, 1, 2, 3], .mk (some 6) (.mv (.tmp 13)) none [4, 5, 0, 1, 2, 3, 4, 5]]
def l74r2 : List AOper :=
  [.mk (some 14) (.bslice 1 [.int .i64 0] [] 0) none [], .mk (some 7) (.mv (.tmp 14)) none [0, 0]]
def l74r3 : List AOper :=
  [.mk (some 8) (.mv (.const (.int .i64 0))) none []]
def l74r4 : List AOper :=
  [.mk (some 15) (.mv (.tmp 8)) none [], .mk (some 16) (.mv (.tmp 5)) none [], .mk (some 17) (.len (.tmp 16)) none [1], .mk (some 18) (.bin .lss (.tmp 15) (.tmp 17)) none [0, 2]]
def l74r5a : List AOper :=
  [.mk (some 21) (.mv (.tmp 7)) none [], .mk (some 22) (.mv (.tmp 1)) none [], .mk (some 23) (.mv (.tmp 5)) none [], .mk (some 24) (.mv (.tmp 8)) none [], .mk (some 25) (.idxA 1 (.tmp 23) (.tmp 24)) none [2, 3], .mk (some 26) (.load false 1 (.tmp 25)) none [4], .mk (some 27) (.mv (.tmp 5)) none [], .mk (some 28) (.mv (.tmp 8)) none [], .mk (some 29) (.idxA 1 (.tmp 27) (.tmp 28)) none [6, 7], .mk (some 30) (.load false 1 (.tmp 29)) none [8], .mk (some 31) (.fld 0 (.tmp 2)) none [], .mk (some 32) (.load false 1 (.tmp 31)) none [10], .mk (some 33) (.mv (.tmp 8)) none [], .mk (some 34) (.idxA 1 (.tmp 32) (.tmp 33)) none [11, 12], .mk (some 35) (.load false 1 (.tmp 34)) none [13], .mk (some 36) (.bin .add (.tmp 30) (.tmp 35)) none [9, 14], .mk (some 37) (.slice 1 (.tmp 22) (some (.tmp 26)) (some (.tmp 36))) none [1, 5, 15], .mk (some 38) (.fld 1 (.tmp 2)) none [], .mk (some 39) (.load false 1 (.tmp 38)) none [17], .mk (some 40) (.call 101 [.tmp 37, .tmp 39]) none [16, 18], .mk (some 41) (.bslice 1 [.int .i64 0] [(0, .tmp 40)] 1) none [19]]
def l74r5b : List AOper :=
  [.mk (some 42) (.append 1 (.tmp 21) (.tmp 41)) none [0, 20, 19], .mk (some 7) (.mv (.tmp 42)) none [21, 21, 0, 1, 2, 3, 4, 5, 6, 7, 8, 9, 10, 11, 12, 13, 14, 15, 16, 17, 18, 19, 20, 21]]
def l74r5 : List AOper := l74r5a ++ l74r5b
def l74r6 : List AOper :=
  [.mk (some 19) (.mv (.tmp 8)) none [], .mk (some 20) (.bin .add (.tmp 19) (.const (.int .i64 1))) none [0], .mk (some 8) (.mv (.tmp 20)) none [1, 0, 1]]
def l74r7 : List AOper :=
  [.mk (some 43) (.mv (.tmp 7)) none [], .mk (some 4) (.mv (.tmp 43)) none [0, 0]]
def l74 : AFn :=
  (AFn.mk 44 2 (.seq (.reg l74r0) (.seq (.reg l74r1) (.seq (.reg l74r2) (.seq (.seq (.reg l74r3) (.block 0 (.loop (.seq (.seq (.reg l74r4) (.cond (.tmp 18) .skip (.exit 0))) (.seq (.block 1 (.draw l74r5)) (.reg l74r6)))))) (.seq (.reg l74r7) .ret))))) [.tmp 4])
theorem l74_eq : lowFn Tryd.prog 74 = some l74 := by kernel_rfl
def l75r0 : List AOper :=
  [.mk (some 4) (.mv (.const (.int .i64 0))) none []]
def l75r1 : List AOper :=
  [.mk (some 5) (.mv (.tmp 1)) none [], .mk (some 6) (.mv (.tmp 0)) none [], .mk (some 7) (.mv (.tmp 1)) none [], .mk (some 8) (.len (.tmp 7)) none [2], .mk (some 9) (.call 85 [.tmp 6, .tmp 8]) none [1, 3], .mk (some 10) (.idxA 1 (.tmp 5) (.tmp 9)) none [0, 4], .mk (some 11) (.load false 1 (.tmp 10)) none [5], .mk (some 4) (.mv (.tmp 11)) none [6, 4, 0, 1, 2, 3, 4, 5, 6]]
def l75 : AFn :=
  (AFn.mk 12 2 (.seq (.reg l75r0) (.seq (.reg l75r1) .ret)) [.tmp 4])
theorem l75_eq : lowFn Tryd.prog 75 = some l75 := by kernel_rfl
def l78r0 : List AOper :=
  [.mk (some 4) (.mv (.const (.bool false))) none []]
def l78r1 : List AOper :=
  [.mk (some 5) (.mv (.tmp 0)) none [], .mk (some 6) (.bin .leq (.const (.int .i64 0)) (.tmp 5)) none [0], .mk (some 7) (.mv (.tmp 6)) none [1], .mk (some 8) (.mv (.tmp 0)) (some (7, true)) [2], .mk (some 9) (.mv (.tmp 1)) (some (7, true)) [2], .mk (some 10) (.bin .leq (.tmp 8) (.tmp 9)) (some (7, true)) [3, 4, 2], .mk (some 11) (.pick (.tmp 7) (.tmp 10) (.const (.bool false))) none [2, 5], .mk (some 4) (.mv (.tmp 11)) none [6, 2, 0, 1, 2, 3, 4, 5, 6]]
def l78 : AFn :=
  (AFn.mk 12 2 (.seq (.reg l78r0) (.seq (.reg l78r1) .ret)) [.tmp 4])
theorem l78_eq : lowFn Tryd.prog 78 = some l78 := by kernel_rfl
def l79r0 : List AOper :=
  [.mk (some 1) (.box (.tmp 0)) none [], .mk (some 2) (.alloc [.nilFunc]) none []]
def l79r1 : List AOper :=
  [.mk (some 3) (.fld 1 (.tmp 1)) none [], .mk (some 4) (.load false 1 (.tmp 3)) none [0]]
def l79r2 : List AOper :=
  [.mk (some 5) (.build [.nilFunc] [(0, 1, .func 103)]) none [], .mk none (.store 1 (.tmp 2) (.tmp 5)) none [0, 0]]
def l79r3 : List AOper :=
  [.mk (some 6) (.build [.nilFunc] [(0, 1, .func 104)]) none [], .mk none (.store 1 (.tmp 2) (.tmp 6)) none [0, 0]]
def l79 : AFn :=
  (AFn.mk 7 1 (.seq (.reg l79r0) (.seq (.seq (.reg l79r1) (.cond (.tmp 4) (.seq (.reg l79r2) .ret) .skip)) (.seq (.reg l79r3) .ret))) [.cell 2 true 1])
theorem l79_eq : lowFn Tryd.prog 79 = some l79 := by kernel_rfl
def l80r0 : List AOper :=
  [.mk (some 3) (.box (.tmp 0)) none [], .mk (some 4) (.box (.tmp 1)) none [], .mk (some 6) (.mv (.const (.int .i64 0))) none []]
def l80r1a : List AOper :=
  [.mk (some 7) (.fld 0 (.tmp 4)) none [], .mk (some 8) (.load false 1 (.tmp 7)) none [0], .mk (some 9) (.fld 0 (.tmp 3)) none [], .mk (some 10) (.load false 1 (.tmp 9)) none [2], .mk (some 11) (.fld 1 (.tmp 4)) none [], .mk (some 12) (.load false 1 (.tmp 11)) none [4], .mk (some 13) (.mv (.tmp 2)) none [], .mk (some 14) (.raw (Op.call (Call.mk (Callee.value (.tmp 10)) (Array.mk [.tmp 12, .tmp 13]) (Array.mk [3, 3])))) none [3, 5, 6]]
def l80r1b : List AOper :=
  [.mk (some 15) (.bin .add (.tmp 8) (.tmp 14)) none [1, 7], .mk (some 6) (.mv (.tmp 15)) none [8, 7, 0, 1, 2, 3, 4, 5, 6, 7, 8]]
def l80r1 : List AOper := l80r1a ++ l80r1b
def l80 : AFn :=
  (AFn.mk 16 3 (.seq (.reg l80r0) (.seq (.draw l80r1) .ret)) [.tmp 6])
theorem l80_eq : lowFn Tryd.prog 80 = some l80 := by kernel_rfl
def l85r0 : List AOper :=
  [.mk (some 4) (.mv (.const (.int .i64 0))) none []]
def l85r1 : List AOper :=
  [.mk (some 7) (.mv (.tmp 0)) none [], .mk (some 8) (.mv (.tmp 0)) none [], .mk (some 9) (.nilck (.tmp 8)) none [1], .mk (some 10) (.fld 1 (.tmp 9)) none [2], .mk (some 11) (.load false 1 (.tmp 10)) none [3], .mk (some 12) (.bin .add (.tmp 11) (.const (.int .i64 1))) none [4], .mk (some 13) (.nilck (.tmp 7)) none [0, 0, 1, 2, 3, 4, 5], .mk (some 14) (.fld 1 (.tmp 13)) none [6, 0, 1, 2, 3, 4, 5], .mk none (.store 1 (.tmp 14) (.tmp 12)) none [7, 5, 0, 1, 2, 3, 4, 5]]
def l85r2 : List AOper :=
  [.mk (some 15) (.mv (.tmp 1)) none [], .mk (some 16) (.bin .lss (.tmp 15) (.const (.int .i64 1))) none [0], .mk (some 17) (.mv (.tmp 16)) none [1], .mk (some 18) (.mv (.tmp 0)) (some (17, false)) [2], .mk (some 19) (.nilck (.tmp 18)) (some (17, false)) [3, 2], .mk (some 20) (.fld 0 (.tmp 19)) (some (17, false)) [4, 2], .mk (some 21) (.load false 1 (.tmp 20)) (some (17, false)) [5, 2], .mk (some 22) (.len (.tmp 21)) (some (17, false)) [6, 2], .mk (some 23) (.bin .eql (.tmp 22) (.const (.int .i64 0))) (some (17, false)) [7, 2], .mk (some 24) (.pick (.tmp 17) (.const (.bool true)) (.tmp 23)) none [2, 8]]
def l85r3 : List AOper :=
  [.mk (some 4) (.mv (.const (.int .i64 0))) none []]
def l85r4 : List AOper :=
  [.mk (some 25) (.mv (.tmp 0)) none [], .mk (some 26) (.nilck (.tmp 25)) none [0], .mk (some 27) (.fld 1 (.tmp 26)) none [1], .mk (some 28) (.load false 1 (.tmp 27)) none [2], .mk (some 29) (.bin .sub (.tmp 28) (.const (.int .i64 1))) none [3], .mk (some 5) (.mv (.tmp 29)) none [4, 0, 1, 2, 3, 4]]
def l85r5 : List AOper :=
  [.mk (some 30) (.mv (.tmp 5)) none [], .mk (some 31) (.mv (.tmp 0)) none [], .mk (some 32) (.nilck (.tmp 31)) none [1], .mk (some 33) (.fld 0 (.tmp 32)) none [2], .mk (some 34) (.load false 1 (.tmp 33)) none [3], .mk (some 35) (.len (.tmp 34)) none [4], .mk (some 36) (.bin .lss (.tmp 30) (.tmp 35)) none [0, 5]]
def l85r6 : List AOper :=
  [.mk (some 37) (.mv (.tmp 0)) none [], .mk (some 38) (.nilck (.tmp 37)) none [0], .mk (some 39) (.fld 0 (.tmp 38)) none [1], .mk (some 40) (.load false 1 (.tmp 39)) none [2], .mk (some 41) (.mv (.tmp 5)) none [], .mk (some 42) (.idxA 1 (.tmp 40) (.tmp 41)) none [3, 4], .mk (some 43) (.load false 1 (.tmp 42)) none [5], .mk (some 44) (.conv .i64 (.tmp 43)) none [6], .mk (some 45) (.mv (.tmp 1)) none [], .mk (some 46) (.bin .rem (.tmp 44) (.tmp 45)) none [7, 8], .mk (some 4) (.mv (.tmp 46)) none [9, 0, 1, 2, 3, 4, 5, 6, 7, 8, 9]]
def l85r7a : List AOper :=
  [.mk (some 47) (.mv (.tmp 0)) none [], .mk (some 48) (.nilck (.tmp 47)) none [0], .mk (some 49) (.fld 0 (.tmp 48)) none [1], .mk (some 50) (.load false 1 (.tmp 49)) none [2], .mk (some 51) (.mv (.tmp 5)) none [], .mk (some 52) (.mv (.tmp 0)) none [], .mk (some 53) (.nilck (.tmp 52)) none [5], .mk (some 54) (.fld 0 (.tmp 53)) none [6], .mk (some 55) (.load false 1 (.tmp 54)) none [7], .mk (some 56) (.len (.tmp 55)) none [8], .mk (some 57) (.bin .rem (.tmp 51) (.tmp 56)) none [4, 9], .mk (some 58) (.idxA 1 (.tmp 50) (.tmp 57)) none [3, 10], .mk (some 59) (.load false 1 (.tmp 58)) none [11], .mk (some 60) (.conv .i64 (.tmp 59)) none [12], .mk (some 61) (.bin .mul (.tmp 60) (.const (.int .i64 131))) none [13], .mk (some 62) (.mv (.tmp 0)) none [], .mk (some 63) (.nilck (.tmp 62)) none [15], .mk (some 64) (.fld 0 (.tmp 63)) none [16], .mk (some 65) (.load false 1 (.tmp 64)) none [17], .mk (some 66) (.mv (.tmp 5)) none [], .mk (some 67) (.bin .mul (.tmp 66) (.const (.int .i64 7))) none [19], .mk (some 68) (.bin .add (.tmp 67) (.const (.int .i64 3))) none [20], .mk (some 69) (.mv (.tmp 0)) none [], .mk (some 70) (.nilck (.tmp 69)) none [22], .mk (some 71) (.fld 0 (.tmp 70)) none [23], .mk (some 72) (.load false 1 (.tmp 71)) none [24], .mk (some 73) (.len (.tmp 72)) none [25], .mk (some 74) (.bin .rem (.tmp 68) (.tmp 73)) none [21, 26], .mk (some 75) (.idxA 1 (.tmp 65) (.tmp 74)) none [18, 27], .mk (some 76) (.load false 1 (.tmp 75)) none [28], .mk (some 77) (.conv .i64 (.tmp 76)) none [29], .mk (some 78) (.bin .mul (.tmp 77) (.const (.int .i64 1117))) none [30], .mk (some 79) (.bin .add (.tmp 61) (.tmp 78)) none [14, 31], .mk (some 80) (.mv (.tmp 5)) none [], .mk (some 81) (.bin .mul (.tmp 80) (.const (.int .i64 29))) none [33], .mk (some 82) (.bin .add (.tmp 79) (.tmp 81)) none [32, 34], .mk (some 83) (.mv (.tmp 5)) none [], .mk (some 84) (.mv (.tmp 0)) none [], .mk (some 85) (.nilck (.tmp 84)) none [37], .mk (some 86) (.fld 0 (.tmp 85)) none [38], .mk (some 87) (.load false 1 (.tmp 86)) none [39], .mk (some 88) (.len (.tmp 87)) none [40], .mk (some 89) (.bin .quo (.tmp 83) (.tmp 88)) none [36, 41], .mk (some 90) (.bin .mul (.tmp 89) (.const (.int .i64 53))) none [42]]
def l85r7b : List AOper :=
  [.mk (some 91) (.bin .add (.tmp 82) (.tmp 90)) none [35, 43], .mk (some 6) (.mv (.tmp 91)) none [44, 0, 1, 2, 3, 4, 5, 6, 7, 8, 9, 10, 11, 12, 13, 14, 15, 16, 17, 18, 19, 20, 21, 22, 23, 24, 25, 26, 27, 28, 29, 30, 31, 32, 33, 34, 35, 36, 37, 38, 39, 40, 41, 42, 43, 44]]
def l85r7 : List AOper := l85r7a ++ l85r7b
def l85r8 : List AOper :=
  [.mk (some 92) (.mv (.tmp 6)) none [], .mk (some 93) (.mv (.tmp 6)) none [], .mk (some 94) (.bin .quo (.tmp 93) (.const (.int .i64 64))) none [1], .mk (some 95) (.bin .xor (.tmp 92) (.tmp 94)) none [0, 2], .mk (some 6) (.mv (.tmp 95)) none [3, 0, 1, 2, 3]]
def l85r9 : List AOper :=
  [.mk (some 96) (.mv (.tmp 6)) none [], .mk (some 97) (.mv (.tmp 1)) none [], .mk (some 98) (.bin .rem (.tmp 96) (.tmp 97)) none [0, 1], .mk (some 4) (.mv (.tmp 98)) none [2, 0, 1, 2]]
def l85 : AFn :=
  (AFn.mk 99 2 (.seq (.reg l85r0) (.seq (.reg l85r1) (.seq (.seq (.reg l85r2) (.cond (.tmp 24) (.seq (.reg l85r3) .ret) .skip)) (.seq (.reg l85r4) (.seq (.seq (.reg l85r5) (.cond (.tmp 36) (.seq (.reg l85r6) .ret) .skip)) (.seq (.draw l85r7) (.seq (.reg l85r8) (.seq (.reg l85r9) .ret)))))))) [.tmp 4])
theorem l85_eq : lowFn Tryd.prog 85 = some l85 := by kernel_rfl
def l91r0 : List AOper :=
  [.mk (some 3) (.box (.tmp 0)) none [], .mk (some 6) (.mv (.const (.int .i64 0))) none []]
def l91r1 : List AOper :=
  [.mk (some 7) (.fld 2 (.tmp 3)) none [], .mk (some 8) (.load false 1 (.tmp 7)) none [0], .mk (some 9) (.un .not (.tmp 8)) none [1]]
def l91r2 : List AOper :=
  [.mk (some 10) (.mv (.tmp 1)) none [], .mk (some 6) (.mv (.tmp 10)) none [0, 0]]
def l91r3 : List AOper :=
  [.mk (some 11) (.mv (.tmp 1)) none [], .mk (some 12) (.mv (.tmp 2)) none [], .mk (some 13) (.bin .add (.tmp 11) (.tmp 12)) none [0, 1], .mk (some 14) (.bin .sub (.tmp 13) (.const (.int .i64 1))) none [2], .mk (some 15) (.mv (.tmp 2)) none [], .mk (some 16) (.bin .quo (.tmp 14) (.tmp 15)) none [3, 4], .mk (some 17) (.mv (.tmp 2)) none [], .mk (some 18) (.bin .mul (.tmp 16) (.tmp 17)) none [5, 6], .mk (some 6) (.mv (.tmp 18)) none [7, 0, 1, 2, 3, 4, 5, 6, 7]]
def l91 : AFn :=
  (AFn.mk 19 3 (.seq (.reg l91r0) (.seq (.seq (.reg l91r1) (.cond (.tmp 9) (.seq (.reg l91r2) .ret) .skip)) (.seq (.reg l91r3) .ret))) [.tmp 6])
theorem l91_eq : lowFn Tryd.prog 91 = some l91 := by kernel_rfl
def l92r0 : List AOper :=
  [.mk (some 4) (.mv (.const (.int .i64 0))) none []]
def l92r1 : List AOper :=
  [.mk (some 5) (.mv (.tmp 0)) none [], .mk (some 6) (.mv (.tmp 1)) none [], .mk (some 7) (.bin .add (.tmp 5) (.tmp 6)) none [0, 1], .mk (some 8) (.bin .sub (.tmp 7) (.const (.int .i64 1))) none [2], .mk (some 9) (.mv (.tmp 1)) none [], .mk (some 10) (.bin .quo (.tmp 8) (.tmp 9)) none [3, 4], .mk (some 11) (.mv (.tmp 1)) none [], .mk (some 12) (.bin .mul (.tmp 10) (.tmp 11)) none [5, 6], .mk (some 4) (.mv (.tmp 12)) none [7, 0, 1, 2, 3, 4, 5, 6, 7]]
def l92 : AFn :=
  (AFn.mk 13 2 (.seq (.reg l92r0) (.seq (.reg l92r1) .ret)) [.tmp 4])
theorem l92_eq : lowFn Tryd.prog 92 = some l92 := by kernel_rfl
def l93r0 : List AOper :=
  [.mk (some 2) (.mv (.const (.int .i64 0))) none []]
def l93r1 : List AOper :=
  [.mk (some 5) (.mv (.tmp 0)) none [], .mk (some 6) (.len (.tmp 5)) none [0], .mk (some 7) (.bin .lss (.tmp 6) (.const (.int .i64 1))) none [1]]
def l93r2 : List AOper :=
  [.mk (some 8) (.raw (Op.makeInterface 9 (.const (.string (ByteArray.mk (Array.mk [(115 : UInt8), (108 : UInt8), (105 : UInt8), (99 : UInt8), (101 : UInt8), (115 : UInt8), (46 : UInt8), (77 : UInt8), (97 : UInt8), (120 : UInt8), (58 : UInt8), (32 : UInt8), (101 : UInt8), (109 : UInt8), (112 : UInt8), (116 : UInt8), (121 : UInt8), (32 : UInt8), (108 : UInt8), (105 : UInt8), (115 : UInt8), (116 : UInt8)])))))) none [], .mk none (.raw (Op.panic (.tmp 8))) none [0]]
def l93r3 : List AOper :=
  [.mk (some 9) (.mv (.tmp 0)) none [], .mk (some 10) (.idxA 1 (.tmp 9) (.const (.int .i64 0))) none [0], .mk (some 11) (.load false 1 (.tmp 10)) none [1], .mk (some 3) (.mv (.tmp 11)) none [2, 0, 1, 2]]
def l93r4 : List AOper :=
  [.mk (some 4) (.mv (.const (.int .i64 1))) none []]
def l93r5 : List AOper :=
  [.mk (some 12) (.mv (.tmp 4)) none [], .mk (some 13) (.mv (.tmp 0)) none [], .mk (some 14) (.len (.tmp 13)) none [1], .mk (some 15) (.bin .lss (.tmp 12) (.tmp 14)) none [0, 2]]
def l93r6 : List AOper :=
  [.mk (some 18) (.mv (.tmp 3)) none [], .mk (some 19) (.mv (.tmp 0)) none [], .mk (some 20) (.mv (.tmp 4)) none [], .mk (some 21) (.idxA 1 (.tmp 19) (.tmp 20)) none [1, 2], .mk (some 22) (.load false 1 (.tmp 21)) none [3], .mk (some 23) (.minmax true (.tmp 18) (.tmp 22)) none [0, 4], .mk (some 3) (.mv (.tmp 23)) none [5, 0, 1, 2, 3, 4, 5]]
def l93r7 : List AOper :=
  [.mk (some 16) (.mv (.tmp 4)) none [], .mk (some 17) (.bin .add (.tmp 16) (.const (.int .i64 1))) none [0], .mk (some 4) (.mv (.tmp 17)) none [1, 0, 1]]
def l93r8 : List AOper :=
  [.mk (some 24) (.mv (.tmp 3)) none [], .mk (some 2) (.mv (.tmp 24)) none [0, 0]]
def l93 : AFn :=
  (AFn.mk 25 1 (.seq (.reg l93r0) (.seq (.seq (.reg l93r1) (.cond (.tmp 7) (.reg l93r2) .skip)) (.seq (.reg l93r3) (.seq (.seq (.reg l93r4) (.block 0 (.loop (.seq (.seq (.reg l93r5) (.cond (.tmp 15) .skip (.exit 0))) (.seq (.block 1 (.reg l93r6)) (.reg l93r7)))))) (.seq (.reg l93r8) .ret))))) [.tmp 2])
theorem l93_eq : lowFn Tryd.prog 93 = some l93 := by kernel_rfl
def l94r0 : List AOper :=
  [.mk (some 1) (.box (.tmp 0)) none [], .mk (some 2) (.mv (.const (.int .i64 0))) none []]
def l94r1a : List AOper :=
  [.mk (some 5) (.fld 1 (.tmp 1)) none [], .mk (some 6) (.load false 1 (.tmp 5)) none [0], .mk (some 7) (.fld 0 (.tmp 1)) none [], .mk (some 8) (.load false 1 (.tmp 7)) none [2], .mk (some 9) (.bin .sub (.tmp 6) (.tmp 8)) none [1, 3], .mk (some 10) (.fld 2 (.tmp 1)) none [], .mk (some 11) (.load false 1 (.tmp 10)) none [5], .mk (some 3) (.mv (.tmp 9)) none [4, 0, 1, 2, 3, 4]]
def l94r1b : List AOper :=
  [.mk (some 4) (.mv (.tmp 11)) none [6, 7, 0, 1, 2, 3, 4, 5, 6, 7]]
def l94r1 : List AOper := l94r1a ++ l94r1b
def l94r2 : List AOper :=
  [.mk (some 12) (.mv (.tmp 4)) none [], .mk (some 13) (.bin .lss (.tmp 12) (.const (.int .i64 0))) none [0]]
def l94r3 : List AOper :=
  [.mk (some 14) (.mv (.tmp 3)) none [], .mk (some 15) (.un .neg (.tmp 14)) none [0], .mk (some 16) (.mv (.tmp 4)) none [], .mk (some 17) (.un .neg (.tmp 16)) none [2], .mk (some 3) (.mv (.tmp 15)) none [1, 0, 1], .mk (some 4) (.mv (.tmp 17)) none [3, 4, 0, 1, 2, 3, 4]]
def l94r4 : List AOper :=
  [.mk (some 18) (.mv (.tmp 3)) none [], .mk (some 19) (.bin .leq (.tmp 18) (.const (.int .i64 0))) none [0]]
def l94r5 : List AOper :=
  [.mk (some 2) (.mv (.const (.int .i64 0))) none []]
def l94r6 : List AOper :=
  [.mk (some 20) (.mv (.tmp 3)) none [], .mk (some 21) (.mv (.tmp 4)) none [], .mk (some 22) (.bin .add (.tmp 20) (.tmp 21)) none [0, 1], .mk (some 23) (.bin .sub (.tmp 22) (.const (.int .i64 1))) none [2], .mk (some 24) (.mv (.tmp 4)) none [], .mk (some 25) (.bin .quo (.tmp 23) (.tmp 24)) none [3, 4], .mk (some 2) (.mv (.tmp 25)) none [5, 0, 1, 2, 3, 4, 5]]
def l94 : AFn :=
  (AFn.mk 26 1 (.seq (.reg l94r0) (.seq (.draw l94r1) (.seq (.seq (.reg l94r2) (.cond (.tmp 13) (.reg l94r3) .skip)) (.seq (.seq (.reg l94r4) (.cond (.tmp 19) (.seq (.reg l94r5) .ret) .skip)) (.seq (.reg l94r6) .ret))))) [.tmp 2])
theorem l94_eq : lowFn Tryd.prog 94 = some l94 := by kernel_rfl
def l95r0 : List AOper :=
  [.mk (some 2) (.box (.tmp 0)) none [], .mk (some 4) (.mv (.const (.int .i64 0))) none []]
def l95r1 : List AOper :=
  [.mk (some 5) (.fld 0 (.tmp 2)) none [], .mk (some 6) (.load false 1 (.tmp 5)) none [0], .mk (some 7) (.mv (.tmp 1)) none [], .mk (some 8) (.fld 2 (.tmp 2)) none [], .mk (some 9) (.load false 1 (.tmp 8)) none [3], .mk (some 10) (.bin .mul (.tmp 7) (.tmp 9)) none [2, 4], .mk (some 11) (.bin .add (.tmp 6) (.tmp 10)) none [1, 5], .mk (some 4) (.mv (.tmp 11)) none [6, 0, 1, 2, 3, 4, 5, 6]]
def l95 : AFn :=
  (AFn.mk 12 2 (.seq (.reg l95r0) (.seq (.reg l95r1) .ret)) [.tmp 4])
theorem l95_eq : lowFn Tryd.prog 95 = some l95 := by kernel_rfl
def l96r0 : List AOper :=
  [.mk (some 2) (.mv (.const (.int .i64 0))) none []]
def l96r1 : List AOper :=
  [.mk (some 3) (.mv (.const (.int .i64 1))) none []]
def l96r2 : List AOper :=
  [.mk (some 4) (.mv (.tmp 0)) none [], .mk (some 5) (.mv (.const (.int .i64 0))) none []]
def l96r3 : List AOper :=
  [.mk (some 6) (.bin .lss (.tmp 5) (.tmp 4)) none []]
def l96r4 : List AOper :=
  [.mk (some 7) (.mv (.tmp 3)) none [], .mk (some 8) (.bin .mul (.tmp 7) (.const (.int .i64 256))) none [0], .mk (some 3) (.mv (.tmp 8)) none [1, 0, 1]]
def l96r5 : List AOper :=
  [.mk (some 9) (.bin .add (.tmp 5) (.const (.int .i64 1))) none [], .mk (some 5) (.mv (.tmp 9)) none [0]]
def l96r6 : List AOper :=
  [.mk (some 10) (.mv (.tmp 3)) none [], .mk (some 11) (.bin .sub (.tmp 10) (.const (.int .i64 1))) none [0], .mk (some 2) (.mv (.tmp 11)) none [1, 0, 1]]
def l96 : AFn :=
  (AFn.mk 12 1 (.seq (.reg l96r0) (.seq (.reg l96r1) (.seq (.seq (.reg l96r2) (.block 0 (.loop (.seq (.reg l96r3) (.seq (.cond (.tmp 6) .skip (.exit 0)) (.seq (.block 1 (.reg l96r4)) (.reg l96r5))))))) (.seq (.reg l96r6) .ret)))) [.tmp 2])
theorem l96_eq : lowFn Tryd.prog 96 = some l96 := by kernel_rfl
def l97r0 : List AOper :=
  [.mk (some 4) (.box (.tmp 0)) none [], .mk (some 6) (.box (.tmp 2)) none []]
def l97r1 : List AOper :=
  [.mk (some 9) (.fld 1 (.tmp 6)) none [], .mk (some 10) (.load false 1 (.tmp 9)) none [0], .mk (some 11) (.mv (.const (.int .i64 0))) none []]
def l97r2 : List AOper :=
  [.mk (some 12) (.bin .lss (.tmp 11) (.tmp 10)) none []]
def l97r3 : List AOper :=
  [.mk (some 13) (.mv (.tmp 11)) none [], .mk (some 8) (.mv (.tmp 13)) none [0, 0]]
def l97r4 : List AOper :=
  [.mk (some 14) (.mv (.tmp 1)) none [], .mk (some 15) (.load true 1 (.tmp 4)) none [], .mk (some 16) (.load true 2 (.tmp 6)) none [], .mk (some 17) (.mv (.tmp 8)) none [], .mk (some 18) (.call 80 [.tmp 15, .tmp 16, .tmp 17]) none [1, 2, 3], .mk (some 19) (.mv (.tmp 3)) none [], .mk (some 20) (.bin .rem (.tmp 19) (.const (.int .i64 256))) none [5], .mk (some 21) (.idxA 1 (.tmp 14) (.tmp 18)) none [0, 4, 0, 1, 2, 3, 4, 5, 6], .mk none (.store 1 (.tmp 21) (.tmp 20)) none [7, 6, 4, 0, 1, 2, 3, 4, 5, 6]]
def l97r5 : List AOper :=
  [.mk (some 22) (.mv (.tmp 3)) none [], .mk (some 23) (.bin .quo (.tmp 22) (.const (.int .i64 256))) none [0], .mk (some 3) (.mv (.tmp 23)) none [1, 0, 1]]
def l97r6 : List AOper :=
  [.mk (some 24) (.bin .add (.tmp 11) (.const (.int .i64 1))) none [], .mk (some 11) (.mv (.tmp 24)) none [0]]
def l97 : AFn :=
  (AFn.mk 25 4 (.seq (.reg l97r0) (.seq (.reg l97r1) (.block 0 (.loop (.seq (.reg l97r2) (.seq (.cond (.tmp 12) .skip (.exit 0)) (.seq (.block 1 (.seq (.reg l97r3) (.seq (.reg l97r4) (.reg l97r5)))) (.reg l97r6)))))))) [])
theorem l97_eq : lowFn Tryd.prog 97 = some l97 := by kernel_rfl
def l98r0 : List AOper :=
  [.mk (some 2) (.mv (.const (.int .i64 0))) none []]
def l98r1 : List AOper :=
  [.mk (some 3) (.mv (.const (.int .i64 1))) none []]
def l98r2 : List AOper :=
  [.mk (some 4) (.mv (.const (.int .i64 0))) none []]
def l98r3 : List AOper :=
  [.mk (some 5) (.mv (.tmp 4)) none [], .mk (some 6) (.mv (.tmp 0)) none [], .mk (some 7) (.bin .lss (.tmp 5) (.tmp 6)) none [0, 1]]
def l98r4 : List AOper :=
  [.mk (some 10) (.mv (.tmp 3)) none [], .mk (some 11) (.bin .mul (.tmp 10) (.const (.int .i64 256))) none [0], .mk (some 3) (.mv (.tmp 11)) none [1, 0, 1]]
def l98r5 : List AOper :=
  [.mk (some 8) (.mv (.tmp 4)) none [], .mk (some 9) (.bin .add (.tmp 8) (.const (.int .i64 1))) none [0], .mk (some 4) (.mv (.tmp 9)) none [1, 0, 1]]
def l98r6 : List AOper :=
  [.mk (some 12) (.mv (.tmp 3)) none [], .mk (some 2) (.mv (.tmp 12)) none [0, 0]]
def l98 : AFn :=
  (AFn.mk 13 1 (.seq (.reg l98r0) (.seq (.reg l98r1) (.seq (.seq (.reg l98r2) (.block 0 (.loop (.seq (.seq (.reg l98r3) (.cond (.tmp 7) .skip (.exit 0))) (.seq (.block 1 (.reg l98r4)) (.reg l98r5)))))) (.seq (.reg l98r6) .ret)))) [.tmp 2])
theorem l98_eq : lowFn Tryd.prog 98 = some l98 := by kernel_rfl
def l99r0 : List AOper :=
  [.mk (some 6) (.mv (.const (.slice none 0 0))) none []]
def l99r1 : List AOper :=
  [.mk (some 9) (.bslice 1 [.int .i64 0] [] 0) none [], .mk (some 7) (.mv (.tmp 9)) none [0, 0]]
def l99r2 : List AOper :=
  [.mk (some 8) (.mv (.const (.int .i64 0))) none []]
def l99r3 : List AOper :=
  [.mk (some 10) (.mv (.tmp 8)) none [], .mk (some 11) (.mv (.tmp 1)) none [], .mk (some 12) (.bin .lss (.tmp 10) (.tmp 11)) none [0, 1]]
def l99r4 : List AOper :=
  [.mk (some 15) (.mv (.tmp 7)) none [], .mk (some 16) (.mv (.tmp 0)) none [], .mk (some 17) (.bin .rem (.tmp 16) (.const (.int .i64 256))) none [1], .mk (some 18) (.bslice 1 [.int .i64 0] [(0, .tmp 17)] 1) none [2], .mk (some 19) (.append 1 (.tmp 15) (.tmp 18)) none [0, 3], .mk (some 7) (.mv (.tmp 19)) none [4, 4, 0, 1, 2, 3, 4]]
def l99r5 : List AOper :=
  [.mk (some 20) (.mv (.tmp 0)) none [], .mk (some 21) (.bin .quo (.tmp 20) (.const (.int .i64 256))) none [0], .mk (some 0) (.mv (.tmp 21)) none [1, 0, 1]]
def l99r6 : List AOper :=
  [.mk (some 13) (.mv (.tmp 8)) none [], .mk (some 14) (.bin .add (.tmp 13) (.const (.int .i64 1))) none [0], .mk (some 8) (.mv (.tmp 14)) none [1, 0, 1]]
def l99r7 : List AOper :=
  [.mk (some 22) (.mv (.tmp 2)) none []]
def l99r8 : List AOper :=
  [.mk (some 23) (.mv (.tmp 7)) none [], .mk (some 24) (.call 117 [.tmp 23]) none [0], .mk (some 6) (.mv (.tmp 24)) none [1, 1, 0, 1]]
def l99r9 : List AOper :=
  [.mk (some 25) (.mv (.tmp 7)) none [], .mk (some 6) (.mv (.tmp 25)) none [0, 0]]
def l99 : AFn :=
  (AFn.mk 26 3 (.seq (.reg l99r0) (.seq (.reg l99r1) (.seq (.seq (.reg l99r2) (.block 0 (.loop (.seq (.seq (.reg l99r3) (.cond (.tmp 12) .skip (.exit 0))) (.seq (.block 1 (.seq (.reg l99r4) (.reg l99r5))) (.reg l99r6)))))) (.seq (.seq (.reg l99r7) (.cond (.tmp 22) (.seq (.reg l99r8) .ret) .skip)) (.seq (.reg l99r9) .ret))))) [.tmp 6])
theorem l99_eq : lowFn Tryd.prog 99 = some l99 := by kernel_rfl
def l100r0 : List AOper :=
  [.mk (some 3) (.box (.tmp 0)) none [], .mk (some 5) (.box (.tmp 2)) none [], .mk (some 6) (.mv (.const (.int .i64 0))) none []]
def l100r1 : List AOper :=
  [.mk (some 7) (.mv (.const (.int .i64 0))) none []]
def l100r2 : List AOper :=
  [.mk (some 9) (.fld 1 (.tmp 5)) none [], .mk (some 10) (.load false 1 (.tmp 9)) none [0], .mk (some 11) (.bin .sub (.tmp 10) (.const (.int .i64 1))) none [1], .mk (some 8) (.mv (.tmp 11)) none [2, 0, 1, 2]]
def l100r3 : List AOper :=
  [.mk (some 12) (.mv (.tmp 8)) none [], .mk (some 13) (.bin .geq (.tmp 12) (.const (.int .i64 0))) none [0]]
def l100r4 : List AOper :=
  [.mk (some 16) (.mv (.tmp 7)) none [], .mk (some 17) (.bin .mul (.tmp 16) (.const (.int .i64 256))) none [0], .mk (some 18) (.mv (.tmp 1)) none [], .mk (some 19) (.load true 1 (.tmp 3)) none [], .mk (some 20) (.load true 2 (.tmp 5)) none [], .mk (some 21) (.mv (.tmp 8)) none [], .mk (some 22) (.call 80 [.tmp 19, .tmp 20, .tmp 21]) none [3, 4, 5], .mk (some 23) (.idxA 1 (.tmp 18) (.tmp 22)) none [2, 6], .mk (some 24) (.load false 1 (.tmp 23)) none [7], .mk (some 25) (.bin .add (.tmp 17) (.tmp 24)) none [1, 8], .mk (some 7) (.mv (.tmp 25)) none [9, 6, 0, 1, 2, 3, 4, 5, 6, 7, 8, 9]]
def l100r5 : List AOper :=
  [.mk (some 14) (.mv (.tmp 8)) none [], .mk (some 15) (.bin .sub (.tmp 14) (.const (.int .i64 1))) none [0], .mk (some 8) (.mv (.tmp 15)) none [1, 0, 1]]
def l100r6 : List AOper :=
  [.mk (some 26) (.mv (.tmp 7)) none [], .mk (some 6) (.mv (.tmp 26)) none [0, 0]]
def l100 : AFn :=
  (AFn.mk 27 3 (.seq (.reg l100r0) (.seq (.reg l100r1) (.seq (.seq (.reg l100r2) (.block 0 (.loop (.seq (.seq (.reg l100r3) (.cond (.tmp 13) .skip (.exit 0))) (.seq (.block 1 (.reg l100r4)) (.reg l100r5)))))) (.seq (.reg l100r6) .ret)))) [.tmp 6])
theorem l100_eq : lowFn Tryd.prog 100 = some l100 := by kernel_rfl
def l101r0 : List AOper :=
  [.mk (some 4) (.mv (.const (.int .i64 0))) none []]
def l101r1 : List AOper :=
  [.mk (some 7) (.mv (.tmp 1)) none [], .mk (some 8) (.un .not (.tmp 7)) none [0]]
def l101r2 : List AOper :=
  [.mk (some 9) (.mv (.tmp 0)) none [], .mk (some 10) (.call 117 [.tmp 9]) none [0], .mk (some 0) (.mv (.tmp 10)) none [1, 1, 0, 1]]
def l101r3 : List AOper :=
  [.mk (some 5) (.mv (.const (.int .i64 0))) none []]
def l101r4 : List AOper :=
  [.mk (some 6) (.mv (.const (.int .i64 0))) none []]
def l101r5 : List AOper :=
  [.mk (some 11) (.mv (.tmp 6)) none [], .mk (some 12) (.mv (.tmp 0)) none [], .mk (some 13) (.len (.tmp 12)) none [1], .mk (some 14) (.bin .lss (.tmp 11) (.tmp 13)) none [0, 2]]
def l101r6 : List AOper :=
  [.mk (some 17) (.mv (.tmp 5)) none [], .mk (some 18) (.bin .mul (.const (.int .i64 256)) (.tmp 17)) none [0], .mk (some 19) (.mv (.tmp 0)) none [], .mk (some 20) (.mv (.tmp 6)) none [], .mk (some 21) (.idxA 1 (.tmp 19) (.tmp 20)) none [2, 3], .mk (some 22) (.load false 1 (.tmp 21)) none [4], .mk (some 23) (.bin .add (.tmp 18) (.tmp 22)) none [1, 5], .mk (some 5) (.mv (.tmp 23)) none [6, 0, 1, 2, 3, 4, 5, 6]]
def l101r7 : List AOper :=
  [.mk (some 15) (.mv (.tmp 6)) none [], .mk (some 16) (.bin .add (.tmp 15) (.const (.int .i64 1))) none [0], .mk (some 6) (.mv (.tmp 16)) none [1, 0, 1]]
def l101r8 : List AOper :=
  [.mk (some 24) (.mv (.tmp 5)) none [], .mk (some 4) (.mv (.tmp 24)) none [0, 0]]
def l101 : AFn :=
  (AFn.mk 25 2 (.seq (.reg l101r0) (.seq (.seq (.reg l101r1) (.cond (.tmp 8) (.reg l101r2) .skip)) (.seq (.reg l101r3) (.seq (.seq (.reg l101r4) (.block 0 (.loop (.seq (.seq (.reg l101r5) (.cond (.tmp 14) .skip (.exit 0))) (.seq (.block 1 (.reg l101r6)) (.reg l101r7)))))) (.seq (.reg l101r8) .ret))))) [.tmp 4])
theorem l101_eq : lowFn Tryd.prog 101 = some l101 := by kernel_rfl
def l117r0 : List AOper :=
  [.mk (some 2) (.mv (.const (.slice none 0 0))) none []]
def l117r1 : List AOper :=
  [.mk (some 5) (.bslice 1 [.int .i64 0] [] 0) none [], .mk (some 3) (.mv (.tmp 5)) none [0, 0]]
def l117r2 : List AOper :=
  [.mk (some 6) (.mv (.tmp 0)) none [], .mk (some 7) (.len (.tmp 6)) none [0], .mk (some 8) (.bin .sub (.tmp 7) (.const (.int .i64 1))) none [1], .mk (some 4) (.mv (.tmp 8)) none [2, 0, 1, 2]]
def l117r3 : List AOper :=
  [.mk (some 9) (.mv (.tmp 4)) none [], .mk (some 10) (.bin .geq (.tmp 9) (.const (.int .i64 0))) none [0]]
def l117r4 : List AOper :=
  [.mk (some 13) (.mv (.tmp 3)) none [], .mk (some 14) (.mv (.tmp 0)) none [], .mk (some 15) (.mv (.tmp 4)) none [], .mk (some 16) (.idxA 1 (.tmp 14) (.tmp 15)) none [1, 2], .mk (some 17) (.load false 1 (.tmp 16)) none [3], .mk (some 18) (.bslice 1 [.int .i64 0] [(0, .tmp 17)] 1) none [4], .mk (some 19) (.append 1 (.tmp 13) (.tmp 18)) none [0, 5], .mk (some 3) (.mv (.tmp 19)) none [6, 6, 0, 1, 2, 3, 4, 5, 6]]
def l117r5 : List AOper :=
  [.mk (some 11) (.mv (.tmp 4)) none [], .mk (some 12) (.bin .sub (.tmp 11) (.const (.int .i64 1))) none [0], .mk (some 4) (.mv (.tmp 12)) none [1, 0, 1]]
def l117r6 : List AOper :=
  [.mk (some 20) (.mv (.tmp 3)) none [], .mk (some 2) (.mv (.tmp 20)) none [0, 0]]
def l117 : AFn :=
  (AFn.mk 21 1 (.seq (.reg l117r0) (.seq (.reg l117r1) (.seq (.seq (.reg l117r2) (.block 0 (.loop (.seq (.seq (.reg l117r3) (.cond (.tmp 10) .skip (.exit 0))) (.seq (.block 1 (.reg l117r4)) (.reg l117r5)))))) (.seq (.reg l117r6) .ret)))) [.tmp 2])
theorem l117_eq : lowFn Tryd.prog 117 = some l117 := by kernel_rfl
end Go.Proofs.YtclampodmlklpaaDoor
