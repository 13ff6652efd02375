import Derived.Test.YtclampodmlklpaaDoorCW3
import Derived.Test.YtclampodmlklpaaDoorProg
import Derived.KernelRfl
set_option maxRecDepth 100000
namespace Go.Proofs.YtclampodmlklpaaDoor
open Vw Go
instance globs : Inhabited GlobT := ⟨⟨[(0, [1, 2, 4])]⟩⟩
attribute [push_cast] Bool.false_eq_true List.length_replicate
def l3r0 : List AOper :=
  [.mk (some 2) (.mv (.const (.bool false))) none []]
def l3r1 : List AOper :=
  [.mk (some 5) (.mv (.tmp 0)) none [], .mk (some 6) (.len (.tmp 5)) none [0], .mk (some 7) (.bin .gtr (.tmp 6) (.const (.int .i64 1048576))) none [1]]
def l3r2 : List AOper :=
  [.mk (some 2) (.mv (.const (.bool true))) none []]
def l3r3 : List AOper :=
  [.mk (some 8) (.mv (.tmp 0)) none [], .mk (some 9) (.call 13 [.tmp 8]) none [0], .mk (some 3) (.alloc [.slice none 0 0, .bool false, .bool false]) none [], .mk none (.store 3 (.tmp 3) (.tmp 9)) none [2, 1, 1, 0, 1, 2]]
def l3r4 : List AOper :=
  [.mk (some 10) (.load true 3 (.tmp 3)) none [], .mk (some 11) (.call 14 [.tmp 10]) none [0], .mk (some 4) (.mv (.tmp 11)) none [1, 1, 0, 1]]
def l3r5 : List AOper :=
  [.mk (some 12) (.mv (.tmp 4)) none [], .mk (some 13) (.load true 3 (.tmp 3)) none [], .mk (some 14) (.call 15 [.tmp 13]) none [1], .mk (some 15) (.binB .neq (.tmp 12) (.tmp 14)) none [0, 2], .mk (some 16) (.mv (.tmp 15)) none [3, 2], .mk (some 17) (.mv (.tmp 4)) (some (16, false)) [4], .mk (some 18) (.un .not (.tmp 17)) (some (16, false)) [5, 4], .mk (some 19) (.pick (.tmp 16) (.const (.bool true)) (.tmp 18)) none [4, 6]]
def l3r6 : List AOper :=
  [.mk (some 20) (.mv (.tmp 4)) none [], .mk (some 21) (.load true 3 (.tmp 3)) none [], .mk (some 22) (.call 15 [.tmp 21]) none [1], .mk (some 23) (.binB .eql (.tmp 20) (.tmp 22)) none [0, 2], .mk (some 2) (.mv (.tmp 23)) none [3, 2, 0, 1, 2, 3]]
def l3r7a : List AOper :=
  [.mk (some 24) (.fld 0 (.tmp 3)) none [], .mk (some 25) (.load false 1 (.tmp 24)) none [0], .mk (some 26) (.len (.tmp 25)) none [1], .mk (some 27) (.bin .eql (.tmp 26) (.const (.int .i64 1))) none [2], .mk (some 28) (.mv (.tmp 27)) none [3], .mk (some 29) (.fld 0 (.tmp 3)) (some (28, false)) [4], .mk (some 30) (.load false 1 (.tmp 29)) (some (28, false)) [5, 4], .mk (some 31) (.fld 0 (.tmp 3)) (some (28, false)) [4], .mk (some 32) (.load false 1 (.tmp 31)) (some (28, false)) [7, 4], .mk (some 33) (.len (.tmp 32)) (some (28, false)) [8, 4], .mk (some 34) (.bin .sub (.tmp 33) (.const (.int .i64 1))) (some (28, false)) [9, 4], .mk (some 35) (.slice 1 (.tmp 30) none (some (.tmp 34))) (some (28, false)) [6, 10, 4], .mk (some 36) (.fld 1 (.tmp 3)) (some (28, false)) [4], .mk (some 37) (.load false 1 (.tmp 36)) (some (28, false)) [12, 4], .mk (some 38) (.fld 2 (.tmp 3)) (some (28, false)) [4], .mk (some 39) (.load false 1 (.tmp 38)) (some (28, false)) [14, 4]]
def l3r7b : List AOper :=
  [.mk (some 40) (.build [.slice none 0 0, .bool false, .bool false] [(0, 1, .tmp 35), (1, 1, .tmp 37), (2, 1, .tmp 39)]) (some (28, false)) [11, 13, 15, 4], .mk (some 41) (.call 14 [.tmp 40]) (some (28, false)) [16, 4, 4], .mk (some 42) (.pick (.tmp 28) (.const (.bool true)) (.tmp 41)) none [4, 17], .mk (some 2) (.mv (.tmp 42)) none [18, 17, 0, 1, 2, 3, 4, 5, 6, 7, 8, 9, 10, 11, 12, 13, 14, 15, 16, 17, 18]]
def l3r7 : List AOper := l3r7a ++ l3r7b
def l3 : AFn :=
  (AFn.mk 43 1 (.seq (.reg l3r0) (.seq (.seq (.reg l3r1) (.cond (.tmp 7) (.seq (.reg l3r2) .ret) .skip)) (.seq (.reg l3r3) (.seq (.reg l3r4) (.seq (.seq (.reg l3r5) (.cond (.tmp 19) (.seq (.reg l3r6) .ret) .skip)) (.seq (.draw l3r7) .ret)))))) [.tmp 2])
theorem l3_eq : lowFn Tryd.prog 3 = some l3 := by kernel_rfl
def l4r0 : List AOper :=
  [.mk (some 2) (.mv (.const (.bool false))) none []]
def l4r1 : List AOper :=
  [.mk (some 6) (.mv (.tmp 0)) none [], .mk (some 7) (.len (.tmp 6)) none [0], .mk (some 8) (.bin .gtr (.tmp 7) (.const (.int .i64 1048576))) none [1]]
def l4r2 : List AOper :=
  [.mk (some 2) (.mv (.const (.bool true))) none []]
def l4r3 : List AOper :=
  [.mk (some 9) (.mv (.tmp 0)) none [], .mk (some 10) (.call 16 [.tmp 9]) none [0], .mk (some 3) (.alloc [.slice none 0 0, .bool false, .bool false]) none [], .mk none (.store 3 (.tmp 3) (.tmp 10)) none [2, 1, 1, 0, 1, 2]]
def l4r4 : List AOper :=
  [.mk (some 11) (.load true 3 (.tmp 3)) none [], .mk (some 12) (.call 17 [.tmp 11]) none [0], .mk (some 4) (.mv (.tmp 12)) none [1, 1, 0, 1]]
def l4r5 : List AOper :=
  [.mk (some 13) (.mv (.tmp 4)) none [], .mk (some 14) (.load true 3 (.tmp 3)) none [], .mk (some 15) (.call 19 [.tmp 14]) none [1], .mk (some 16) (.call 18 [.tmp 13, .tmp 15]) none [0, 2, 2], .mk (some 17) (.un .not (.tmp 16)) none [3], .mk (some 18) (.mv (.tmp 17)) none [4, 3], .mk (some 19) (.mv (.tmp 4)) (some (18, false)) [5], .mk (some 20) (.len (.tmp 19)) (some (18, false)) [6, 5], .mk (some 21) (.bin .eql (.tmp 20) (.const (.int .i64 0))) (some (18, false)) [7, 5], .mk (some 22) (.pick (.tmp 18) (.const (.bool true)) (.tmp 21)) none [5, 8]]
def l4r6 : List AOper :=
  [.mk (some 23) (.mv (.tmp 4)) none [], .mk (some 24) (.load true 3 (.tmp 3)) none [], .mk (some 25) (.call 19 [.tmp 24]) none [1], .mk (some 26) (.call 18 [.tmp 23, .tmp 25]) none [0, 2, 2], .mk (some 2) (.mv (.tmp 26)) none [3, 3, 0, 1, 2, 3]]
def l4r7 : List AOper :=
  [.mk (some 5) (.mv (.const (.int .i64 0))) none []]
def l4r8 : List AOper :=
  [.mk (some 27) (.mv (.tmp 5)) none [], .mk (some 28) (.mv (.tmp 4)) none [], .mk (some 29) (.len (.tmp 28)) none [1], .mk (some 30) (.bin .lss (.tmp 27) (.tmp 29)) none [0, 2]]
def l4r9a : List AOper :=
  [.mk (some 33) (.mv (.tmp 5)) none [], .mk (some 34) (.bin .gtr (.tmp 33) (.const (.int .i64 0))) none [0], .mk (some 35) (.mv (.tmp 34)) none [1], .mk (some 36) (.mv (.tmp 4)) (some (35, true)) [2], .mk (some 37) (.mv (.tmp 5)) (some (35, true)) [2], .mk (some 38) (.idxA 1 (.tmp 36) (.tmp 37)) (some (35, true)) [3, 4, 2], .mk (some 39) (.load false 1 (.tmp 38)) (some (35, true)) [5, 2], .mk (some 40) (.mv (.tmp 4)) (some (35, true)) [2], .mk (some 41) (.mv (.tmp 5)) (some (35, true)) [2], .mk (some 42) (.bin .sub (.tmp 41) (.const (.int .i64 1))) (some (35, true)) [8, 2], .mk (some 43) (.idxA 1 (.tmp 40) (.tmp 42)) (some (35, true)) [7, 9, 2], .mk (some 44) (.load false 1 (.tmp 43)) (some (35, true)) [10, 2], .mk (some 45) (.fld 0 (.tmp 3)) (some (35, true)) [2], .mk (some 46) (.load false 1 (.tmp 45)) (some (35, true)) [12, 2], .mk (some 47) (.mv (.tmp 5)) (some (35, true)) [2], .mk (some 48) (.bin .sub (.tmp 47) (.const (.int .i64 1))) (some (35, true)) [14, 2], .mk (some 49) (.idxA 1 (.tmp 46) (.tmp 48)) (some (35, true)) [13, 15, 2], .mk (some 50) (.load false 1 (.tmp 49)) (some (35, true)) [16, 2], .mk (some 51) (.bin .add (.tmp 44) (.tmp 50)) (some (35, true)) [11, 17, 2], .mk (some 52) (.bin .lss (.tmp 39) (.tmp 51)) (some (35, true)) [6, 18, 2], .mk (some 53) (.pick (.tmp 35) (.tmp 52) (.const (.bool false))) none [2, 19], .mk (some 54) (.mv (.tmp 53)) none [20, 2], .mk (some 55) (.fld 2 (.tmp 3)) (some (54, false)) [21], .mk (some 56) (.load false 1 (.tmp 55)) (some (54, false)) [22, 21], .mk (some 57) (.mv (.tmp 56)) (some (54, false)) [23, 21, 21], .mk (some 58) (.mv (.tmp 4)) (some (57, true)) [24], .mk (some 59) (.mv (.tmp 5)) (some (57, true)) [24], .mk (some 60) (.idxA 1 (.tmp 58) (.tmp 59)) (some (57, true)) [25, 26, 24], .mk (some 61) (.load false 1 (.tmp 60)) (some (57, true)) [27, 24], .mk (some 62) (.fld 0 (.tmp 3)) (some (57, true)) [24], .mk (some 63) (.load false 1 (.tmp 62)) (some (57, true)) [29, 24], .mk (some 64) (.mv (.tmp 5)) (some (57, true)) [24], .mk (some 65) (.idxA 1 (.tmp 63) (.tmp 64)) (some (57, true)) [30, 31, 24], .mk (some 66) (.load false 1 (.tmp 65)) (some (57, true)) [32, 24], .mk (some 67) (.bin .rem (.tmp 61) (.tmp 66)) (some (57, true)) [28, 33, 24], .mk (some 68) (.bin .neq (.tmp 67) (.const (.int .i64 0))) (some (57, true)) [34, 24], .mk (some 69) (.pick (.tmp 57) (.tmp 68) (.const (.bool false))) (some (54, false)) [24, 35, 21], .mk (some 70) (.pick (.tmp 54) (.const (.bool true)) (.tmp 69)) none [21, 36], .mk (some 71) (.mv (.tmp 70)) none [37, 24], .mk (some 72) (.fld 2 (.tmp 3)) (some (71, false)) [38], .mk (some 73) (.load false 1 (.tmp 72)) (some (71, false)) [39, 38], .mk (some 74) (.un .not (.tmp 73)) (some (71, false)) [40, 38], .mk (some 75) (.mv (.tmp 74)) (some (71, false)) [41, 38, 38], .mk (some 76) (.mv (.tmp 5)) (some (75, true)) [42], .mk (some 77) (.bin .gtr (.tmp 76) (.const (.int .i64 0))) (some (75, true)) [43, 42], .mk (some 78) (.pick (.tmp 75) (.tmp 77) (.const (.bool false))) (some (71, false)) [42, 44, 38], .mk (some 79) (.mv (.tmp 78)) (some (71, false)) [45, 42, 38], .mk (some 80) (.mv (.tmp 4)) (some (79, true)) [46], .mk (some 81) (.mv (.tmp 5)) (some (79, true)) [46], .mk (some 82) (.idxA 1 (.tmp 80) (.tmp 81)) (some (79, true)) [47, 48, 46], .mk (some 83) (.load false 1 (.tmp 82)) (some (79, true)) [49, 46], .mk (some 84) (.mv (.tmp 4)) (some (79, true)) [46], .mk (some 85) (.mv (.tmp 5)) (some (79, true)) [46], .mk (some 86) (.bin .sub (.tmp 85) (.const (.int .i64 1))) (some (79, true)) [52, 46], .mk (some 87) (.idxA 1 (.tmp 84) (.tmp 86)) (some (79, true)) [51, 53, 46], .mk (some 88) (.load false 1 (.tmp 87)) (some (79, true)) [54, 46], .mk (some 89) (.fld 0 (.tmp 3)) (some (79, true)) [46], .mk (some 90) (.load false 1 (.tmp 89)) (some (79, true)) [56, 46], .mk (some 91) (.mv (.tmp 5)) (some (79, true)) [46], .mk (some 92) (.bin .sub (.tmp 91) (.const (.int .i64 1))) (some (79, true)) [58, 46], .mk (some 93) (.idxA 1 (.tmp 90) (.tmp 92)) (some (79, true)) [57, 59, 46], .mk (some 94) (.load false 1 (.tmp 93)) (some (79, true)) [60, 46], .mk (some 95) (.bin .add (.tmp 88) (.tmp 94)) (some (79, true)) [55, 61, 46]]
def l4r9b : List AOper :=
  [.mk (some 96) (.bin .neq (.tmp 83) (.tmp 95)) (some (79, true)) [50, 62, 46], .mk (some 97) (.pick (.tmp 79) (.tmp 96) (.const (.bool false))) (some (71, false)) [46, 63, 38], .mk (some 98) (.pick (.tmp 71) (.const (.bool true)) (.tmp 97)) none [38, 64]]
def l4r9 : List AOper := l4r9a ++ l4r9b
def l4r10 : List AOper :=
  [.mk (some 2) (.mv (.const (.bool false))) none []]
def l4r11 : List AOper :=
  [.mk (some 31) (.mv (.tmp 5)) none [], .mk (some 32) (.bin .add (.tmp 31) (.const (.int .i64 1))) none [0], .mk (some 5) (.mv (.tmp 32)) none [1, 0, 1]]
def l4r12 : List AOper :=
  [.mk (some 99) (.mv (.tmp 4)) none [], .mk (some 100) (.idxA 1 (.tmp 99) (.const (.int .i64 0))) none [0], .mk (some 101) (.load false 1 (.tmp 100)) none [1], .mk (some 102) (.bin .eql (.tmp 101) (.const (.int .i64 0))) none [2], .mk (some 2) (.mv (.tmp 102)) none [3, 0, 1, 2, 3]]
def l4 : AFn :=
  (AFn.mk 103 1 (.seq (.reg l4r0) (.seq (.seq (.reg l4r1) (.cond (.tmp 8) (.seq (.reg l4r2) .ret) .skip)) (.seq (.reg l4r3) (.seq (.reg l4r4) (.seq (.seq (.reg l4r5) (.cond (.tmp 22) (.seq (.reg l4r6) .ret) .skip)) (.seq (.seq (.reg l4r7) (.block 0 (.loop (.seq (.seq (.reg l4r8) (.cond (.tmp 30) .skip (.exit 0))) (.seq (.block 1 (.seq (.draw l4r9) (.cond (.tmp 98) (.seq (.reg l4r10) .ret) .skip))) (.reg l4r11)))))) (.seq (.reg l4r12) .ret))))))) [.tmp 2])
theorem l4_eq : lowFn Tryd.prog 4 = some l4 := by kernel_rfl
def l5r0 : List AOper :=
  [.mk (some 2) (.mv (.const (.bool false))) none []]
def l5r1 : List AOper :=
  [.mk (some 6) (.mv (.tmp 0)) none [], .mk (some 7) (.len (.tmp 6)) none [0], .mk (some 8) (.bin .gtr (.tmp 7) (.const (.int .i64 1048576))) none [1]]
def l5r2 : List AOper :=
  [.mk (some 2) (.mv (.const (.bool true))) none []]
def l5r3 : List AOper :=
  [.mk (some 9) (.mv (.tmp 0)) none [], .mk (some 10) (.call 20 [.tmp 9]) none [0], .mk (some 3) (.alloc [.slice none 0 0, .bool false, .bool false]) none [], .mk none (.store 3 (.tmp 3) (.tmp 10)) none [2, 1, 1, 0, 1, 2]]
def l5r4 : List AOper :=
  [.mk (some 11) (.load true 3 (.tmp 3)) none [], .mk (some 12) (.call 21 [.tmp 11]) none [0], .mk (some 4) (.mv (.tmp 12)) none [1, 1, 0, 1]]
def l5r5 : List AOper :=
  [.mk (some 13) (.mv (.tmp 4)) none [], .mk (some 14) (.load true 3 (.tmp 3)) none [], .mk (some 15) (.call 22 [.tmp 14]) none [1], .mk (some 16) (.bin .neq (.tmp 13) (.tmp 15)) none [0, 2], .mk (some 17) (.mv (.tmp 16)) none [3, 2], .mk (some 18) (.mv (.tmp 4)) (some (17, false)) [4], .mk (some 19) (.bin .lss (.tmp 18) (.const (.int .i64 0))) (some (17, false)) [5, 4], .mk (some 20) (.pick (.tmp 17) (.const (.bool true)) (.tmp 19)) none [4, 6]]
def l5r6 : List AOper :=
  [.mk (some 21) (.mv (.tmp 4)) none [], .mk (some 22) (.load true 3 (.tmp 3)) none [], .mk (some 23) (.call 22 [.tmp 22]) none [1], .mk (some 24) (.bin .eql (.tmp 21) (.tmp 23)) none [0, 2], .mk (some 2) (.mv (.tmp 24)) none [3, 2, 0, 1, 2, 3]]
def l5r7 : List AOper :=
  [.mk (some 5) (.mv (.const (.int .i64 0))) none []]
def l5r8 : List AOper :=
  [.mk (some 25) (.mv (.tmp 5)) none [], .mk (some 26) (.fld 0 (.tmp 3)) none [], .mk (some 27) (.load false 1 (.tmp 26)) none [1], .mk (some 28) (.len (.tmp 27)) none [2], .mk (some 29) (.bin .lss (.tmp 25) (.tmp 28)) none [0, 3]]
def l5r9 : List AOper :=
  [.mk (some 32) (.fld 2 (.tmp 3)) none [], .mk (some 33) (.load false 1 (.tmp 32)) none [0], .mk (some 34) (.mv (.tmp 33)) none [1], .mk (some 35) (.mv (.tmp 4)) (some (34, true)) [2], .mk (some 36) (.fld 0 (.tmp 3)) (some (34, true)) [2], .mk (some 37) (.load false 1 (.tmp 36)) (some (34, true)) [4, 2], .mk (some 38) (.mv (.tmp 5)) (some (34, true)) [2], .mk (some 39) (.idxA 1 (.tmp 37) (.tmp 38)) (some (34, true)) [5, 6, 2], .mk (some 40) (.load false 1 (.tmp 39)) (some (34, true)) [7, 2], .mk (some 41) (.bin .rem (.tmp 35) (.tmp 40)) (some (34, true)) [3, 8, 2], .mk (some 42) (.bin .neq (.tmp 41) (.const (.int .i64 0))) (some (34, true)) [9, 2], .mk (some 43) (.pick (.tmp 34) (.tmp 42) (.const (.bool false))) none [2, 10]]
def l5r10 : List AOper :=
  [.mk (some 2) (.mv (.const (.bool false))) none []]
def l5r11 : List AOper :=
  [.mk (some 30) (.mv (.tmp 5)) none [], .mk (some 31) (.bin .add (.tmp 30) (.const (.int .i64 1))) none [0], .mk (some 5) (.mv (.tmp 31)) none [1, 0, 1]]
def l5r12a : List AOper :=
  [.mk (some 44) (.mv (.tmp 4)) none [], .mk (some 45) (.fld 0 (.tmp 3)) none [], .mk (some 46) (.load false 1 (.tmp 45)) none [1], .mk (some 47) (.call 23 [.tmp 46]) none [2], .mk (some 48) (.load true 3 (.tmp 3)) none [], .mk (some 49) (.call 24 [.tmp 48]) none [4, 3], .mk (some 50) (.len (.tmp 49)) none [5], .mk (some 51) (.bin .add (.tmp 47) (.tmp 50)) none [3, 6]]
def l5r12b : List AOper :=
  [.mk (some 52) (.bin .eql (.tmp 44) (.tmp 51)) none [0, 7], .mk (some 2) (.mv (.tmp 52)) none [8, 5, 0, 1, 2, 3, 4, 5, 6, 7, 8]]
def l5r12 : List AOper := l5r12a ++ l5r12b
def l5 : AFn :=
  (AFn.mk 53 1 (.seq (.reg l5r0) (.seq (.seq (.reg l5r1) (.cond (.tmp 8) (.seq (.reg l5r2) .ret) .skip)) (.seq (.reg l5r3) (.seq (.reg l5r4) (.seq (.seq (.reg l5r5) (.cond (.tmp 20) (.seq (.reg l5r6) .ret) .skip)) (.seq (.seq (.reg l5r7) (.block 0 (.loop (.seq (.seq (.reg l5r8) (.cond (.tmp 29) .skip (.exit 0))) (.seq (.block 1 (.seq (.reg l5r9) (.cond (.tmp 43) (.seq (.reg l5r10) .ret) .skip))) (.reg l5r11)))))) (.seq (.draw l5r12) .ret))))))) [.tmp 2])
theorem l5_eq : lowFn Tryd.prog 5 = some l5 := by kernel_rfl
def l6r0 : List AOper :=
  [.mk (some 2) (.mv (.const (.bool false))) none []]
def l6r1 : List AOper :=
  [.mk (some 8) (.mv (.tmp 0)) none [], .mk (some 9) (.len (.tmp 8)) none [0], .mk (some 10) (.bin .gtr (.tmp 9) (.const (.int .i64 1048576))) none [1]]
def l6r2 : List AOper :=
  [.mk (some 2) (.mv (.const (.bool true))) none []]
def l6r3 : List AOper :=
  [.mk (some 11) (.mv (.tmp 0)) none [], .mk (some 12) (.call 25 [.tmp 11]) none [0], .mk (some 3) (.alloc [.slice none 0 0, .bool false, .bool false]) none [], .mk none (.store 3 (.tmp 3) (.tmp 12)) none [2, 1, 1, 0, 1, 2]]
def l6r4 : List AOper :=
  [.mk (some 13) (.load true 3 (.tmp 3)) none [], .mk (some 14) (.call 24 [.tmp 13]) none [0], .mk (some 4) (.mv (.tmp 14)) none [1, 1, 0, 1]]
def l6r5 : List AOper :=
  [.mk (some 15) (.mv (.tmp 4)) none [], .mk (some 16) (.load true 3 (.tmp 3)) none [], .mk (some 17) (.call 26 [.tmp 16]) none [1], .mk (some 18) (.call 18 [.tmp 15, .tmp 17]) none [0, 2, 2], .mk (some 19) (.un .not (.tmp 18)) none [3], .mk (some 20) (.mv (.tmp 19)) none [4, 3], .mk (some 21) (.load true 3 (.tmp 3)) (some (20, false)) [5], .mk (some 22) (.call 14 [.tmp 21]) (some (20, false)) [6, 5, 5], .mk (some 23) (.un .not (.tmp 22)) (some (20, false)) [7, 5], .mk (some 24) (.pick (.tmp 20) (.const (.bool true)) (.tmp 23)) none [5, 8]]
def l6r6 : List AOper :=
  [.mk (some 25) (.mv (.tmp 4)) none [], .mk (some 26) (.load true 3 (.tmp 3)) none [], .mk (some 27) (.call 26 [.tmp 26]) none [1], .mk (some 28) (.call 18 [.tmp 25, .tmp 27]) none [0, 2, 2], .mk (some 2) (.mv (.tmp 28)) none [3, 3, 0, 1, 2, 3]]
def l6r7 : List AOper :=
  [.mk (some 29) (.load true 3 (.tmp 3)) none [], .mk (some 30) (.call 17 [.tmp 29]) none [0], .mk (some 5) (.mv (.tmp 30)) none [1, 1, 0, 1]]
def l6r8 : List AOper :=
  [.mk (some 6) (.mv (.const (.int .i64 0))) none []]
def l6r9 : List AOper :=
  [.mk (some 31) (.mv (.tmp 6)) none [], .mk (some 32) (.mv (.tmp 5)) none [], .mk (some 33) (.len (.tmp 32)) none [1], .mk (some 34) (.bin .lss (.tmp 31) (.tmp 33)) none [0, 2]]
def l6r10 : List AOper :=
  [.mk (some 7) (.mv (.const (.int .i64 0))) none []]
def l6r11 : List AOper :=
  [.mk (some 37) (.mv (.tmp 7)) none [], .mk (some 38) (.fld 0 (.tmp 3)) none [], .mk (some 39) (.load false 1 (.tmp 38)) none [1], .mk (some 40) (.mv (.tmp 6)) none [], .mk (some 41) (.idxA 1 (.tmp 39) (.tmp 40)) none [2, 3], .mk (some 42) (.load false 1 (.tmp 41)) none [4], .mk (some 43) (.bin .lss (.tmp 37) (.tmp 42)) none [0, 5]]
def l6r12 : List AOper :=
  [.mk (some 46) (.mv (.tmp 4)) none [], .mk (some 47) (.mv (.tmp 5)) none [], .mk (some 48) (.mv (.tmp 6)) none [], .mk (some 49) (.idxA 1 (.tmp 47) (.tmp 48)) none [1, 2], .mk (some 50) (.load false 1 (.tmp 49)) none [3], .mk (some 51) (.mv (.tmp 7)) none [], .mk (some 52) (.bin .add (.tmp 50) (.tmp 51)) none [4, 5], .mk (some 53) (.call 27 [.tmp 46, .tmp 52]) none [0, 6]]
def l6r13 : List AOper :=
  [.mk (some 2) (.mv (.const (.bool false))) none []]
def l6r14 : List AOper :=
  [.mk (some 44) (.mv (.tmp 7)) none [], .mk (some 45) (.bin .add (.tmp 44) (.const (.int .i64 1))) none [0], .mk (some 7) (.mv (.tmp 45)) none [1, 0, 1]]
def l6r15 : List AOper :=
  [.mk (some 35) (.mv (.tmp 6)) none [], .mk (some 36) (.bin .add (.tmp 35) (.const (.int .i64 1))) none [0], .mk (some 6) (.mv (.tmp 36)) none [1, 0, 1]]
def l6r16 : List AOper :=
  [.mk (some 54) (.fld 2 (.tmp 3)) none [], .mk (some 55) (.load false 1 (.tmp 54)) none [0], .mk (some 56) (.mv (.tmp 55)) none [1], .mk (some 57) (.mv (.tmp 4)) (some (56, false)) [2], .mk (some 58) (.len (.tmp 57)) (some (56, false)) [3, 2], .mk (some 59) (.bin .eql (.tmp 58) (.const (.int .i64 0))) (some (56, false)) [4, 2], .mk (some 60) (.pick (.tmp 56) (.const (.bool true)) (.tmp 59)) none [2, 5], .mk (some 61) (.mv (.tmp 60)) none [6, 2], .mk (some 62) (.mv (.tmp 4)) (some (61, true)) [7], .mk (some 63) (.call 28 [.tmp 62]) (some (61, true)) [8, 7, 7], .mk (some 64) (.pick (.tmp 61) (.tmp 63) (.const (.bool false))) none [7, 9], .mk (some 2) (.mv (.tmp 64)) none [10, 9, 0, 1, 2, 3, 4, 5, 6, 7, 8, 9, 10]]
def l6 : AFn :=
  (AFn.mk 65 1 (.seq (.reg l6r0) (.seq (.seq (.reg l6r1) (.cond (.tmp 10) (.seq (.reg l6r2) .ret) .skip)) (.seq (.reg l6r3) (.seq (.reg l6r4) (.seq (.seq (.reg l6r5) (.cond (.tmp 24) (.seq (.reg l6r6) .ret) .skip)) (.seq (.reg l6r7) (.seq (.seq (.reg l6r8) (.block 0 (.loop (.seq (.seq (.reg l6r9) (.cond (.tmp 34) .skip (.exit 0))) (.seq (.block 1 (.seq (.reg l6r10) (.block 2 (.loop (.seq (.seq (.reg l6r11) (.cond (.tmp 43) .skip (.exit 2))) (.seq (.block 3 (.seq (.reg l6r12) (.cond (.tmp 53) (.seq (.reg l6r13) .ret) .skip))) (.reg l6r14))))))) (.reg l6r15)))))) (.seq (.reg l6r16) .ret)))))))) [.tmp 2])
theorem l6_eq : lowFn Tryd.prog 6 = some l6 := by kernel_rfl
def l13r0 : List AOper :=
  [.mk (some 2) (.alloc [.slice none 0 0, .bool false, .bool false]) none []]
def l13r1 : List AOper :=
  [.mk (some 3) (.mv (.tmp 0)) none [], .mk (some 4) (.call 55 [.tmp 3]) none [0], .mk (some 5) (.call 54 [.tmp 4]) none [1, 1], .mk none (.store 3 (.tmp 2) (.tmp 5)) none [2, 2, 0, 1, 2]]
def l13 : AFn :=
  (AFn.mk 6 1 (.seq (.reg l13r0) (.seq (.reg l13r1) .ret)) [.cell 2 true 3])
theorem l13_eq : lowFn Tryd.prog 13 = some l13 := by kernel_rfl
def l14r0 : List AOper :=
  [.mk (some 1) (.box (.tmp 0)) none [], .mk (some 2) (.mv (.const (.bool false))) none []]
def l14r1 : List AOper :=
  [.mk (some 5) (.fld 0 (.tmp 1)) none [], .mk (some 6) (.load false 1 (.tmp 5)) none [0], .mk (some 7) (.len (.tmp 6)) none [1], .mk (some 8) (.bin .lss (.tmp 7) (.const (.int .i64 1))) none [2], .mk (some 9) (.mv (.tmp 8)) none [3], .mk (some 10) (.fld 0 (.tmp 1)) (some (9, false)) [4], .mk (some 11) (.load false 1 (.tmp 10)) (some (9, false)) [5, 4], .mk (some 12) (.len (.tmp 11)) (some (9, false)) [6, 4], .mk (some 13) (.bin .gtr (.tmp 12) (.const (.int .i64 5))) (some (9, false)) [7, 4], .mk (some 14) (.pick (.tmp 9) (.const (.bool true)) (.tmp 13)) none [4, 8]]
def l14r2 : List AOper :=
  [.mk (some 2) (.mv (.const (.bool false))) none []]
def l14r3 : List AOper :=
  [.mk (some 15) (.fld 0 (.tmp 1)) none [], .mk (some 16) (.load false 1 (.tmp 15)) none [0], .mk (some 17) (.len (.tmp 16)) none [1], .mk (some 18) (.mv (.const (.int .i64 0))) none []]
def l14r4 : List AOper :=
  [.mk (some 19) (.bin .lss (.tmp 18) (.tmp 17)) none []]
def l14r5 : List AOper :=
  [.mk (some 20) (.idxA 1 (.tmp 16) (.tmp 18)) none [], .mk (some 21) (.load false 1 (.tmp 20)) none [0], .mk (some 4) (.mv (.tmp 21)) none [1, 0, 1]]
def l14r6 : List AOper :=
  [.mk (some 22) (.mv (.tmp 4)) none [], .mk (some 23) (.call 56 [.tmp 22]) none [0], .mk (some 24) (.un .not (.tmp 23)) none [1]]
def l14r7 : List AOper :=
  [.mk (some 2) (.mv (.const (.bool false))) none []]
def l14r8 : List AOper :=
  [.mk (some 25) (.bin .add (.tmp 18) (.const (.int .i64 1))) none [], .mk (some 18) (.mv (.tmp 25)) none [0]]
def l14r9 : List AOper :=
  [.mk (some 2) (.mv (.const (.bool true))) none []]
def l14 : AFn :=
  (AFn.mk 26 1 (.seq (.reg l14r0) (.seq (.seq (.reg l14r1) (.cond (.tmp 14) (.seq (.reg l14r2) .ret) .skip)) (.seq (.seq (.reg l14r3) (.block 0 (.loop (.seq (.reg l14r4) (.seq (.cond (.tmp 19) .skip (.exit 0)) (.seq (.block 1 (.seq (.reg l14r5) (.seq (.reg l14r6) (.cond (.tmp 24) (.seq (.reg l14r7) .ret) .skip)))) (.reg l14r8))))))) (.seq (.reg l14r9) .ret)))) [.tmp 2])
theorem l14_eq : lowFn Tryd.prog 14 = some l14 := by kernel_rfl
def l15r0 : List AOper :=
  [.mk (some 1) (.box (.tmp 0)) none [], .mk (some 2) (.mv (.const (.bool false))) none []]
def l15r1 : List AOper :=
  [.mk (some 3) (.load true 3 (.tmp 1)) none [], .mk (some 4) (.call 57 [.tmp 3]) none [0], .mk (some 2) (.mv (.tmp 4)) none [1, 1, 0, 1]]
def l15 : AFn :=
  (AFn.mk 5 1 (.seq (.reg l15r0) (.seq (.reg l15r1) .ret)) [.tmp 2])
theorem l15_eq : lowFn Tryd.prog 15 = some l15 := by kernel_rfl
def l16r0 : List AOper :=
  [.mk (some 2) (.alloc [.slice none 0 0, .bool false, .bool false]) none []]
def l16r1 : List AOper :=
  [.mk (some 3) (.mv (.tmp 0)) none [], .mk (some 4) (.call 55 [.tmp 3]) none [0], .mk (some 5) (.call 54 [.tmp 4]) none [1, 1], .mk none (.store 3 (.tmp 2) (.tmp 5)) none [2, 2, 0, 1, 2]]
def l16 : AFn :=
  (AFn.mk 6 1 (.seq (.reg l16r0) (.seq (.reg l16r1) .ret)) [.cell 2 true 3])
theorem l16_eq : lowFn Tryd.prog 16 = some l16 := by kernel_rfl
def l17r0 : List AOper :=
  [.mk (some 1) (.box (.tmp 0)) none [], .mk (some 2) (.mv (.const (.slice none 0 0))) none []]
def l17r1 : List AOper :=
  [.mk (some 6) (.load true 3 (.tmp 1)) none [], .mk (some 7) (.call 14 [.tmp 6]) none [0], .mk (some 8) (.un .not (.tmp 7)) none [1]]
def l17r2 : List AOper :=
  [.mk (some 2) (.mv (.const (.slice none 0 0))) none []]
def l17r3 : List AOper :=
  [.mk (some 3) (.mv (.const (.slice none 0 0))) none []]
def l17r4 : List AOper :=
  [.mk (some 9) (.load true 3 (.tmp 1)) none [], .mk (some 10) (.call 58 [.tmp 9]) none [0], .mk (some 11) (.len (.tmp 10)) none [1], .mk (some 12) (.mv (.const (.int .i64 0))) none []]
def l17r5 : List AOper :=
  [.mk (some 13) (.bin .lss (.tmp 12) (.tmp 11)) none []]
def l17r6 : List AOper :=
  [.mk (some 14) (.idxA 2 (.tmp 10) (.tmp 12)) none [], .mk (some 15) (.load true 2 (.tmp 14)) none [0], .mk (some 5) (.alloc [.int .i64 0, .int .i64 0]) none [], .mk none (.store 2 (.tmp 5) (.tmp 15)) none [2, 1, 0, 1, 2]]
def l17r7 : List AOper :=
  [.mk (some 16) (.mv (.tmp 3)) none [], .mk (some 17) (.fld 0 (.tmp 5)) none [], .mk (some 18) (.load false 1 (.tmp 17)) none [1], .mk (some 19) (.bslice 1 [.int .i64 0] [(0, .tmp 18)] 1) none [2], .mk (some 20) (.append 1 (.tmp 16) (.tmp 19)) none [0, 3], .mk (some 3) (.mv (.tmp 20)) none [4, 4, 0, 1, 2, 3, 4]]
def l17r8 : List AOper :=
  [.mk (some 21) (.bin .add (.tmp 12) (.const (.int .i64 1))) none [], .mk (some 12) (.mv (.tmp 21)) none [0]]
def l17r9 : List AOper :=
  [.mk (some 22) (.mv (.tmp 3)) none [], .mk (some 2) (.mv (.tmp 22)) none [0, 0]]
def l17 : AFn :=
  (AFn.mk 23 1 (.seq (.reg l17r0) (.seq (.seq (.reg l17r1) (.cond (.tmp 8) (.seq (.reg l17r2) .ret) .skip)) (.seq (.reg l17r3) (.seq (.seq (.reg l17r4) (.block 0 (.loop (.seq (.reg l17r5) (.seq (.cond (.tmp 13) .skip (.exit 0)) (.seq (.block 1 (.seq (.reg l17r6) (.reg l17r7))) (.reg l17r8))))))) (.seq (.reg l17r9) .ret))))) [.tmp 2])
theorem l17_eq : lowFn Tryd.prog 17 = some l17 := by kernel_rfl
def l18r0 : List AOper :=
  [.mk (some 4) (.mv (.const (.bool false))) none []]
def l18r1 : List AOper :=
  [.mk (some 6) (.mv (.tmp 0)) none [], .mk (some 7) (.len (.tmp 6)) none [0], .mk (some 8) (.mv (.tmp 1)) none [], .mk (some 9) (.len (.tmp 8)) none [2], .mk (some 10) (.bin .neq (.tmp 7) (.tmp 9)) none [1, 3]]
def l18r2 : List AOper :=
  [.mk (some 4) (.mv (.const (.bool false))) none []]
def l18r3 : List AOper :=
  [.mk (some 5) (.mv (.const (.int .i64 0))) none []]
def l18r4 : List AOper :=
  [.mk (some 11) (.mv (.tmp 5)) none [], .mk (some 12) (.mv (.tmp 0)) none [], .mk (some 13) (.len (.tmp 12)) none [1], .mk (some 14) (.bin .lss (.tmp 11) (.tmp 13)) none [0, 2]]
def l18r5a : List AOper :=
  [.mk (some 17) (.mv (.tmp 0)) none [], .mk (some 18) (.mv (.tmp 5)) none [], .mk (some 19) (.idxA 1 (.tmp 17) (.tmp 18)) none [0, 1], .mk (some 20) (.load false 1 (.tmp 19)) none [2], .mk (some 21) (.mv (.tmp 1)) none [], .mk (some 22) (.mv (.tmp 5)) none [], .mk (some 23) (.idxA 1 (.tmp 21) (.tmp 22)) none [4, 5], .mk (some 24) (.load false 1 (.tmp 23)) none [6]]
def l18r5b : List AOper :=
  [.mk (some 25) (.bin .neq (.tmp 20) (.tmp 24)) none [3, 7]]
def l18r5 : List AOper := l18r5a ++ l18r5b
def l18r6 : List AOper :=
  [.mk (some 4) (.mv (.const (.bool false))) none []]
def l18r7 : List AOper :=
  [.mk (some 15) (.mv (.tmp 5)) none [], .mk (some 16) (.bin .add (.tmp 15) (.const (.int .i64 1))) none [0], .mk (some 5) (.mv (.tmp 16)) none [1, 0, 1]]
def l18r8 : List AOper :=
  [.mk (some 4) (.mv (.const (.bool true))) none []]
def l18 : AFn :=
  (AFn.mk 26 2 (.seq (.reg l18r0) (.seq (.seq (.reg l18r1) (.cond (.tmp 10) (.seq (.reg l18r2) .ret) .skip)) (.seq (.seq (.reg l18r3) (.block 0 (.loop (.seq (.seq (.reg l18r4) (.cond (.tmp 14) .skip (.exit 0))) (.seq (.block 1 (.seq (.draw l18r5) (.cond (.tmp 25) (.seq (.reg l18r6) .ret) .skip))) (.reg l18r7)))))) (.seq (.reg l18r8) .ret)))) [.tmp 4])
theorem l18_eq : lowFn Tryd.prog 18 = some l18 := by kernel_rfl
def l19r0 : List AOper :=
  [.mk (some 1) (.box (.tmp 0)) none [], .mk (some 2) (.mv (.const (.slice none 0 0))) none []]
def l19r1 : List AOper :=
  [.mk (some 5) (.load true 3 (.tmp 1)) none [], .mk (some 6) (.call 57 [.tmp 5]) none [0], .mk (some 7) (.un .not (.tmp 6)) none [1]]
def l19r2 : List AOper :=
  [.mk (some 2) (.mv (.const (.slice none 0 0))) none []]
def l19r3 : List AOper :=
  [.mk (some 9) (.load true 3 (.tmp 1)) none [], .mk (some 10) (.call 59 [.tmp 9]) none [0], .mk (some 8) (.mv (.tmp 10)) none [1], .mk (some 11) (.extract (.tmp 8) 0) none [2], .mk (some 12) (.extract (.tmp 8) 1) none [2], .mk (some 3) (.mv (.tmp 11)) none [3, 1, 0, 1, 2, 3], .mk (some 4) (.mv (.tmp 12)) none [4, 5, 0, 1, 2, 3, 4, 5]]
def l19r4 : List AOper :=
  [.mk (some 13) (.mv (.tmp 3)) none [], .mk (some 2) (.mv (.tmp 13)) none [0, 0]]
def l19 : AFn :=
  (AFn.mk 14 1 (.seq (.reg l19r0) (.seq (.seq (.reg l19r1) (.cond (.tmp 7) (.seq (.reg l19r2) .ret) .skip)) (.seq (.reg l19r3) (.seq (.reg l19r4) .ret)))) [.tmp 2])
theorem l19_eq : lowFn Tryd.prog 19 = some l19 := by kernel_rfl
def l20r0 : List AOper :=
  [.mk (some 2) (.alloc [.slice none 0 0, .bool false, .bool false]) none []]
def l20r1 : List AOper :=
  [.mk (some 3) (.mv (.tmp 0)) none [], .mk (some 4) (.call 55 [.tmp 3]) none [0], .mk (some 5) (.call 54 [.tmp 4]) none [1, 1], .mk none (.store 3 (.tmp 2) (.tmp 5)) none [2, 2, 0, 1, 2]]
def l20 : AFn :=
  (AFn.mk 6 1 (.seq (.reg l20r0) (.seq (.reg l20r1) .ret)) [.cell 2 true 3])
theorem l20_eq : lowFn Tryd.prog 20 = some l20 := by kernel_rfl
def l21r0 : List AOper :=
  [.mk (some 1) (.box (.tmp 0)) none [], .mk (some 2) (.mv (.const (.int .i64 0))) none []]
def l21r1 : List AOper :=
  [.mk (some 3) (.load true 3 (.tmp 1)) none [], .mk (some 4) (.call 14 [.tmp 3]) none [0], .mk (some 5) (.un .not (.tmp 4)) none [1]]
def l21r2 : List AOper :=
  [.mk (some 2) (.mv (.const (.int .i64 (-1)))) none []]
def l21r3 : List AOper :=
  [.mk (some 6) (.load true 3 (.tmp 1)) none [], .mk (some 7) (.call 60 [.tmp 6]) none [0], .mk (some 2) (.mv (.tmp 7)) none [1, 1, 0, 1]]
def l21 : AFn :=
  (AFn.mk 8 1 (.seq (.reg l21r0) (.seq (.seq (.reg l21r1) (.cond (.tmp 5) (.seq (.reg l21r2) .ret) .skip)) (.seq (.reg l21r3) .ret))) [.tmp 2])
theorem l21_eq : lowFn Tryd.prog 21 = some l21 := by kernel_rfl
def l22r0 : List AOper :=
  [.mk (some 1) (.box (.tmp 0)) none [], .mk (some 2) (.mv (.const (.int .i64 0))) none []]
def l22r1 : List AOper :=
  [.mk (some 5) (.load true 3 (.tmp 1)) none [], .mk (some 6) (.call 57 [.tmp 5]) none [0], .mk (some 7) (.un .not (.tmp 6)) none [1]]
def l22r2 : List AOper :=
  [.mk (some 2) (.mv (.const (.int .i64 (-1)))) none []]
def l22r3 : List AOper :=
  [.mk (some 9) (.load true 3 (.tmp 1)) none [], .mk (some 10) (.call 59 [.tmp 9]) none [0], .mk (some 8) (.mv (.tmp 10)) none [1], .mk (some 11) (.extract (.tmp 8) 0) none [2], .mk (some 12) (.extract (.tmp 8) 1) none [2], .mk (some 3) (.mv (.tmp 11)) none [3, 1, 0, 1, 2, 3], .mk (some 4) (.mv (.tmp 12)) none [4, 5, 0, 1, 2, 3, 4, 5]]
def l22r4 : List AOper :=
  [.mk (some 13) (.mv (.tmp 4)) none [], .mk (some 2) (.mv (.tmp 13)) none [0, 0]]
def l22 : AFn :=
  (AFn.mk 14 1 (.seq (.reg l22r0) (.seq (.seq (.reg l22r1) (.cond (.tmp 7) (.seq (.reg l22r2) .ret) .skip)) (.seq (.reg l22r3) (.seq (.reg l22r4) .ret)))) [.tmp 2])
theorem l22_eq : lowFn Tryd.prog 22 = some l22 := by kernel_rfl
def l23r0 : List AOper :=
  [.mk (some 2) (.mv (.const (.int .i64 0))) none []]
def l23r1 : List AOper :=
  [.mk (some 3) (.mv (.const (.int .i64 0))) none []]
def l23r2 : List AOper :=
  [.mk (some 4) (.mv (.const (.int .i64 0))) none []]
def l23r3 : List AOper :=
  [.mk (some 5) (.mv (.tmp 4)) none [], .mk (some 6) (.mv (.tmp 0)) none [], .mk (some 7) (.len (.tmp 6)) none [1], .mk (some 8) (.bin .lss (.tmp 5) (.tmp 7)) none [0, 2]]
def l23r4 : List AOper :=
  [.mk (some 11) (.mv (.tmp 3)) none [], .mk (some 12) (.mv (.tmp 0)) none [], .mk (some 13) (.mv (.tmp 4)) none [], .mk (some 14) (.idxA 1 (.tmp 12) (.tmp 13)) none [1, 2], .mk (some 15) (.load false 1 (.tmp 14)) none [3], .mk (some 16) (.bin .add (.tmp 11) (.tmp 15)) none [0, 4], .mk (some 3) (.mv (.tmp 16)) none [5, 0, 1, 2, 3, 4, 5]]
def l23r5 : List AOper :=
  [.mk (some 9) (.mv (.tmp 4)) none [], .mk (some 10) (.bin .add (.tmp 9) (.const (.int .i64 1))) none [0], .mk (some 4) (.mv (.tmp 10)) none [1, 0, 1]]
def l23r6 : List AOper :=
  [.mk (some 17) (.mv (.tmp 3)) none [], .mk (some 2) (.mv (.tmp 17)) none [0, 0]]
def l23 : AFn :=
  (AFn.mk 18 1 (.seq (.reg l23r0) (.seq (.reg l23r1) (.seq (.seq (.reg l23r2) (.block 0 (.loop (.seq (.seq (.reg l23r3) (.cond (.tmp 8) .skip (.exit 0))) (.seq (.block 1 (.reg l23r4)) (.reg l23r5)))))) (.seq (.reg l23r6) .ret)))) [.tmp 2])
theorem l23_eq : lowFn Tryd.prog 23 = some l23 := by kernel_rfl
def l24r0 : List AOper :=
  [.mk (some 1) (.box (.tmp 0)) none [], .mk (some 2) (.mv (.const (.slice none 0 0))) none []]
def l24r1 : List AOper :=
  [.mk (some 7) (.load true 3 (.tmp 1)) none [], .mk (some 8) (.call 14 [.tmp 7]) none [0], .mk (some 9) (.un .not (.tmp 8)) none [1]]
def l24r2 : List AOper :=
  [.mk (some 2) (.mv (.const (.slice none 0 0))) none []]
def l24r3 : List AOper :=
  [.mk (some 3) (.mv (.const (.slice none 0 0))) none []]
def l24r4 : List AOper :=
  [.mk (some 4) (.mv (.const (.int .i64 0))) none []]
def l24r5 : List AOper :=
  [.mk (some 10) (.load true 3 (.tmp 1)) none [], .mk (some 11) (.call 58 [.tmp 10]) none [0], .mk (some 12) (.len (.tmp 11)) none [1], .mk (some 13) (.mv (.const (.int .i64 0))) none []]
def l24r6 : List AOper :=
  [.mk (some 14) (.bin .lss (.tmp 13) (.tmp 12)) none []]
def l24r7 : List AOper :=
  [.mk (some 15) (.idxA 2 (.tmp 11) (.tmp 13)) none [], .mk (some 16) (.load true 2 (.tmp 15)) none [0], .mk (some 6) (.alloc [.int .i64 0, .int .i64 0]) none [], .mk none (.store 2 (.tmp 6) (.tmp 16)) none [2, 1, 0, 1, 2]]
def l24r8 : List AOper :=
  [.mk (some 17) (.mv (.tmp 3)) none [], .mk (some 18) (.mv (.tmp 4)) none [], .mk (some 19) (.fld 0 (.tmp 6)) none [], .mk (some 20) (.load false 1 (.tmp 19)) none [2], .mk (some 21) (.build [.int .i64 0, .int .i64 0, .int .i64 0] [(0, 1, .tmp 18), (1, 1, .tmp 20), (2, 1, .const (.int .i64 1))]) none [1, 3], .mk (some 22) (.call 61 [.tmp 21]) none [4], .mk (some 23) (.append 1 (.tmp 17) (.tmp 22)) none [0, 5, 5], .mk (some 3) (.mv (.tmp 23)) none [6, 6, 0, 1, 2, 3, 4, 5, 6]]
def l24r9 : List AOper :=
  [.mk (some 24) (.load true 2 (.tmp 6)) none [], .mk (some 25) (.call 62 [.tmp 24]) none [0], .mk (some 4) (.mv (.tmp 25)) none [1, 1, 0, 1]]
def l24r10 : List AOper :=
  [.mk (some 26) (.bin .add (.tmp 13) (.const (.int .i64 1))) none [], .mk (some 13) (.mv (.tmp 26)) none [0]]
def l24r11 : List AOper :=
  [.mk (some 27) (.mv (.tmp 3)) none [], .mk (some 28) (.mv (.tmp 4)) none [], .mk (some 29) (.load true 3 (.tmp 1)) none [], .mk (some 30) (.call 60 [.tmp 29]) none [2], .mk (some 31) (.build [.int .i64 0, .int .i64 0, .int .i64 0] [(0, 1, .tmp 28), (1, 1, .tmp 30), (2, 1, .const (.int .i64 1))]) none [1, 3], .mk (some 32) (.call 61 [.tmp 31]) none [4, 3], .mk (some 33) (.append 1 (.tmp 27) (.tmp 32)) none [0, 5, 5], .mk (some 2) (.mv (.tmp 33)) none [6, 6, 0, 1, 2, 3, 4, 5, 6]]
def l24 : AFn :=
  (AFn.mk 34 1 (.seq (.reg l24r0) (.seq (.seq (.reg l24r1) (.cond (.tmp 9) (.seq (.reg l24r2) .ret) .skip)) (.seq (.reg l24r3) (.seq (.reg l24r4) (.seq (.seq (.reg l24r5) (.block 0 (.loop (.seq (.reg l24r6) (.seq (.cond (.tmp 14) .skip (.exit 0)) (.seq (.block 1 (.seq (.reg l24r7) (.seq (.reg l24r8) (.reg l24r9)))) (.reg l24r10))))))) (.seq (.reg l24r11) .ret)))))) [.tmp 2])
theorem l24_eq : lowFn Tryd.prog 24 = some l24 := by kernel_rfl
def l25r0 : List AOper :=
  [.mk (some 2) (.alloc [.slice none 0 0, .bool false, .bool false]) none []]
def l25r1 : List AOper :=
  [.mk (some 3) (.mv (.tmp 0)) none [], .mk (some 4) (.call 55 [.tmp 3]) none [0], .mk (some 5) (.call 54 [.tmp 4]) none [1, 1], .mk none (.store 3 (.tmp 2) (.tmp 5)) none [2, 2, 0, 1, 2]]
def l25 : AFn :=
  (AFn.mk 6 1 (.seq (.reg l25r0) (.seq (.reg l25r1) .ret)) [.cell 2 true 3])
theorem l25_eq : lowFn Tryd.prog 25 = some l25 := by kernel_rfl
def l26r0 : List AOper :=
  [.mk (some 1) (.box (.tmp 0)) none [], .mk (some 2) (.mv (.const (.slice none 0 0))) none []]
def l26r1 : List AOper :=
  [.mk (some 9) (.load true 3 (.tmp 1)) none [], .mk (some 10) (.call 57 [.tmp 9]) none [0], .mk (some 11) (.un .not (.tmp 10)) none [1]]
def l26r2 : List AOper :=
  [.mk (some 2) (.mv (.const (.slice none 0 0))) none []]
def l26r3 : List AOper :=
  [.mk (some 13) (.load true 3 (.tmp 1)) none [], .mk (some 14) (.call 59 [.tmp 13]) none [0], .mk (some 12) (.mv (.tmp 14)) none [1], .mk (some 15) (.extract (.tmp 12) 0) none [2], .mk (some 16) (.extract (.tmp 12) 1) none [2], .mk (some 3) (.mv (.tmp 15)) none [3, 1, 0, 1, 2, 3], .mk (some 4) (.mv (.tmp 16)) none [4, 5, 0, 1, 2, 3, 4, 5]]
def l26r4 : List AOper :=
  [.mk (some 17) (.bslice 1 [.int .i64 0] [] 0) none [], .mk (some 5) (.mv (.tmp 17)) none [0, 0]]
def l26r5 : List AOper :=
  [.mk (some 6) (.mv (.const (.int .i64 0))) none []]
def l26r6 : List AOper :=
  [.mk (some 18) (.mv (.tmp 6)) none [], .mk (some 19) (.mv (.tmp 4)) none [], .mk (some 20) (.bin .lss (.tmp 18) (.tmp 19)) none [0, 1]]
def l26r7 : List AOper :=
  [.mk (some 7) (.mv (.const (.bool false))) none []]
def l26r8 : List AOper :=
  [.mk (some 8) (.mv (.const (.int .i64 0))) none []]
def l26r9 : List AOper :=
  [.mk (some 23) (.mv (.tmp 8)) none [], .mk (some 24) (.mv (.tmp 3)) none [], .mk (some 25) (.len (.tmp 24)) none [1], .mk (some 26) (.bin .lss (.tmp 23) (.tmp 25)) none [0, 2]]
def l26r10a : List AOper :=
  [.mk (some 29) (.mv (.tmp 7)) none [], .mk (some 30) (.mv (.tmp 29)) none [0], .mk (some 31) (.mv (.tmp 6)) (some (30, false)) [1], .mk (some 32) (.mv (.tmp 3)) (some (30, false)) [1], .mk (some 33) (.mv (.tmp 8)) (some (30, false)) [1], .mk (some 34) (.idxA 1 (.tmp 32) (.tmp 33)) (some (30, false)) [3, 4, 1], .mk (some 35) (.load false 1 (.tmp 34)) (some (30, false)) [5, 1], .mk (some 36) (.mv (.tmp 3)) (some (30, false)) [1], .mk (some 37) (.mv (.tmp 8)) (some (30, false)) [1], .mk (some 38) (.idxA 1 (.tmp 36) (.tmp 37)) (some (30, false)) [7, 8, 1], .mk (some 39) (.load false 1 (.tmp 38)) (some (30, false)) [9, 1], .mk (some 40) (.fld 0 (.tmp 1)) (some (30, false)) [1], .mk (some 41) (.load false 1 (.tmp 40)) (some (30, false)) [11, 1], .mk (some 42) (.mv (.tmp 8)) (some (30, false)) [1], .mk (some 43) (.idxA 1 (.tmp 41) (.tmp 42)) (some (30, false)) [12, 13, 1], .mk (some 44) (.load false 1 (.tmp 43)) (some (30, false)) [14, 1], .mk (some 45) (.bin .add (.tmp 39) (.tmp 44)) (some (30, false)) [10, 15, 1], .mk (some 46) (.bin .sub (.tmp 45) (.const (.int .i64 1))) (some (30, false)) [16, 1]]
def l26r10b : List AOper :=
  [.mk (some 47) (.call 63 [.tmp 31, .tmp 35, .tmp 46]) (some (30, false)) [2, 6, 17, 1, 1], .mk (some 48) (.pick (.tmp 30) (.const (.bool true)) (.tmp 47)) none [1, 18], .mk (some 7) (.mv (.tmp 48)) none [19, 18, 0, 1, 2, 3, 4, 5, 6, 7, 8, 9, 10, 11, 12, 13, 14, 15, 16, 17, 18, 19]]
def l26r10 : List AOper := l26r10a ++ l26r10b
def l26r11 : List AOper :=
  [.mk (some 27) (.mv (.tmp 8)) none [], .mk (some 28) (.bin .add (.tmp 27) (.const (.int .i64 1))) none [0], .mk (some 8) (.mv (.tmp 28)) none [1, 0, 1]]
def l26r12 : List AOper :=
  [.mk (some 49) (.mv (.tmp 7)) none [], .mk (some 50) (.un .not (.tmp 49)) none [0]]
def l26r13 : List AOper :=
  [.mk (some 51) (.mv (.tmp 5)) none [], .mk (some 52) (.mv (.tmp 6)) none [], .mk (some 53) (.bslice 1 [.int .i64 0] [(0, .tmp 52)] 1) none [1], .mk (some 54) (.append 1 (.tmp 51) (.tmp 53)) none [0, 2], .mk (some 5) (.mv (.tmp 54)) none [3, 3, 0, 1, 2, 3]]
def l26r14 : List AOper :=
  [.mk (some 21) (.mv (.tmp 6)) none [], .mk (some 22) (.bin .add (.tmp 21) (.const (.int .i64 1))) none [0], .mk (some 6) (.mv (.tmp 22)) none [1, 0, 1]]
def l26r15 : List AOper :=
  [.mk (some 55) (.mv (.tmp 5)) none [], .mk (some 2) (.mv (.tmp 55)) none [0, 0]]
def l26 : AFn :=
  (AFn.mk 56 1 (.seq (.reg l26r0) (.seq (.seq (.reg l26r1) (.cond (.tmp 11) (.seq (.reg l26r2) .ret) .skip)) (.seq (.reg l26r3) (.seq (.reg l26r4) (.seq (.seq (.reg l26r5) (.block 0 (.loop (.seq (.seq (.reg l26r6) (.cond (.tmp 20) .skip (.exit 0))) (.seq (.block 1 (.seq (.reg l26r7) (.seq (.seq (.reg l26r8) (.block 2 (.loop (.seq (.seq (.reg l26r9) (.cond (.tmp 26) .skip (.exit 2))) (.seq (.block 3 (.draw l26r10)) (.reg l26r11)))))) (.seq (.reg l26r12) (.cond (.tmp 50) (.reg l26r13) .skip))))) (.reg l26r14)))))) (.seq (.reg l26r15) .ret)))))) [.tmp 2])
theorem l26_eq : lowFn Tryd.prog 26 = some l26 := by kernel_rfl
def l27r0 : List AOper :=
  [.mk (some 4) (.mv (.const (.bool false))) none []]
def l27r1 : List AOper :=
  [.mk (some 5) (.mv (.const (.int .i64 0))) none []]
def l27r2 : List AOper :=
  [.mk (some 6) (.mv (.tmp 5)) none [], .mk (some 7) (.mv (.tmp 0)) none [], .mk (some 8) (.len (.tmp 7)) none [1], .mk (some 9) (.bin .lss (.tmp 6) (.tmp 8)) none [0, 2]]
def l27r3 : List AOper :=
  [.mk (some 12) (.mv (.tmp 0)) none [], .mk (some 13) (.mv (.tmp 5)) none [], .mk (some 14) (.idxA 1 (.tmp 12) (.tmp 13)) none [0, 1], .mk (some 15) (.load false 1 (.tmp 14)) none [2], .mk (some 16) (.mv (.tmp 1)) none [], .mk (some 17) (.bin .eql (.tmp 15) (.tmp 16)) none [3, 4]]
def l27r4 : List AOper :=
  [.mk (some 4) (.mv (.const (.bool true))) none []]
def l27r5 : List AOper :=
  [.mk (some 10) (.mv (.tmp 5)) none [], .mk (some 11) (.bin .add (.tmp 10) (.const (.int .i64 1))) none [0], .mk (some 5) (.mv (.tmp 11)) none [1, 0, 1]]
def l27r6 : List AOper :=
  [.mk (some 4) (.mv (.const (.bool false))) none []]
def l27 : AFn :=
  (AFn.mk 18 2 (.seq (.reg l27r0) (.seq (.seq (.reg l27r1) (.block 0 (.loop (.seq (.seq (.reg l27r2) (.cond (.tmp 9) .skip (.exit 0))) (.seq (.block 1 (.seq (.reg l27r3) (.cond (.tmp 17) (.seq (.reg l27r4) .ret) .skip))) (.reg l27r5)))))) (.seq (.reg l27r6) .ret))) [.tmp 4])
theorem l27_eq : lowFn Tryd.prog 27 = some l27 := by kernel_rfl
def l28r0 : List AOper :=
  [.mk (some 2) (.mv (.const (.bool false))) none []]
def l28r1 : List AOper :=
  [.mk (some 3) (.mv (.const (.int .i64 1))) none []]
def l28r2 : List AOper :=
  [.mk (some 4) (.mv (.tmp 3)) none [], .mk (some 5) (.mv (.tmp 0)) none [], .mk (some 6) (.len (.tmp 5)) none [1], .mk (some 7) (.bin .lss (.tmp 4) (.tmp 6)) none [0, 2]]
def l28r3a : List AOper :=
  [.mk (some 10) (.mv (.tmp 0)) none [], .mk (some 11) (.mv (.tmp 3)) none [], .mk (some 12) (.idxA 1 (.tmp 10) (.tmp 11)) none [0, 1], .mk (some 13) (.load false 1 (.tmp 12)) none [2], .mk (some 14) (.mv (.tmp 0)) none [], .mk (some 15) (.mv (.tmp 3)) none [], .mk (some 16) (.bin .sub (.tmp 15) (.const (.int .i64 1))) none [5], .mk (some 17) (.idxA 1 (.tmp 14) (.tmp 16)) none [4, 6], .mk (some 18) (.load false 1 (.tmp 17)) none [7]]
def l28r3b : List AOper :=
  [.mk (some 19) (.bin .leq (.tmp 13) (.tmp 18)) none [3, 8]]
def l28r3 : List AOper := l28r3a ++ l28r3b
def l28r4 : List AOper :=
  [.mk (some 2) (.mv (.const (.bool false))) none []]
def l28r5 : List AOper :=
  [.mk (some 8) (.mv (.tmp 3)) none [], .mk (some 9) (.bin .add (.tmp 8) (.const (.int .i64 1))) none [0], .mk (some 3) (.mv (.tmp 9)) none [1, 0, 1]]
def l28r6 : List AOper :=
  [.mk (some 2) (.mv (.const (.bool true))) none []]
def l28 : AFn :=
  (AFn.mk 20 1 (.seq (.reg l28r0) (.seq (.seq (.reg l28r1) (.block 0 (.loop (.seq (.seq (.reg l28r2) (.cond (.tmp 7) .skip (.exit 0))) (.seq (.block 1 (.seq (.draw l28r3) (.cond (.tmp 19) (.seq (.reg l28r4) .ret) .skip))) (.reg l28r5)))))) (.seq (.reg l28r6) .ret))) [.tmp 2])
theorem l28_eq : lowFn Tryd.prog 28 = some l28 := by kernel_rfl
def l54r0 : List AOper :=
  [.mk (some 2) (.alloc [.slice none 0 0, .bool false, .bool false]) none []]
def l54r1 : List AOper :=
  [.mk (some 5) (.mv (.tmp 0)) none [], .mk (some 6) (.call 85 [.tmp 5, .const (.int .i64 2)]) none [0], .mk (some 7) (.bin .eql (.tmp 6) (.const (.int .i64 0))) none [1], .mk (some 8) (.mv (.tmp 0)) none [], .mk (some 9) (.call 85 [.tmp 8, .const (.int .i64 2)]) none [3, 1], .mk (some 10) (.bin .eql (.tmp 9) (.const (.int .i64 0))) none [4], .mk (some 11) (.build [.slice none 0 0, .bool false, .bool false] [(1, 1, .tmp 7), (2, 1, .tmp 10)]) none [2, 5], .mk (some 3) (.alloc [.slice none 0 0, .bool false, .bool false]) none [], .mk none (.store 3 (.tmp 3) (.tmp 11)) none [7, 6, 4, 0, 1, 2, 3, 4, 5, 6, 7]]
def l54r2 : List AOper :=
  [.mk (some 12) (.mv (.tmp 0)) none [], .mk (some 13) (.bslice 1 [.int .i64 0] [(0, .const (.int .i64 2)), (1, .const (.int .i64 3)), (2, .const (.int .i64 1)), (3, .const (.int .i64 4)), (4, .const (.int .i64 5))] 5) none [], .mk (some 14) (.call 75 [.tmp 12, .tmp 13]) none [0, 1], .mk (some 4) (.mv (.tmp 14)) none [2, 2, 0, 1, 2]]
def l54r3 : List AOper :=
  [.mk (some 15) (.mv (.tmp 4)) none [], .mk (some 16) (.bin .gtr (.tmp 15) (.const (.int .i64 0))) none [0]]
def l54r4a : List AOper :=
  [.mk (some 19) (.fld 0 (.tmp 3)) none [], .mk (some 20) (.load false 1 (.tmp 19)) none [0], .mk (some 21) (.mv (.tmp 0)) none [], .mk (some 22) (.bslice 1 [.int .i64 0] [(0, .const (.int .i64 1)), (1, .const (.int .i64 2)), (2, .const (.int .i64 4)), (3, .const (.int .i64 1)), (4, .const (.int .i64 2))] 5) none [], .mk (some 23) (.call 75 [.tmp 21, .tmp 22]) none [2, 3], .mk (some 24) (.bslice 1 [.int .i64 0] [(0, .tmp 23)] 1) none [4]]
def l54r4b : List AOper :=
  [.mk (some 25) (.append 1 (.tmp 20) (.tmp 24)) none [1, 5, 4], .mk (some 26) (.fld 0 (.tmp 3)) none [0, 1, 2, 3, 4, 5, 6], .mk none (.store 1 (.tmp 26) (.tmp 25)) none [7, 6, 6, 0, 1, 2, 3, 4, 5, 6]]
def l54r4 : List AOper := l54r4a ++ l54r4b
def l54r5 : List AOper :=
  [.mk (some 17) (.mv (.tmp 4)) none [], .mk (some 18) (.bin .sub (.tmp 17) (.const (.int .i64 1))) none [0], .mk (some 4) (.mv (.tmp 18)) none [1, 0, 1]]
def l54r6 : List AOper :=
  [.mk (some 27) (.mv (.tmp 0)) none [], .mk (some 28) (.call 85 [.tmp 27, .const (.int .i64 20)]) none [0]]
def l54r7 : List AOper :=
  [.mk (some 30) (.bin .eql (.tmp 28) (.const (.int .i64 0))) none [], .mk (some 29) (.mv (.tmp 30)) none [0]]
def l54r8a : List AOper :=
  [.mk (some 31) (.fld 0 (.tmp 3)) none [], .mk (some 32) (.load false 1 (.tmp 31)) none [0], .mk (some 33) (.mv (.tmp 0)) none [], .mk (some 34) (.bslice 1 [.int .i64 0] [(0, .const (.int .i64 3)), (1, .const (.int .i64 0)), (2, .const (.int .i64 8))] 3) none [], .mk (some 35) (.call 75 [.tmp 33, .tmp 34]) none [2, 3]]
def l54r8b : List AOper :=
  [.mk (some 36) (.idxA 1 (.tmp 32) (.const (.int .i64 0))) none [1, 0, 1, 2, 3, 4], .mk none (.store 1 (.tmp 36) (.tmp 35)) none [5, 4, 4, 0, 1, 2, 3, 4]]
def l54r8 : List AOper := l54r8a ++ l54r8b
def l54r9 : List AOper :=
  [.mk (some 38) (.bin .eql (.tmp 28) (.const (.int .i64 1))) none [], .mk (some 37) (.mv (.tmp 38)) none [0]]
def l54r10 : List AOper :=
  [.mk (some 39) (.fld 0 (.tmp 3)) none [], .mk none (.store 1 (.tmp 39) (.const (.slice none 0 0))) none [0]]
def l54r11 : List AOper :=
  [.mk (some 40) (.load true 3 (.tmp 3)) none [], .mk none (.store 3 (.tmp 2) (.tmp 40)) none [0, 0]]
def l54 : AFn :=
  (AFn.mk 41 1 (.seq (.reg l54r0) (.seq (.reg l54r1) (.seq (.seq (.reg l54r2) (.block 0 (.loop (.seq (.seq (.reg l54r3) (.cond (.tmp 16) .skip (.exit 0))) (.seq (.block 1 (.draw l54r4)) (.reg l54r5)))))) (.seq (.seq (.reg l54r6) (.block 2 (.seq (.reg l54r7) (.cond (.tmp 29) (.draw l54r8) (.seq (.reg l54r9) (.cond (.tmp 37) (.reg l54r10) .skip)))))) (.seq (.reg l54r11) .ret))))) [.cell 2 true 3])
theorem l54_eq : lowFn Tryd.prog 54 = some l54 := by kernel_rfl
def l55r0 : List AOper :=
  [.mk (some 2) (.mv (.const (.pointer none))) none []]
def l55r1 : List AOper :=
  [.mk (some 3) (.mv (.tmp 0)) none [], .mk (some 4) (.len (.tmp 3)) none [0], .mk (some 5) (.bin .gtr (.tmp 4) (.const (.int .i64 2000))) none [1]]
def l55r2 : List AOper :=
  [.mk (some 6) (.mv (.tmp 0)) none [], .mk (some 7) (.slice 1 (.tmp 6) none (some (.const (.int .i64 2000)))) none [0], .mk (some 0) (.mv (.tmp 7)) none [1, 0, 1]]
def l55r3 : List AOper :=
  [.mk (some 8) (.mv (.tmp 0)) none [], .mk (some 9) (.build [.slice none 0 0, .int .i64 0] [(0, 1, .tmp 8)]) none [0], .mk (some 10) (.box (.tmp 9)) none [1], .mk (some 2) (.mv (.tmp 10)) none [2, 0, 1, 2]]
def l55 : AFn :=
  (AFn.mk 11 1 (.seq (.reg l55r0) (.seq (.seq (.reg l55r1) (.cond (.tmp 5) (.reg l55r2) .skip)) (.seq (.reg l55r3) .ret))) [.tmp 2])
theorem l55_eq : lowFn Tryd.prog 55 = some l55 := by kernel_rfl
def l56r0 : List AOper :=
  [.mk (some 2) (.mv (.const (.bool false))) none []]
def l56r1 : List AOper :=
  [.mk (some 5) (.load true 3 (.global 0)) none [], .mk (some 6) (.mv (.const (.int .i64 0))) none []]
def l56r2 : List AOper :=
  [.mk (some 7) (.bin .lss (.tmp 6) (.const (.int .i64 3))) none []]
def l56r3 : List AOper :=
  [.mk (some 8) (.raw (Op.index 95 (.tmp 5) (.tmp 6))) none [], .mk (some 4) (.mv (.tmp 8)) none [0, 0]]
def l56r4 : List AOper :=
  [.mk (some 9) (.mv (.tmp 0)) none [], .mk (some 10) (.mv (.tmp 4)) none [], .mk (some 11) (.bin .eql (.tmp 9) (.tmp 10)) none [0, 1]]
def l56r5 : List AOper :=
  [.mk (some 2) (.mv (.const (.bool true))) none []]
def l56r6 : List AOper :=
  [.mk (some 12) (.bin .add (.tmp 6) (.const (.int .i64 1))) none [], .mk (some 6) (.mv (.tmp 12)) none [0]]
def l56r7 : List AOper :=
  [.mk (some 2) (.mv (.const (.bool false))) none []]
def l56 : AFn :=
  (AFn.mk 13 1 (.seq (.reg l56r0) (.seq (.seq (.reg l56r1) (.block 0 (.loop (.seq (.reg l56r2) (.seq (.cond (.tmp 7) .skip (.exit 0)) (.seq (.block 1 (.seq (.reg l56r3) (.seq (.reg l56r4) (.cond (.tmp 11) (.seq (.reg l56r5) .ret) .skip)))) (.reg l56r6))))))) (.seq (.reg l56r7) .ret))) [.tmp 2])
theorem l56_eq : lowFn Tryd.prog 56 = some l56 := by kernel_rfl
def l57r0 : List AOper :=
  [.mk (some 1) (.box (.tmp 0)) none [], .mk (some 2) (.mv (.const (.bool false))) none []]
def l57r1 : List AOper :=
  [.mk (some 3) (.mv (.const (.int .i64 0))) none []]
def l57r2 : List AOper :=
  [.mk (some 4) (.mv (.tmp 3)) none [], .mk (some 5) (.fld 0 (.tmp 1)) none [], .mk (some 6) (.load false 1 (.tmp 5)) none [1], .mk (some 7) (.len (.tmp 6)) none [2], .mk (some 8) (.bin .lss (.tmp 4) (.tmp 7)) none [0, 3]]
def l57r3 : List AOper :=
  [.mk (some 11) (.fld 0 (.tmp 1)) none [], .mk (some 12) (.load false 1 (.tmp 11)) none [0], .mk (some 13) (.mv (.tmp 3)) none [], .mk (some 14) (.idxA 1 (.tmp 12) (.tmp 13)) none [1, 2], .mk (some 15) (.load false 1 (.tmp 14)) none [3], .mk (some 16) (.bin .neq (.tmp 15) (.const (.int .i64 1))) none [4], .mk (some 17) (.mv (.tmp 16)) none [5], .mk (some 18) (.fld 0 (.tmp 1)) (some (17, true)) [6], .mk (some 19) (.load false 1 (.tmp 18)) (some (17, true)) [7, 6], .mk (some 20) (.mv (.tmp 3)) (some (17, true)) [6], .mk (some 21) (.idxA 1 (.tmp 19) (.tmp 20)) (some (17, true)) [8, 9, 6], .mk (some 22) (.load false 1 (.tmp 21)) (some (17, true)) [10, 6], .mk (some 23) (.bin .neq (.tmp 22) (.const (.int .i64 2))) (some (17, true)) [11, 6], .mk (some 24) (.pick (.tmp 17) (.tmp 23) (.const (.bool false))) none [6, 12], .mk (some 25) (.mv (.tmp 24)) none [13, 6], .mk (some 26) (.fld 0 (.tmp 1)) (some (25, true)) [14], .mk (some 27) (.load false 1 (.tmp 26)) (some (25, true)) [15, 14], .mk (some 28) (.mv (.tmp 3)) (some (25, true)) [14], .mk (some 29) (.idxA 1 (.tmp 27) (.tmp 28)) (some (25, true)) [16, 17, 14], .mk (some 30) (.load false 1 (.tmp 29)) (some (25, true)) [18, 14], .mk (some 31) (.bin .neq (.tmp 30) (.const (.int .i64 4))) (some (25, true)) [19, 14], .mk (some 32) (.pick (.tmp 25) (.tmp 31) (.const (.bool false))) none [14, 20]]
def l57r4 : List AOper :=
  [.mk (some 2) (.mv (.const (.bool false))) none []]
def l57r5 : List AOper :=
  [.mk (some 9) (.mv (.tmp 3)) none [], .mk (some 10) (.bin .add (.tmp 9) (.const (.int .i64 1))) none [0], .mk (some 3) (.mv (.tmp 10)) none [1, 0, 1]]
def l57r6 : List AOper :=
  [.mk (some 33) (.fld 0 (.tmp 1)) none [], .mk (some 34) (.load false 1 (.tmp 33)) none [0], .mk (some 35) (.len (.tmp 34)) none [1], .mk (some 36) (.call 63 [.tmp 35, .const (.int .i64 1), .const (.int .i64 5)]) none [2], .mk (some 2) (.mv (.tmp 36)) none [3, 3, 0, 1, 2, 3]]
def l57 : AFn :=
  (AFn.mk 37 1 (.seq (.reg l57r0) (.seq (.seq (.reg l57r1) (.block 0 (.loop (.seq (.seq (.reg l57r2) (.cond (.tmp 8) .skip (.exit 0))) (.seq (.block 1 (.seq (.reg l57r3) (.cond (.tmp 32) (.seq (.reg l57r4) .ret) .skip))) (.reg l57r5)))))) (.seq (.reg l57r6) .ret))) [.tmp 2])
theorem l57_eq : lowFn Tryd.prog 57 = some l57 := by kernel_rfl
def l58r0 : List AOper :=
  [.mk (some 1) (.box (.tmp 0)) none [], .mk (some 2) (.mv (.const (.slice none 0 0))) none []]
def l58r1 : List AOper :=
  [.mk (some 7) (.fld 0 (.tmp 1)) none [], .mk (some 8) (.load false 1 (.tmp 7)) none [0], .mk (some 9) (.len (.tmp 8)) none [1], .mk (some 10) (.mkslice 2 [.int .i64 0, .int .i64 0] (.tmp 9) (.tmp 9)) none [2, 2], .mk (some 3) (.mv (.tmp 10)) none [3, 0, 1, 2, 3]]
def l58r2 : List AOper :=
  [.mk (some 4) (.mv (.const (.int .i64 0))) none []]
def l58r3 : List AOper :=
  [.mk (some 11) (.fld 0 (.tmp 1)) none [], .mk (some 12) (.load false 1 (.tmp 11)) none [0], .mk (some 13) (.len (.tmp 12)) none [1], .mk (some 14) (.mv (.const (.int .i64 0))) none []]
def l58r4 : List AOper :=
  [.mk (some 15) (.bin .lss (.tmp 14) (.tmp 13)) none []]
def l58r5 : List AOper :=
  [.mk (some 16) (.mv (.tmp 14)) none [], .mk (some 17) (.idxA 1 (.tmp 12) (.tmp 14)) none [], .mk (some 18) (.load false 1 (.tmp 17)) none [1], .mk (some 5) (.mv (.tmp 16)) none [0, 0, 1, 2], .mk (some 6) (.mv (.tmp 18)) none [2, 3, 0, 1, 2, 3]]
def l58r6 : List AOper :=
  [.mk (some 19) (.mv (.tmp 3)) none [], .mk (some 20) (.mv (.tmp 5)) none [], .mk (some 21) (.load true 3 (.tmp 1)) none [], .mk (some 22) (.mv (.tmp 4)) none [], .mk (some 23) (.mv (.tmp 6)) none [], .mk (some 24) (.call 91 [.tmp 21, .tmp 22, .tmp 23]) none [2, 3, 4], .mk (some 25) (.mv (.tmp 6)) none [], .mk (some 26) (.build [.int .i64 0, .int .i64 0] [(0, 1, .tmp 24), (1, 1, .tmp 25)]) none [5, 6], .mk (some 27) (.idxA 2 (.tmp 19) (.tmp 20)) none [0, 1, 0, 1, 2, 3, 4, 5, 6, 7], .mk none (.store 2 (.tmp 27) (.tmp 26)) none [8, 7, 5, 0, 1, 2, 3, 4, 5, 6, 7]]
def l58r7 : List AOper :=
  [.mk (some 28) (.mv (.tmp 3)) none [], .mk (some 29) (.mv (.tmp 5)) none [], .mk (some 30) (.idxA 2 (.tmp 28) (.tmp 29)) none [0, 1], .mk (some 31) (.load true 2 (.tmp 30)) none [2], .mk (some 32) (.call 62 [.tmp 31]) none [3], .mk (some 4) (.mv (.tmp 32)) none [4, 4, 0, 1, 2, 3, 4]]
def l58r8 : List AOper :=
  [.mk (some 33) (.bin .add (.tmp 14) (.const (.int .i64 1))) none [], .mk (some 14) (.mv (.tmp 33)) none [0]]
def l58r9 : List AOper :=
  [.mk (some 34) (.mv (.tmp 3)) none [], .mk (some 2) (.mv (.tmp 34)) none [0, 0]]
def l58 : AFn :=
  (AFn.mk 35 1 (.seq (.reg l58r0) (.seq (.reg l58r1) (.seq (.reg l58r2) (.seq (.seq (.reg l58r3) (.block 0 (.loop (.seq (.reg l58r4) (.seq (.cond (.tmp 15) .skip (.exit 0)) (.seq (.block 1 (.seq (.reg l58r5) (.seq (.reg l58r6) (.reg l58r7)))) (.reg l58r8))))))) (.seq (.reg l58r9) .ret))))) [.tmp 2])
theorem l58_eq : lowFn Tryd.prog 58 = some l58 := by kernel_rfl
def l59r0 : List AOper :=
  [.mk (some 1) (.box (.tmp 0)) none [], .mk (some 2) (.mv (.const (.slice none 0 0))) none [], .mk (some 3) (.mv (.const (.int .i64 0))) none [1]]
def l59r1 : List AOper :=
  [.mk (some 8) (.bslice 1 [.int .i64 0] [] 0) none [], .mk (some 4) (.mv (.tmp 8)) none [0, 0]]
def l59r2 : List AOper :=
  [.mk (some 5) (.mv (.const (.int .i64 0))) none []]
def l59r3 : List AOper :=
  [.mk (some 6) (.mv (.const (.int .i64 1))) none []]
def l59r4 : List AOper :=
  [.mk (some 7) (.mv (.const (.int .i64 0))) none []]
def l59r5 : List AOper :=
  [.mk (some 9) (.mv (.tmp 7)) none [], .mk (some 10) (.fld 0 (.tmp 1)) none [], .mk (some 11) (.load false 1 (.tmp 10)) none [1], .mk (some 12) (.len (.tmp 11)) none [2], .mk (some 13) (.bin .lss (.tmp 9) (.tmp 12)) none [0, 3]]
def l59r6 : List AOper :=
  [.mk (some 16) (.fld 2 (.tmp 1)) none [], .mk (some 17) (.load false 1 (.tmp 16)) none [0]]
def l59r7 : List AOper :=
  [.mk (some 18) (.mv (.tmp 5)) none [], .mk (some 19) (.fld 0 (.tmp 1)) none [], .mk (some 20) (.load false 1 (.tmp 19)) none [1], .mk (some 21) (.mv (.tmp 7)) none [], .mk (some 22) (.idxA 1 (.tmp 20) (.tmp 21)) none [2, 3], .mk (some 23) (.load false 1 (.tmp 22)) none [4], .mk (some 24) (.call 92 [.tmp 18, .tmp 23]) none [0, 5], .mk (some 5) (.mv (.tmp 24)) none [6, 6, 0, 1, 2, 3, 4, 5, 6]]
def l59r8 : List AOper :=
  [.mk (some 25) (.mv (.tmp 6)) none [], .mk (some 26) (.fld 0 (.tmp 1)) none [], .mk (some 27) (.load false 1 (.tmp 26)) none [1], .mk (some 28) (.mv (.tmp 7)) none [], .mk (some 29) (.idxA 1 (.tmp 27) (.tmp 28)) none [2, 3], .mk (some 30) (.load false 1 (.tmp 29)) none [4], .mk (some 31) (.minmax true (.tmp 25) (.tmp 30)) none [0, 5], .mk (some 6) (.mv (.tmp 31)) none [6, 0, 1, 2, 3, 4, 5, 6]]
def l59r9 : List AOper :=
  [.mk (some 32) (.mv (.tmp 4)) none [], .mk (some 33) (.mv (.tmp 5)) none [], .mk (some 34) (.bslice 1 [.int .i64 0] [(0, .tmp 33)] 1) none [1], .mk (some 35) (.append 1 (.tmp 32) (.tmp 34)) none [0, 2], .mk (some 4) (.mv (.tmp 35)) none [3, 3, 0, 1, 2, 3]]
def l59r10 : List AOper :=
  [.mk (some 36) (.mv (.tmp 5)) none [], .mk (some 37) (.fld 0 (.tmp 1)) none [], .mk (some 38) (.load false 1 (.tmp 37)) none [1], .mk (some 39) (.mv (.tmp 7)) none [], .mk (some 40) (.idxA 1 (.tmp 38) (.tmp 39)) none [2, 3], .mk (some 41) (.load false 1 (.tmp 40)) none [4], .mk (some 42) (.bin .add (.tmp 36) (.tmp 41)) none [0, 5], .mk (some 5) (.mv (.tmp 42)) none [6, 0, 1, 2, 3, 4, 5, 6]]
def l59r11 : List AOper :=
  [.mk (some 14) (.mv (.tmp 7)) none [], .mk (some 15) (.bin .add (.tmp 14) (.const (.int .i64 1))) none [0], .mk (some 7) (.mv (.tmp 15)) none [1, 0, 1]]
def l59r12 : List AOper :=
  [.mk (some 43) (.mv (.tmp 4)) none [], .mk (some 44) (.mv (.tmp 5)) none [], .mk (some 45) (.mv (.tmp 6)) none [], .mk (some 46) (.call 92 [.tmp 44, .tmp 45]) none [1, 2], .mk (some 2) (.mv (.tmp 43)) none [0, 3, 0], .mk (some 3) (.mv (.tmp 46)) none [3, 4, 0, 1, 2, 3, 4]]
def l59 : AFn :=
  (AFn.mk 47 1 (.seq (.reg l59r0) (.seq (.reg l59r1) (.seq (.reg l59r2) (.seq (.reg l59r3) (.seq (.seq (.reg l59r4) (.block 0 (.loop (.seq (.seq (.reg l59r5) (.cond (.tmp 13) .skip (.exit 0))) (.seq (.block 1 (.seq (.seq (.reg l59r6) (.cond (.tmp 17) (.seq (.reg l59r7) (.reg l59r8)) .skip)) (.seq (.reg l59r9) (.reg l59r10)))) (.reg l59r11)))))) (.seq (.reg l59r12) .ret)))))) [.tmp 2, .tmp 3])
theorem l59_eq : lowFn Tryd.prog 59 = some l59 := by kernel_rfl
def l60r0 : List AOper :=
  [.mk (some 1) (.box (.tmp 0)) none [], .mk (some 2) (.mv (.const (.int .i64 0))) none []]
def l60r1a : List AOper :=
  [.mk (some 4) (.load true 3 (.tmp 1)) none [], .mk (some 5) (.call 58 [.tmp 4]) none [0], .mk (some 6) (.fld 0 (.tmp 1)) none [], .mk (some 7) (.load false 1 (.tmp 6)) none [2], .mk (some 8) (.len (.tmp 7)) none [3], .mk (some 9) (.bin .sub (.tmp 8) (.const (.int .i64 1))) none [4], .mk (some 10) (.idxA 2 (.tmp 5) (.tmp 9)) none [1, 5], .mk (some 11) (.load true 2 (.tmp 10)) none [6], .mk (some 3) (.alloc [.int .i64 0, .int .i64 0]) none []]
def l60r1b : List AOper :=
  [.mk none (.store 2 (.tmp 3) (.tmp 11)) none [8, 7, 1, 0, 1, 2, 3, 4, 5, 6, 7, 8]]
def l60r1 : List AOper := l60r1a ++ l60r1b
def l60r2a : List AOper :=
  [.mk (some 12) (.load true 3 (.tmp 1)) none [], .mk (some 13) (.load true 2 (.tmp 3)) none [], .mk (some 14) (.call 62 [.tmp 13]) none [1], .mk (some 15) (.fld 0 (.tmp 1)) none [], .mk (some 16) (.load false 1 (.tmp 15)) none [3], .mk (some 17) (.call 93 [.tmp 16]) none [4, 2]]
def l60r2b : List AOper :=
  [.mk (some 18) (.call 91 [.tmp 12, .tmp 14, .tmp 17]) none [0, 2, 5, 5], .mk (some 2) (.mv (.tmp 18)) none [6, 6, 0, 1, 2, 3, 4, 5, 6]]
def l60r2 : List AOper := l60r2a ++ l60r2b
def l60 : AFn :=
  (AFn.mk 19 1 (.seq (.reg l60r0) (.seq (.draw l60r1) (.seq (.draw l60r2) .ret))) [.tmp 2])
theorem l60_eq : lowFn Tryd.prog 60 = some l60 := by kernel_rfl
def l61r0 : List AOper :=
  [.mk (some 1) (.box (.tmp 0)) none [], .mk (some 2) (.mv (.const (.slice none 0 0))) none []]
def l61r1 : List AOper :=
  [.mk (some 5) (.load true 3 (.tmp 1)) none [], .mk (some 6) (.call 94 [.tmp 5]) none [0], .mk (some 7) (.mkslice 1 [.int .i64 0] (.tmp 6) (.tmp 6)) none [1, 1], .mk (some 3) (.mv (.tmp 7)) none [2, 1, 0, 1, 2]]
def l61r2 : List AOper :=
  [.mk (some 8) (.mv (.tmp 3)) none [], .mk (some 9) (.len (.tmp 8)) none [0], .mk (some 10) (.mv (.const (.int .i64 0))) none []]
def l61r3 : List AOper :=
  [.mk (some 11) (.bin .lss (.tmp 10) (.tmp 9)) none []]
def l61r4 : List AOper :=
  [.mk (some 12) (.mv (.tmp 10)) none [], .mk (some 4) (.mv (.tmp 12)) none [0, 0]]
def l61r5 : List AOper :=
  [.mk (some 13) (.mv (.tmp 3)) none [], .mk (some 14) (.mv (.tmp 4)) none [], .mk (some 15) (.load true 3 (.tmp 1)) none [], .mk (some 16) (.mv (.tmp 4)) none [], .mk (some 17) (.call 95 [.tmp 15, .tmp 16]) none [2, 3], .mk (some 18) (.idxA 1 (.tmp 13) (.tmp 14)) none [0, 1, 0, 1, 2, 3, 4], .mk none (.store 1 (.tmp 18) (.tmp 17)) none [5, 4, 4, 0, 1, 2, 3, 4]]
def l61r6 : List AOper :=
  [.mk (some 19) (.bin .add (.tmp 10) (.const (.int .i64 1))) none [], .mk (some 10) (.mv (.tmp 19)) none [0]]
def l61r7 : List AOper :=
  [.mk (some 20) (.mv (.tmp 3)) none [], .mk (some 2) (.mv (.tmp 20)) none [0, 0]]
def l61 : AFn :=
  (AFn.mk 21 1 (.seq (.reg l61r0) (.seq (.reg l61r1) (.seq (.seq (.reg l61r2) (.block 0 (.loop (.seq (.reg l61r3) (.seq (.cond (.tmp 11) .skip (.exit 0)) (.seq (.block 1 (.seq (.reg l61r4) (.reg l61r5))) (.reg l61r6))))))) (.seq (.reg l61r7) .ret)))) [.tmp 2])
theorem l61_eq : lowFn Tryd.prog 61 = some l61 := by kernel_rfl
def l62r0 : List AOper :=
  [.mk (some 1) (.box (.tmp 0)) none [], .mk (some 2) (.mv (.const (.int .i64 0))) none []]
def l62r1 : List AOper :=
  [.mk (some 3) (.fld 0 (.tmp 1)) none [], .mk (some 4) (.load false 1 (.tmp 3)) none [0], .mk (some 5) (.fld 1 (.tmp 1)) none [], .mk (some 6) (.load false 1 (.tmp 5)) none [2], .mk (some 7) (.bin .add (.tmp 4) (.tmp 6)) none [1, 3], .mk (some 2) (.mv (.tmp 7)) none [4, 0, 1, 2, 3, 4]]
def l62 : AFn :=
  (AFn.mk 8 1 (.seq (.reg l62r0) (.seq (.reg l62r1) .ret)) [.tmp 2])
theorem l62_eq : lowFn Tryd.prog 62 = some l62 := by kernel_rfl
def l63r0 : List AOper :=
  [.mk (some 6) (.mv (.const (.bool false))) none []]
def l63r1 : List AOper :=
  [.mk (some 7) (.mv (.tmp 1)) none [], .mk (some 8) (.mv (.tmp 0)) none [], .mk (some 9) (.bin .leq (.tmp 7) (.tmp 8)) none [0, 1], .mk (some 10) (.mv (.tmp 9)) none [2], .mk (some 11) (.mv (.tmp 0)) (some (10, true)) [3], .mk (some 12) (.mv (.tmp 2)) (some (10, true)) [3], .mk (some 13) (.bin .leq (.tmp 11) (.tmp 12)) (some (10, true)) [4, 5, 3], .mk (some 14) (.pick (.tmp 10) (.tmp 13) (.const (.bool false))) none [3, 6], .mk (some 6) (.mv (.tmp 14)) none [7, 3, 0, 1, 2, 3, 4, 5, 6, 7]]
def l63 : AFn :=
  (AFn.mk 15 3 (.seq (.reg l63r0) (.seq (.reg l63r1) .ret)) [.tmp 6])
theorem l63_eq : lowFn Tryd.prog 63 = some l63 := by kernel_rfl
def l75r0 : List AOper :=
  [.mk (some 4) (.mv (.const (.int .i64 0))) none []]
def l75r1 : List AOper :=
  [.mk (some 5) (.mv (.tmp 1)) none [], .mk (some 6) (.mv (.tmp 0)) none [], .mk (some 7) (.mv (.tmp 1)) none [], .mk (some 8) (.len (.tmp 7)) none [2], .mk (some 9) (.call 85 [.tmp 6, .tmp 8]) none [1, 3], .mk (some 10) (.idxA 1 (.tmp 5) (.tmp 9)) none [0, 4], .mk (some 11) (.load false 1 (.tmp 10)) none [5], .mk (some 4) (.mv (.tmp 11)) none [6, 4, 0, 1, 2, 3, 4, 5, 6]]
def l75 : AFn :=
  (AFn.mk 12 2 (.seq (.reg l75r0) (.seq (.reg l75r1) .ret)) [.tmp 4])
theorem l75_eq : lowFn Tryd.prog 75 = some l75 := by kernel_rfl
def l85r0 : List AOper :=
  [.mk (some 4) (.mv (.const (.int .i64 0))) none []]
def l85r1 : List AOper :=
  [.mk (some 7) (.mv (.tmp 0)) none [], .mk (some 8) (.mv (.tmp 0)) none [], .mk (some 9) (.nilck (.tmp 8)) none [1], .mk (some 10) (.fld 1 (.tmp 9)) none [2], .mk (some 11) (.load false 1 (.tmp 10)) none [3], .mk (some 12) (.bin .add (.tmp 11) (.const (.int .i64 1))) none [4], .mk (some 13) (.nilck (.tmp 7)) none [0, 0, 1, 2, 3, 4, 5], .mk (some 14) (.fld 1 (.tmp 13)) none [6, 0, 1, 2, 3, 4, 5], .mk none (.store 1 (.tmp 14) (.tmp 12)) none [7, 5, 0, 1, 2, 3, 4, 5]]
def l85r2 : List AOper :=
  [.mk (some 15) (.mv (.tmp 1)) none [], .mk (some 16) (.bin .lss (.tmp 15) (.const (.int .i64 1))) none [0], .mk (some 17) (.mv (.tmp 16)) none [1], .mk (some 18) (.mv (.tmp 0)) (some (17, false)) [2], .mk (some 19) (.nilck (.tmp 18)) (some (17, false)) [3, 2], .mk (some 20) (.fld 0 (.tmp 19)) (some (17, false)) [4, 2], .mk (some 21) (.load false 1 (.tmp 20)) (some (17, false)) [5, 2], .mk (some 22) (.len (.tmp 21)) (some (17, false)) [6, 2], .mk (some 23) (.bin .eql (.tmp 22) (.const (.int .i64 0))) (some (17, false)) [7, 2], .mk (some 24) (.pick (.tmp 17) (.const (.bool true)) (.tmp 23)) none [2, 8]]
def l85r3 : List AOper :=
  [.mk (some 4) (.mv (.const (.int .i64 0))) none []]
def l85r4 : List AOper :=
  [.mk (some 25) (.mv (.tmp 0)) none [], .mk (some 26) (.nilck (.tmp 25)) none [0], .mk (some 27) (.fld 1 (.tmp 26)) none [1], .mk (some 28) (.load false 1 (.tmp 27)) none [2], .mk (some 29) (.bin .sub (.tmp 28) (.const (.int .i64 1))) none [3], .mk (some 5) (.mv (.tmp 29)) none [4, 0, 1, 2, 3, 4]]
def l85r5 : List AOper :=
  [.mk (some 30) (.mv (.tmp 5)) none [], .mk (some 31) (.mv (.tmp 0)) none [], .mk (some 32) (.nilck (.tmp 31)) none [1], .mk (some 33) (.fld 0 (.tmp 32)) none [2], .mk (some 34) (.load false 1 (.tmp 33)) none [3], .mk (some 35) (.len (.tmp 34)) none [4], .mk (some 36) (.bin .lss (.tmp 30) (.tmp 35)) none [0, 5]]
def l85r6 : List AOper :=
  [.mk (some 37) (.mv (.tmp 0)) none [], .mk (some 38) (.nilck (.tmp 37)) none [0], .mk (some 39) (.fld 0 (.tmp 38)) none [1], .mk (some 40) (.load false 1 (.tmp 39)) none [2], .mk (some 41) (.mv (.tmp 5)) none [], .mk (some 42) (.idxA 1 (.tmp 40) (.tmp 41)) none [3, 4], .mk (some 43) (.load false 1 (.tmp 42)) none [5], .mk (some 44) (.conv .i64 (.tmp 43)) none [6], .mk (some 45) (.mv (.tmp 1)) none [], .mk (some 46) (.bin .rem (.tmp 44) (.tmp 45)) none [7, 8], .mk (some 4) (.mv (.tmp 46)) none [9, 0, 1, 2, 3, 4, 5, 6, 7, 8, 9]]
def l85r7a : List AOper :=
  [.mk (some 47) (.mv (.tmp 0)) none [], .mk (some 48) (.nilck (.tmp 47)) none [0], .mk (some 49) (.fld 0 (.tmp 48)) none [1], .mk (some 50) (.load false 1 (.tmp 49)) none [2], .mk (some 51) (.mv (.tmp 5)) none [], .mk (some 52) (.mv (.tmp 0)) none [], .mk (some 53) (.nilck (.tmp 52)) none [5], .mk (some 54) (.fld 0 (.tmp 53)) none [6], .mk (some 55) (.load false 1 (.tmp 54)) none [7], .mk (some 56) (.len (.tmp 55)) none [8], .mk (some 57) (.bin .rem (.tmp 51) (.tmp 56)) none [4, 9], .mk (some 58) (.idxA 1 (.tmp 50) (.tmp 57)) none [3, 10], .mk (some 59) (.load false 1 (.tmp 58)) none [11], .mk (some 60) (.conv .i64 (.tmp 59)) none [12], .mk (some 61) (.bin .mul (.tmp 60) (.const (.int .i64 131))) none [13], .mk (some 62) (.mv (.tmp 0)) none [], .mk (some 63) (.nilck (.tmp 62)) none [15], .mk (some 64) (.fld 0 (.tmp 63)) none [16], .mk (some 65) (.load false 1 (.tmp 64)) none [17], .mk (some 66) (.mv (.tmp 5)) none [], .mk (some 67) (.bin .mul (.tmp 66) (.const (.int .i64 7))) none [19], .mk (some 68) (.bin .add (.tmp 67) (.const (.int .i64 3))) none [20], .mk (some 69) (.mv (.tmp 0)) none [], .mk (some 70) (.nilck (.tmp 69)) none [22], .mk (some 71) (.fld 0 (.tmp 70)) none [23], .mk (some 72) (.load false 1 (.tmp 71)) none [24], .mk (some 73) (.len (.tmp 72)) none [25], .mk (some 74) (.bin .rem (.tmp 68) (.tmp 73)) none [21, 26], .mk (some 75) (.idxA 1 (.tmp 65) (.tmp 74)) none [18, 27], .mk (some 76) (.load false 1 (.tmp 75)) none [28], .mk (some 77) (.conv .i64 (.tmp 76)) none [29], .mk (some 78) (.bin .mul (.tmp 77) (.const (.int .i64 1117))) none [30], .mk (some 79) (.bin .add (.tmp 61) (.tmp 78)) none [14, 31], .mk (some 80) (.mv (.tmp 5)) none [], .mk (some 81) (.bin .mul (.tmp 80) (.const (.int .i64 29))) none [33], .mk (some 82) (.bin .add (.tmp 79) (.tmp 81)) none [32, 34], .mk (some 83) (.mv (.tmp 5)) none [], .mk (some 84) (.mv (.tmp 0)) none [], .mk (some 85) (.nilck (.tmp 84)) none [37], .mk (some 86) (.fld 0 (.tmp 85)) none [38], .mk (some 87) (.load false 1 (.tmp 86)) none [39], .mk (some 88) (.len (.tmp 87)) none [40], .mk (some 89) (.bin .quo (.tmp 83) (.tmp 88)) none [36, 41], .mk (some 90) (.bin .mul (.tmp 89) (.const (.int .i64 53))) none [42]]
def l85r7b : List AOper :=
  [.mk (some 91) (.bin .add (.tmp 82) (.tmp 90)) none [35, 43], .mk (some 6) (.mv (.tmp 91)) none [44, 0, 1, 2, 3, 4, 5, 6, 7, 8, 9, 10, 11, 12, 13, 14, 15, 16, 17, 18, 19, 20, 21, 22, 23, 24, 25, 26, 27, 28, 29, 30, 31, 32, 33, 34, 35, 36, 37, 38, 39, 40, 41, 42, 43, 44]]
def l85r7 : List AOper := l85r7a ++ l85r7b
def l85r8 : List AOper :=
  [.mk (some 92) (.mv (.tmp 6)) none [], .mk (some 93) (.mv (.tmp 6)) none [], .mk (some 94) (.bin .quo (.tmp 93) (.const (.int .i64 64))) none [1], .mk (some 95) (.bin .xor (.tmp 92) (.tmp 94)) none [0, 2], .mk (some 6) (.mv (.tmp 95)) none [3, 0, 1, 2, 3]]
def l85r9 : List AOper :=
  [.mk (some 96) (.mv (.tmp 6)) none [], .mk (some 97) (.mv (.tmp 1)) none [], .mk (some 98) (.bin .rem (.tmp 96) (.tmp 97)) none [0, 1], .mk (some 4) (.mv (.tmp 98)) none [2, 0, 1, 2]]
def l85 : AFn :=
  (AFn.mk 99 2 (.seq (.reg l85r0) (.seq (.reg l85r1) (.seq (.seq (.reg l85r2) (.cond (.tmp 24) (.seq (.reg l85r3) .ret) .skip)) (.seq (.reg l85r4) (.seq (.seq (.reg l85r5) (.cond (.tmp 36) (.seq (.reg l85r6) .ret) .skip)) (.seq (.draw l85r7) (.seq (.reg l85r8) (.seq (.reg l85r9) .ret)))))))) [.tmp 4])
theorem l85_eq : lowFn Tryd.prog 85 = some l85 := by kernel_rfl
def l91r0 : List AOper :=
  [.mk (some 3) (.box (.tmp 0)) none [], .mk (some 6) (.mv (.const (.int .i64 0))) none []]
def l91r1 : List AOper :=
  [.mk (some 7) (.fld 2 (.tmp 3)) none [], .mk (some 8) (.load false 1 (.tmp 7)) none [0], .mk (some 9) (.un .not (.tmp 8)) none [1]]
def l91r2 : List AOper :=
  [.mk (some 10) (.mv (.tmp 1)) none [], .mk (some 6) (.mv (.tmp 10)) none [0, 0]]
def l91r3 : List AOper :=
  [.mk (some 11) (.mv (.tmp 1)) none [], .mk (some 12) (.mv (.tmp 2)) none [], .mk (some 13) (.bin .add (.tmp 11) (.tmp 12)) none [0, 1], .mk (some 14) (.bin .sub (.tmp 13) (.const (.int .i64 1))) none [2], .mk (some 15) (.mv (.tmp 2)) none [], .mk (some 16) (.bin .quo (.tmp 14) (.tmp 15)) none [3, 4], .mk (some 17) (.mv (.tmp 2)) none [], .mk (some 18) (.bin .mul (.tmp 16) (.tmp 17)) none [5, 6], .mk (some 6) (.mv (.tmp 18)) none [7, 0, 1, 2, 3, 4, 5, 6, 7]]
def l91 : AFn :=
  (AFn.mk 19 3 (.seq (.reg l91r0) (.seq (.seq (.reg l91r1) (.cond (.tmp 9) (.seq (.reg l91r2) .ret) .skip)) (.seq (.reg l91r3) .ret))) [.tmp 6])
theorem l91_eq : lowFn Tryd.prog 91 = some l91 := by kernel_rfl
def l92r0 : List AOper :=
  [.mk (some 4) (.mv (.const (.int .i64 0))) none []]
def l92r1 : List AOper :=
  [.mk (some 5) (.mv (.tmp 0)) none [], .mk (some 6) (.mv (.tmp 1)) none [], .mk (some 7) (.bin .add (.tmp 5) (.tmp 6)) none [0, 1], .mk (some 8) (.bin .sub (.tmp 7) (.const (.int .i64 1))) none [2], .mk (some 9) (.mv (.tmp 1)) none [], .mk (some 10) (.bin .quo (.tmp 8) (.tmp 9)) none [3, 4], .mk (some 11) (.mv (.tmp 1)) none [], .mk (some 12) (.bin .mul (.tmp 10) (.tmp 11)) none [5, 6], .mk (some 4) (.mv (.tmp 12)) none [7, 0, 1, 2, 3, 4, 5, 6, 7]]
def l92 : AFn :=
  (AFn.mk 13 2 (.seq (.reg l92r0) (.seq (.reg l92r1) .ret)) [.tmp 4])
theorem l92_eq : lowFn Tryd.prog 92 = some l92 := by kernel_rfl
def l93r0 : List AOper :=
  [.mk (some 2) (.mv (.const (.int .i64 0))) none []]
def l93r1 : List AOper :=
  [.mk (some 5) (.mv (.tmp 0)) none [], .mk (some 6) (.len (.tmp 5)) none [0], .mk (some 7) (.bin .lss (.tmp 6) (.const (.int .i64 1))) none [1]]
def l93r2 : List AOper :=
  [.mk (some 8) (.raw (Op.makeInterface 9 (.const (.string (ByteArray.mk (Array.mk [(115 : UInt8), (108 : UInt8), (105 : UInt8), (99 : UInt8), (101 : UInt8), (115 : UInt8), (46 : UInt8), (77 : UInt8), (97 : UInt8), (120 : UInt8), (58 : UInt8), (32 : UInt8), (101 : UInt8), (109 : UInt8), (112 : UInt8), (116 : UInt8), (121 : UInt8), (32 : UInt8), (108 : UInt8), (105 : UInt8), (115 : UInt8), (116 : UInt8)])))))) none [], .mk none (.raw (Op.panic (.tmp 8))) none [0]]
def l93r3 : List AOper :=
  [.mk (some 9) (.mv (.tmp 0)) none [], .mk (some 10) (.idxA 1 (.tmp 9) (.const (.int .i64 0))) none [0], .mk (some 11) (.load false 1 (.tmp 10)) none [1], .mk (some 3) (.mv (.tmp 11)) none [2, 0, 1, 2]]
def l93r4 : List AOper :=
  [.mk (some 4) (.mv (.const (.int .i64 1))) none []]
def l93r5 : List AOper :=
  [.mk (some 12) (.mv (.tmp 4)) none [], .mk (some 13) (.mv (.tmp 0)) none [], .mk (some 14) (.len (.tmp 13)) none [1], .mk (some 15) (.bin .lss (.tmp 12) (.tmp 14)) none [0, 2]]
def l93r6 : List AOper :=
  [.mk (some 18) (.mv (.tmp 3)) none [], .mk (some 19) (.mv (.tmp 0)) none [], .mk (some 20) (.mv (.tmp 4)) none [], .mk (some 21) (.idxA 1 (.tmp 19) (.tmp 20)) none [1, 2], .mk (some 22) (.load false 1 (.tmp 21)) none [3], .mk (some 23) (.minmax true (.tmp 18) (.tmp 22)) none [0, 4], .mk (some 3) (.mv (.tmp 23)) none [5, 0, 1, 2, 3, 4, 5]]
def l93r7 : List AOper :=
  [.mk (some 16) (.mv (.tmp 4)) none [], .mk (some 17) (.bin .add (.tmp 16) (.const (.int .i64 1))) none [0], .mk (some 4) (.mv (.tmp 17)) none [1, 0, 1]]
def l93r8 : List AOper :=
  [.mk (some 24) (.mv (.tmp 3)) none [], .mk (some 2) (.mv (.tmp 24)) none [0, 0]]
def l93 : AFn :=
  (AFn.mk 25 1 (.seq (.reg l93r0) (.seq (.seq (.reg l93r1) (.cond (.tmp 7) (.reg l93r2) .skip)) (.seq (.reg l93r3) (.seq (.seq (.reg l93r4) (.block 0 (.loop (.seq (.seq (.reg l93r5) (.cond (.tmp 15) .skip (.exit 0))) (.seq (.block 1 (.reg l93r6)) (.reg l93r7)))))) (.seq (.reg l93r8) .ret))))) [.tmp 2])
theorem l93_eq : lowFn Tryd.prog 93 = some l93 := by kernel_rfl
def l94r0 : List AOper :=
  [.mk (some 1) (.box (.tmp 0)) none [], .mk (some 2) (.mv (.const (.int .i64 0))) none []]
def l94r1a : List AOper :=
  [.mk (some 5) (.fld 1 (.tmp 1)) none [], .mk (some 6) (.load false 1 (.tmp 5)) none [0], .mk (some 7) (.fld 0 (.tmp 1)) none [], .mk (some 8) (.load false 1 (.tmp 7)) none [2], .mk (some 9) (.bin .sub (.tmp 6) (.tmp 8)) none [1, 3], .mk (some 10) (.fld 2 (.tmp 1)) none [], .mk (some 11) (.load false 1 (.tmp 10)) none [5], .mk (some 3) (.mv (.tmp 9)) none [4, 0, 1, 2, 3, 4]]
def l94r1b : List AOper :=
  [.mk (some 4) (.mv (.tmp 11)) none [6, 7, 0, 1, 2, 3, 4, 5, 6, 7]]
def l94r1 : List AOper := l94r1a ++ l94r1b
def l94r2 : List AOper :=
  [.mk (some 12) (.mv (.tmp 4)) none [], .mk (some 13) (.bin .lss (.tmp 12) (.const (.int .i64 0))) none [0]]
def l94r3 : List AOper :=
  [.mk (some 14) (.mv (.tmp 3)) none [], .mk (some 15) (.un .neg (.tmp 14)) none [0], .mk (some 16) (.mv (.tmp 4)) none [], .mk (some 17) (.un .neg (.tmp 16)) none [2], .mk (some 3) (.mv (.tmp 15)) none [1, 0, 1], .mk (some 4) (.mv (.tmp 17)) none [3, 4, 0, 1, 2, 3, 4]]
def l94r4 : List AOper :=
  [.mk (some 18) (.mv (.tmp 3)) none [], .mk (some 19) (.bin .leq (.tmp 18) (.const (.int .i64 0))) none [0]]
def l94r5 : List AOper :=
  [.mk (some 2) (.mv (.const (.int .i64 0))) none []]
def l94r6 : List AOper :=
  [.mk (some 20) (.mv (.tmp 3)) none [], .mk (some 21) (.mv (.tmp 4)) none [], .mk (some 22) (.bin .add (.tmp 20) (.tmp 21)) none [0, 1], .mk (some 23) (.bin .sub (.tmp 22) (.const (.int .i64 1))) none [2], .mk (some 24) (.mv (.tmp 4)) none [], .mk (some 25) (.bin .quo (.tmp 23) (.tmp 24)) none [3, 4], .mk (some 2) (.mv (.tmp 25)) none [5, 0, 1, 2, 3, 4, 5]]
def l94 : AFn :=
  (AFn.mk 26 1 (.seq (.reg l94r0) (.seq (.draw l94r1) (.seq (.seq (.reg l94r2) (.cond (.tmp 13) (.reg l94r3) .skip)) (.seq (.seq (.reg l94r4) (.cond (.tmp 19) (.seq (.reg l94r5) .ret) .skip)) (.seq (.reg l94r6) .ret))))) [.tmp 2])
theorem l94_eq : lowFn Tryd.prog 94 = some l94 := by kernel_rfl
def l95r0 : List AOper :=
  [.mk (some 2) (.box (.tmp 0)) none [], .mk (some 4) (.mv (.const (.int .i64 0))) none []]
def l95r1 : List AOper :=
  [.mk (some 5) (.fld 0 (.tmp 2)) none [], .mk (some 6) (.load false 1 (.tmp 5)) none [0], .mk (some 7) (.mv (.tmp 1)) none [], .mk (some 8) (.fld 2 (.tmp 2)) none [], .mk (some 9) (.load false 1 (.tmp 8)) none [3], .mk (some 10) (.bin .mul (.tmp 7) (.tmp 9)) none [2, 4], .mk (some 11) (.bin .add (.tmp 6) (.tmp 10)) none [1, 5], .mk (some 4) (.mv (.tmp 11)) none [6, 0, 1, 2, 3, 4, 5, 6]]
def l95 : AFn :=
  (AFn.mk 12 2 (.seq (.reg l95r0) (.seq (.reg l95r1) .ret)) [.tmp 4])
theorem l95_eq : lowFn Tryd.prog 95 = some l95 := by kernel_rfl
end Go.Proofs.YtclampodmlklpaaDoor
