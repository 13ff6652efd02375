import Derived.Test.YtjkdeemhmohoaaaCW3
import Derived.Test.YtjkdeemhmohoaaaProg
import Derived.KernelRfl
set_option maxRecDepth 100000
namespace Go.Proofs.Ytjkdeemhmohoaaa
open Vw Go
def l4r0 : List AOper :=
  [AOper.mk (some 2) (.mv (.const (.bool false))) none []]
def l4r1 : List AOper :=
  [AOper.mk (some 5) (.mv (.tmp 0)) none [], AOper.mk (some 6) (.len (.tmp 5)) none [0], AOper.mk (some 7) (.bin .gtr (.tmp 6) (.const (.int .i64 1048576))) none [1]]
def l4r2 : List AOper :=
  [AOper.mk (some 2) (.mv (.const (.bool true))) none []]
def l4r3 : List AOper :=
  [AOper.mk (some 8) (.mv (.tmp 0)) none [], AOper.mk (some 9) (.call 13 [.tmp 8]) none [0], AOper.mk (some 3) (.mv (.tmp 9)) none [1, 1, 0, 1]]
def l4r4 : List AOper :=
  [AOper.mk (some 10) (.mv (.tmp 3)) none [], AOper.mk (some 11) (.call 14 [.tmp 10]) none [0], AOper.mk (some 4) (.mv (.tmp 11)) none [1, 1, 0, 1]]
def l4r5 : List AOper :=
  [AOper.mk (some 12) (.mv (.tmp 4)) none [], AOper.mk (some 13) (.mv (.tmp 3)) none [], AOper.mk (some 14) (.call 15 [.tmp 13]) none [1], AOper.mk (some 15) (.binB .neq (.tmp 12) (.tmp 14)) none [0, 2], AOper.mk (some 16) (.mv (.tmp 15)) none [3, 2], AOper.mk (some 17) (.mv (.tmp 4)) (some (16, false)) [4], AOper.mk (some 18) (.un .not (.tmp 17)) (some (16, false)) [5, 4], AOper.mk (some 19) (.pick (.tmp 16) (.const (.bool true)) (.tmp 18)) none [4, 6]]
def l4r6 : List AOper :=
  [AOper.mk (some 20) (.mv (.tmp 4)) none [], AOper.mk (some 21) (.mv (.tmp 3)) none [], AOper.mk (some 22) (.call 15 [.tmp 21]) none [1], AOper.mk (some 23) (.binB .eql (.tmp 20) (.tmp 22)) none [0, 2], AOper.mk (some 2) (.mv (.tmp 23)) none [3, 2, 0, 1, 2, 3]]
def l4r7 : List AOper :=
  [AOper.mk (some 24) (.mv (.tmp 3)) none [], AOper.mk (some 25) (.mv (.tmp 3)) none [], AOper.mk (some 26) (.len (.tmp 25)) none [1], AOper.mk (some 27) (.bin .quo (.tmp 26) (.const (.int .i64 2))) none [2], AOper.mk (some 28) (.slice 1 (.tmp 24) none (some (.tmp 27))) none [0, 3], AOper.mk (some 29) (.call 14 [.tmp 28]) none [4], AOper.mk (some 30) (.mv (.tmp 29)) none [5, 5], AOper.mk (some 31) (.call 14 [.const (.slice none 0 0)]) (some (30, true)) [6, 6], AOper.mk (some 32) (.pick (.tmp 30) (.tmp 31) (.const (.bool false))) none [6, 7], AOper.mk (some 2) (.mv (.tmp 32)) none [8, 7, 0, 1, 2, 3, 4, 5, 6, 7, 8]]
def l4 : AFn :=
  (AFn.mk 33 1 (ACode.seq (ACode.reg l4r0) (ACode.seq (ACode.seq (ACode.reg l4r1) (ACode.cond (.tmp 7) (ACode.seq (ACode.reg l4r2) ACode.ret) ACode.skip)) (ACode.seq (ACode.reg l4r3) (ACode.seq (ACode.reg l4r4) (ACode.seq (ACode.seq (ACode.reg l4r5) (ACode.cond (.tmp 19) (ACode.seq (ACode.reg l4r6) ACode.ret) ACode.skip)) (ACode.seq (ACode.reg l4r7) ACode.ret)))))) [ARes.tmp 2])
theorem l4_eq : lowFn Try.prog 4 = some l4 := by kernel_rfl
def l13r0 : List AOper :=
  [AOper.mk (some 2) (.mv (.const (.slice none 0 0))) none []]
def l13r1 : List AOper :=
  [AOper.mk (some 3) (.mv (.tmp 0)) none [], AOper.mk (some 4) (.call 17 [.tmp 3]) none [0], AOper.mk (some 5) (.call 29 [.tmp 4]) none [1, 1], AOper.mk (some 2) (.mv (.tmp 5)) none [2, 2, 0, 1, 2]]
def l13 : AFn :=
  (AFn.mk 6 1 (ACode.seq (ACode.reg l13r0) (ACode.seq (ACode.reg l13r1) ACode.ret)) [ARes.tmp 2])
theorem l13_eq : lowFn Try.prog 13 = some l13 := by kernel_rfl
def l14r0 : List AOper :=
  [AOper.mk (some 2) (.mv (.const (.bool false))) none []]
def l14r1 : List AOper :=
  [AOper.mk (some 3) (.mv (.tmp 0)) none [], AOper.mk (some 4) (.len (.tmp 3)) none [0], AOper.mk (some 5) (.call 30 [.tmp 4]) none [1], AOper.mk (some 6) (.mv (.tmp 5)) none [2, 2], AOper.mk (some 7) (.mv (.tmp 0)) (some (6, true)) [3], AOper.mk (some 8) (.call 31 [.tmp 7]) (some (6, true)) [4, 3, 3], AOper.mk (some 9) (.pick (.tmp 6) (.tmp 8) (.const (.bool false))) none [3, 5], AOper.mk (some 2) (.mv (.tmp 9)) none [6, 5, 0, 1, 2, 3, 4, 5, 6]]
def l14 : AFn :=
  (AFn.mk 10 1 (ACode.seq (ACode.reg l14r0) (ACode.seq (ACode.reg l14r1) ACode.ret)) [ARes.tmp 2])
theorem l14_eq : lowFn Try.prog 14 = some l14 := by kernel_rfl
def l15r0 : List AOper :=
  [AOper.mk (some 2) (.mv (.const (.bool false))) none []]
def l15r1 : List AOper :=
  [AOper.mk (some 3) (.mv (.tmp 0)) none [], AOper.mk (some 4) (.call 32 [.tmp 3]) none [0], AOper.mk (some 2) (.mv (.tmp 4)) none [1, 1, 0, 1]]
def l15 : AFn :=
  (AFn.mk 5 1 (ACode.seq (ACode.reg l15r0) (ACode.seq (ACode.reg l15r1) ACode.ret)) [ARes.tmp 2])
theorem l15_eq : lowFn Try.prog 15 = some l15 := by kernel_rfl
def l17r0 : List AOper :=
  [AOper.mk (some 2) (.mv (.const (.pointer none))) none []]
def l17r1 : List AOper :=
  [AOper.mk (some 3) (.mv (.tmp 0)) none [], AOper.mk (some 4) (.len (.tmp 3)) none [0], AOper.mk (some 5) (.bin .gtr (.tmp 4) (.const (.int .i64 2000))) none [1]]
def l17r2 : List AOper :=
  [AOper.mk (some 6) (.mv (.tmp 0)) none [], AOper.mk (some 7) (.slice 1 (.tmp 6) none (some (.const (.int .i64 2000)))) none [0], AOper.mk (some 0) (.mv (.tmp 7)) none [1, 0, 1]]
def l17r3 : List AOper :=
  [AOper.mk (some 8) (.mv (.tmp 0)) none [], AOper.mk (some 9) (.build [.slice none 0 0, .int .i64 0] [(0, 1, .tmp 8)]) none [0], AOper.mk (some 10) (.box (.tmp 9)) none [1], AOper.mk (some 2) (.mv (.tmp 10)) none [2, 0, 1, 2]]
def l17 : AFn :=
  (AFn.mk 11 1 (ACode.seq (ACode.reg l17r0) (ACode.seq (ACode.seq (ACode.reg l17r1) (ACode.cond (.tmp 5) (ACode.reg l17r2) ACode.skip)) (ACode.seq (ACode.reg l17r3) ACode.ret))) [ARes.tmp 2])
theorem l17_eq : lowFn Try.prog 17 = some l17 := by kernel_rfl
def l25r0 : List AOper :=
  [AOper.mk (some 4) (.mv (.const (.bool false))) none []]
def l25r1 : List AOper :=
  [AOper.mk (some 5) (.mv (.tmp 0)) none [], AOper.mk (some 6) (.bin .leq (.const (.int .i64 0)) (.tmp 5)) none [0], AOper.mk (some 7) (.mv (.tmp 6)) none [1], AOper.mk (some 8) (.mv (.tmp 0)) (some (7, true)) [2], AOper.mk (some 9) (.mv (.tmp 1)) (some (7, true)) [2], AOper.mk (some 10) (.bin .leq (.tmp 8) (.tmp 9)) (some (7, true)) [3, 4, 2], AOper.mk (some 11) (.pick (.tmp 7) (.tmp 10) (.const (.bool false))) none [2, 5], AOper.mk (some 4) (.mv (.tmp 11)) none [6, 2, 0, 1, 2, 3, 4, 5, 6]]
def l25 : AFn :=
  (AFn.mk 12 2 (ACode.seq (ACode.reg l25r0) (ACode.seq (ACode.reg l25r1) ACode.ret)) [ARes.tmp 4])
theorem l25_eq : lowFn Try.prog 25 = some l25 := by kernel_rfl
def l29r0 : List AOper :=
  [AOper.mk (some 2) (.mv (.const (.slice none 0 0))) none []]
def l29r1 : List AOper :=
  [AOper.mk (some 5) (.bslice 1 [.int .i64 0] [] 0) none [], AOper.mk (some 3) (.mv (.tmp 5)) none [0, 0]]
def l29r2 : List AOper :=
  [AOper.mk (some 6) (.mv (.tmp 0)) none [], AOper.mk (some 7) (.bslice 1 [.int .i64 0] [(0, .const (.int .i64 20)), (1, .const (.int .i64 30)), (2, .const (.int .i64 16)), (3, .const (.int .i64 60)), (4, .const (.int .i64 12)), (5, .const (.int .i64 5))] 6) none [], AOper.mk (some 8) (.call 35 [.tmp 6, .tmp 7]) none [0, 1], AOper.mk (some 4) (.mv (.tmp 8)) none [2, 2, 0, 1, 2]]
def l29r3 : List AOper :=
  [AOper.mk (some 9) (.mv (.tmp 4)) none [], AOper.mk (some 10) (.bin .gtr (.tmp 9) (.const (.int .i64 0))) none [0]]
def l29r4 : List AOper :=
  [AOper.mk (some 13) (.mv (.tmp 3)) none [], AOper.mk (some 14) (.mv (.tmp 0)) none [], AOper.mk (some 15) (.call 34 [.tmp 14, .const (.int .i64 256)]) none [1], AOper.mk (some 16) (.bslice 1 [.int .i64 0] [(0, .tmp 15)] 1) none [2], AOper.mk (some 17) (.append 1 (.tmp 13) (.tmp 16)) none [0, 3, 2], AOper.mk (some 3) (.mv (.tmp 17)) none [4, 4, 0, 1, 2, 3, 4]]
def l29r5 : List AOper :=
  [AOper.mk (some 11) (.mv (.tmp 4)) none [], AOper.mk (some 12) (.bin .sub (.tmp 11) (.const (.int .i64 1))) none [0], AOper.mk (some 4) (.mv (.tmp 12)) none [1, 0, 1]]
def l29r6 : List AOper :=
  [AOper.mk (some 18) (.mv (.tmp 0)) none [], AOper.mk (some 19) (.call 34 [.tmp 18, .const (.int .i64 24)]) none [0], AOper.mk (some 20) (.bin .eql (.tmp 19) (.const (.int .i64 0))) none [1]]
def l29r7 : List AOper :=
  [AOper.mk (some 21) (.mv (.tmp 3)) none [], AOper.mk (some 22) (.mv (.tmp 0)) none [], AOper.mk (some 23) (.bslice 1 [.int .i64 0] [(0, .const (.int .i64 (-1))), (1, .const (.int .i64 256))] 2) none [], AOper.mk (some 24) (.call 35 [.tmp 22, .tmp 23]) none [1, 2], AOper.mk (some 25) (.idxA 1 (.tmp 21) (.const (.int .i64 0))) none [0, 0, 1, 2, 3], AOper.mk none (.store 1 (.tmp 25) (.tmp 24)) none [4, 3, 3, 0, 1, 2, 3]]
def l29r8 : List AOper :=
  [AOper.mk (some 26) (.mv (.tmp 3)) none [], AOper.mk (some 2) (.mv (.tmp 26)) none [0, 0]]
def l29 : AFn :=
  (AFn.mk 27 1 (ACode.seq (ACode.reg l29r0) (ACode.seq (ACode.reg l29r1) (ACode.seq (ACode.seq (ACode.reg l29r2) (ACode.block 0 (ACode.loop (ACode.seq (ACode.seq (ACode.reg l29r3) (ACode.cond (.tmp 10) ACode.skip (ACode.exit 0))) (ACode.seq (ACode.block 1 (ACode.reg l29r4)) (ACode.reg l29r5)))))) (ACode.seq (ACode.seq (ACode.reg l29r6) (ACode.cond (.tmp 20) (ACode.reg l29r7) ACode.skip)) (ACode.seq (ACode.reg l29r8) ACode.ret))))) [ARes.tmp 2])
theorem l29_eq : lowFn Try.prog 29 = some l29 := by kernel_rfl
def l30r0 : List AOper :=
  [AOper.mk (some 2) (.mv (.const (.bool false))) none []]
def l30r1 : List AOper :=
  [AOper.mk (some 3) (.mv (.tmp 0)) none [], AOper.mk (some 4) (.bin .leq (.const (.int .i64 0)) (.tmp 3)) none [0], AOper.mk (some 5) (.mv (.tmp 4)) none [1], AOper.mk (some 6) (.mv (.tmp 0)) (some (5, true)) [2], AOper.mk (some 7) (.bin .leq (.tmp 6) (.const (.int .i64 60))) (some (5, true)) [3, 2], AOper.mk (some 8) (.pick (.tmp 5) (.tmp 7) (.const (.bool false))) none [2, 4], AOper.mk (some 2) (.mv (.tmp 8)) none [5, 2, 0, 1, 2, 3, 4, 5]]
def l30 : AFn :=
  (AFn.mk 9 1 (ACode.seq (ACode.reg l30r0) (ACode.seq (ACode.reg l30r1) ACode.ret)) [ARes.tmp 2])
theorem l30_eq : lowFn Try.prog 30 = some l30 := by kernel_rfl
def l31r0 : List AOper :=
  [AOper.mk (some 2) (.mv (.const (.bool false))) none []]
def l31r1 : List AOper :=
  [AOper.mk (some 5) (.mv (.tmp 0)) none [], AOper.mk (some 6) (.len (.tmp 5)) none [0], AOper.mk (some 7) (.mv (.const (.int .i64 0))) none []]
def l31r2 : List AOper :=
  [AOper.mk (some 8) (.bin .lss (.tmp 7) (.tmp 6)) none []]
def l31r3 : List AOper :=
  [AOper.mk (some 9) (.idxA 1 (.tmp 5) (.tmp 7)) none [], AOper.mk (some 10) (.load false 1 (.tmp 9)) none [0], AOper.mk (some 4) (.mv (.tmp 10)) none [1, 0, 1]]
def l31r4 : List AOper :=
  [AOper.mk (some 11) (.mv (.tmp 4)) none [], AOper.mk (some 12) (.call 25 [.tmp 11, .const (.int .i64 255)]) none [0], AOper.mk (some 13) (.un .not (.tmp 12)) none [1]]
def l31r5 : List AOper :=
  [AOper.mk (some 2) (.mv (.const (.bool false))) none []]
def l31r6 : List AOper :=
  [AOper.mk (some 14) (.bin .add (.tmp 7) (.const (.int .i64 1))) none [], AOper.mk (some 7) (.mv (.tmp 14)) none [0]]
def l31r7 : List AOper :=
  [AOper.mk (some 2) (.mv (.const (.bool true))) none []]
def l31 : AFn :=
  (AFn.mk 15 1 (ACode.seq (ACode.reg l31r0) (ACode.seq (ACode.seq (ACode.reg l31r1) (ACode.block 0 (ACode.loop (ACode.seq (ACode.reg l31r2) (ACode.seq (ACode.cond (.tmp 8) ACode.skip (ACode.exit 0)) (ACode.seq (ACode.block 1 (ACode.seq (ACode.reg l31r3) (ACode.seq (ACode.reg l31r4) (ACode.cond (.tmp 13) (ACode.seq (ACode.reg l31r5) ACode.ret) ACode.skip)))) (ACode.reg l31r6))))))) (ACode.seq (ACode.reg l31r7) ACode.ret))) [ARes.tmp 2])
theorem l31_eq : lowFn Try.prog 31 = some l31 := by kernel_rfl
def l32r0 : List AOper :=
  [AOper.mk (some 2) (.mv (.const (.bool false))) none []]
def l32r1 : List AOper :=
  [AOper.mk (some 3) (.mv (.tmp 0)) none [], AOper.mk (some 4) (.len (.tmp 3)) none [0], AOper.mk (some 5) (.bin .leq (.tmp 4) (.const (.int .i64 60))) none [1], AOper.mk (some 6) (.mv (.tmp 5)) none [2], AOper.mk (some 7) (.mv (.tmp 0)) (some (6, true)) [3], AOper.mk (some 8) (.call 39 [.tmp 7, .const (.int .i64 0), .const (.int .i64 255)]) (some (6, true)) [4, 3, 3], AOper.mk (some 9) (.pick (.tmp 6) (.tmp 8) (.const (.bool false))) none [3, 5], AOper.mk (some 2) (.mv (.tmp 9)) none [6, 5, 0, 1, 2, 3, 4, 5, 6]]
def l32 : AFn :=
  (AFn.mk 10 1 (ACode.seq (ACode.reg l32r0) (ACode.seq (ACode.reg l32r1) ACode.ret)) [ARes.tmp 2])
theorem l32_eq : lowFn Try.prog 32 = some l32 := by kernel_rfl
def l34r0 : List AOper :=
  [AOper.mk (some 4) (.mv (.const (.int .i64 0))) none []]
def l34r1 : List AOper :=
  [AOper.mk (some 7) (.mv (.tmp 0)) none [], AOper.mk (some 8) (.mv (.tmp 0)) none [], AOper.mk (some 9) (.nilck (.tmp 8)) none [1], AOper.mk (some 10) (.fld 1 (.tmp 9)) none [2], AOper.mk (some 11) (.load false 1 (.tmp 10)) none [3], AOper.mk (some 12) (.bin .add (.tmp 11) (.const (.int .i64 1))) none [4], AOper.mk (some 13) (.nilck (.tmp 7)) none [0, 0, 1, 2, 3, 4, 5], AOper.mk (some 14) (.fld 1 (.tmp 13)) none [6, 0, 1, 2, 3, 4, 5], AOper.mk none (.store 1 (.tmp 14) (.tmp 12)) none [7, 5, 0, 1, 2, 3, 4, 5]]
def l34r2 : List AOper :=
  [AOper.mk (some 15) (.mv (.tmp 1)) none [], AOper.mk (some 16) (.bin .lss (.tmp 15) (.const (.int .i64 1))) none [0], AOper.mk (some 17) (.mv (.tmp 16)) none [1], AOper.mk (some 18) (.mv (.tmp 0)) (some (17, false)) [2], AOper.mk (some 19) (.nilck (.tmp 18)) (some (17, false)) [3, 2], AOper.mk (some 20) (.fld 0 (.tmp 19)) (some (17, false)) [4, 2], AOper.mk (some 21) (.load false 1 (.tmp 20)) (some (17, false)) [5, 2], AOper.mk (some 22) (.len (.tmp 21)) (some (17, false)) [6, 2], AOper.mk (some 23) (.bin .eql (.tmp 22) (.const (.int .i64 0))) (some (17, false)) [7, 2], AOper.mk (some 24) (.pick (.tmp 17) (.const (.bool true)) (.tmp 23)) none [2, 8]]
def l34r3 : List AOper :=
  [AOper.mk (some 4) (.mv (.const (.int .i64 0))) none []]
def l34r4 : List AOper :=
  [AOper.mk (some 25) (.mv (.tmp 0)) none [], AOper.mk (some 26) (.nilck (.tmp 25)) none [0], AOper.mk (some 27) (.fld 1 (.tmp 26)) none [1], AOper.mk (some 28) (.load false 1 (.tmp 27)) none [2], AOper.mk (some 29) (.bin .sub (.tmp 28) (.const (.int .i64 1))) none [3], AOper.mk (some 5) (.mv (.tmp 29)) none [4, 0, 1, 2, 3, 4]]
def l34r5 : List AOper :=
  [AOper.mk (some 30) (.mv (.tmp 5)) none [], AOper.mk (some 31) (.mv (.tmp 0)) none [], AOper.mk (some 32) (.nilck (.tmp 31)) none [1], AOper.mk (some 33) (.fld 0 (.tmp 32)) none [2], AOper.mk (some 34) (.load false 1 (.tmp 33)) none [3], AOper.mk (some 35) (.len (.tmp 34)) none [4], AOper.mk (some 36) (.bin .lss (.tmp 30) (.tmp 35)) none [0, 5]]
def l34r6 : List AOper :=
  [AOper.mk (some 37) (.mv (.tmp 0)) none [], AOper.mk (some 38) (.nilck (.tmp 37)) none [0], AOper.mk (some 39) (.fld 0 (.tmp 38)) none [1], AOper.mk (some 40) (.load false 1 (.tmp 39)) none [2], AOper.mk (some 41) (.mv (.tmp 5)) none [], AOper.mk (some 42) (.idxA 1 (.tmp 40) (.tmp 41)) none [3, 4], AOper.mk (some 43) (.load false 1 (.tmp 42)) none [5], AOper.mk (some 44) (.conv .i64 (.tmp 43)) none [6], AOper.mk (some 45) (.mv (.tmp 1)) none [], AOper.mk (some 46) (.bin .rem (.tmp 44) (.tmp 45)) none [7, 8], AOper.mk (some 4) (.mv (.tmp 46)) none [9, 0, 1, 2, 3, 4, 5, 6, 7, 8, 9]]
def l34r7a : List AOper :=
  [AOper.mk (some 47) (.mv (.tmp 0)) none [], AOper.mk (some 48) (.nilck (.tmp 47)) none [0], AOper.mk (some 49) (.fld 0 (.tmp 48)) none [1], AOper.mk (some 50) (.load false 1 (.tmp 49)) none [2], AOper.mk (some 51) (.mv (.tmp 5)) none [], AOper.mk (some 52) (.mv (.tmp 0)) none [], AOper.mk (some 53) (.nilck (.tmp 52)) none [5], AOper.mk (some 54) (.fld 0 (.tmp 53)) none [6], AOper.mk (some 55) (.load false 1 (.tmp 54)) none [7], AOper.mk (some 56) (.len (.tmp 55)) none [8], AOper.mk (some 57) (.bin .rem (.tmp 51) (.tmp 56)) none [4, 9], AOper.mk (some 58) (.idxA 1 (.tmp 50) (.tmp 57)) none [3, 10], AOper.mk (some 59) (.load false 1 (.tmp 58)) none [11], AOper.mk (some 60) (.conv .i64 (.tmp 59)) none [12], AOper.mk (some 61) (.bin .mul (.tmp 60) (.const (.int .i64 131))) none [13], AOper.mk (some 62) (.mv (.tmp 0)) none [], AOper.mk (some 63) (.nilck (.tmp 62)) none [15], AOper.mk (some 64) (.fld 0 (.tmp 63)) none [16], AOper.mk (some 65) (.load false 1 (.tmp 64)) none [17], AOper.mk (some 66) (.mv (.tmp 5)) none [], AOper.mk (some 67) (.bin .mul (.tmp 66) (.const (.int .i64 7))) none [19], AOper.mk (some 68) (.bin .add (.tmp 67) (.const (.int .i64 3))) none [20], AOper.mk (some 69) (.mv (.tmp 0)) none [], AOper.mk (some 70) (.nilck (.tmp 69)) none [22], AOper.mk (some 71) (.fld 0 (.tmp 70)) none [23], AOper.mk (some 72) (.load false 1 (.tmp 71)) none [24], AOper.mk (some 73) (.len (.tmp 72)) none [25], AOper.mk (some 74) (.bin .rem (.tmp 68) (.tmp 73)) none [21, 26], AOper.mk (some 75) (.idxA 1 (.tmp 65) (.tmp 74)) none [18, 27], AOper.mk (some 76) (.load false 1 (.tmp 75)) none [28], AOper.mk (some 77) (.conv .i64 (.tmp 76)) none [29], AOper.mk (some 78) (.bin .mul (.tmp 77) (.const (.int .i64 1117))) none [30], AOper.mk (some 79) (.bin .add (.tmp 61) (.tmp 78)) none [14, 31], AOper.mk (some 80) (.mv (.tmp 5)) none [], AOper.mk (some 81) (.bin .mul (.tmp 80) (.const (.int .i64 29))) none [33], AOper.mk (some 82) (.bin .add (.tmp 79) (.tmp 81)) none [32, 34], AOper.mk (some 83) (.mv (.tmp 5)) none [], AOper.mk (some 84) (.mv (.tmp 0)) none [], AOper.mk (some 85) (.nilck (.tmp 84)) none [37], AOper.mk (some 86) (.fld 0 (.tmp 85)) none [38], AOper.mk (some 87) (.load false 1 (.tmp 86)) none [39], AOper.mk (some 88) (.len (.tmp 87)) none [40], AOper.mk (some 89) (.bin .quo (.tmp 83) (.tmp 88)) none [36, 41], AOper.mk (some 90) (.bin .mul (.tmp 89) (.const (.int .i64 53))) none [42]]
def l34r7b : List AOper :=
  [AOper.mk (some 91) (.bin .add (.tmp 82) (.tmp 90)) none [35, 43], AOper.mk (some 6) (.mv (.tmp 91)) none [44, 0, 1, 2, 3, 4, 5, 6, 7, 8, 9, 10, 11, 12, 13, 14, 15, 16, 17, 18, 19, 20, 21, 22, 23, 24, 25, 26, 27, 28, 29, 30, 31, 32, 33, 34, 35, 36, 37, 38, 39, 40, 41, 42, 43, 44]]
def l34r7 : List AOper := l34r7a ++ l34r7b
def l34r8 : List AOper :=
  [AOper.mk (some 92) (.mv (.tmp 6)) none [], AOper.mk (some 93) (.mv (.tmp 6)) none [], AOper.mk (some 94) (.bin .quo (.tmp 93) (.const (.int .i64 64))) none [1], AOper.mk (some 95) (.bin .xor (.tmp 92) (.tmp 94)) none [0, 2], AOper.mk (some 6) (.mv (.tmp 95)) none [3, 0, 1, 2, 3]]
def l34r9 : List AOper :=
  [AOper.mk (some 96) (.mv (.tmp 6)) none [], AOper.mk (some 97) (.mv (.tmp 1)) none [], AOper.mk (some 98) (.bin .rem (.tmp 96) (.tmp 97)) none [0, 1], AOper.mk (some 4) (.mv (.tmp 98)) none [2, 0, 1, 2]]
def l34 : AFn :=
  (AFn.mk 99 2 (ACode.seq (ACode.reg l34r0) (ACode.seq (ACode.reg l34r1) (ACode.seq (ACode.seq (ACode.reg l34r2) (ACode.cond (.tmp 24) (ACode.seq (ACode.reg l34r3) ACode.ret) ACode.skip)) (ACode.seq (ACode.reg l34r4) (ACode.seq (ACode.seq (ACode.reg l34r5) (ACode.cond (.tmp 36) (ACode.seq (ACode.reg l34r6) ACode.ret) ACode.skip)) (ACode.seq (ACode.draw l34r7) (ACode.seq (ACode.reg l34r8) (ACode.seq (ACode.reg l34r9) ACode.ret)))))))) [ARes.tmp 4])
theorem l34_eq : lowFn Try.prog 34 = some l34 := by kernel_rfl
def l35r0 : List AOper :=
  [AOper.mk (some 4) (.mv (.const (.int .i64 0))) none []]
def l35r1 : List AOper :=
  [AOper.mk (some 5) (.mv (.tmp 1)) none [], AOper.mk (some 6) (.mv (.tmp 0)) none [], AOper.mk (some 7) (.mv (.tmp 1)) none [], AOper.mk (some 8) (.len (.tmp 7)) none [2], AOper.mk (some 9) (.call 34 [.tmp 6, .tmp 8]) none [1, 3], AOper.mk (some 10) (.idxA 1 (.tmp 5) (.tmp 9)) none [0, 4], AOper.mk (some 11) (.load false 1 (.tmp 10)) none [5], AOper.mk (some 4) (.mv (.tmp 11)) none [6, 4, 0, 1, 2, 3, 4, 5, 6]]
def l35 : AFn :=
  (AFn.mk 12 2 (ACode.seq (ACode.reg l35r0) (ACode.seq (ACode.reg l35r1) ACode.ret)) [ARes.tmp 4])
theorem l35_eq : lowFn Try.prog 35 = some l35 := by kernel_rfl
def l39r0 : List AOper :=
  [AOper.mk (some 6) (.mv (.const (.bool false))) none []]
def l39r1 : List AOper :=
  [AOper.mk (some 7) (.mv (.const (.int .i64 0))) none []]
def l39r2 : List AOper :=
  [AOper.mk (some 8) (.mv (.tmp 7)) none [], AOper.mk (some 9) (.mv (.tmp 0)) none [], AOper.mk (some 10) (.len (.tmp 9)) none [1], AOper.mk (some 11) (.bin .lss (.tmp 8) (.tmp 10)) none [0, 2]]
def l39r3 : List AOper :=
  [AOper.mk (some 14) (.mv (.tmp 0)) none [], AOper.mk (some 15) (.mv (.tmp 7)) none [], AOper.mk (some 16) (.idxA 1 (.tmp 14) (.tmp 15)) none [0, 1], AOper.mk (some 17) (.load false 1 (.tmp 16)) none [2], AOper.mk (some 18) (.mv (.tmp 1)) none [], AOper.mk (some 19) (.mv (.tmp 2)) none [], AOper.mk (some 20) (.call 40 [.tmp 17, .tmp 18, .tmp 19]) none [3, 4, 5], AOper.mk (some 21) (.un .not (.tmp 20)) none [6]]
def l39r4 : List AOper :=
  [AOper.mk (some 6) (.mv (.const (.bool false))) none []]
def l39r5 : List AOper :=
  [AOper.mk (some 12) (.mv (.tmp 7)) none [], AOper.mk (some 13) (.bin .add (.tmp 12) (.const (.int .i64 1))) none [0], AOper.mk (some 7) (.mv (.tmp 13)) none [1, 0, 1]]
def l39r6 : List AOper :=
  [AOper.mk (some 6) (.mv (.const (.bool true))) none []]
def l39 : AFn :=
  (AFn.mk 22 3 (ACode.seq (ACode.reg l39r0) (ACode.seq (ACode.seq (ACode.reg l39r1) (ACode.block 0 (ACode.loop (ACode.seq (ACode.seq (ACode.reg l39r2) (ACode.cond (.tmp 11) ACode.skip (ACode.exit 0))) (ACode.seq (ACode.block 1 (ACode.seq (ACode.reg l39r3) (ACode.cond (.tmp 21) (ACode.seq (ACode.reg l39r4) ACode.ret) ACode.skip))) (ACode.reg l39r5)))))) (ACode.seq (ACode.reg l39r6) ACode.ret))) [ARes.tmp 6])
theorem l39_eq : lowFn Try.prog 39 = some l39 := by kernel_rfl
def l40r0 : List AOper :=
  [AOper.mk (some 6) (.mv (.const (.bool false))) none []]
def l40r1 : List AOper :=
  [AOper.mk (some 7) (.mv (.tmp 1)) none [], AOper.mk (some 8) (.mv (.tmp 0)) none [], AOper.mk (some 9) (.bin .leq (.tmp 7) (.tmp 8)) none [0, 1], AOper.mk (some 10) (.mv (.tmp 9)) none [2], AOper.mk (some 11) (.mv (.tmp 0)) (some (10, true)) [3], AOper.mk (some 12) (.mv (.tmp 2)) (some (10, true)) [3], AOper.mk (some 13) (.bin .leq (.tmp 11) (.tmp 12)) (some (10, true)) [4, 5, 3], AOper.mk (some 14) (.pick (.tmp 10) (.tmp 13) (.const (.bool false))) none [3, 6], AOper.mk (some 6) (.mv (.tmp 14)) none [7, 3, 0, 1, 2, 3, 4, 5, 6, 7]]
def l40 : AFn :=
  (AFn.mk 15 3 (ACode.seq (ACode.reg l40r0) (ACode.seq (ACode.reg l40r1) ACode.ret)) [ARes.tmp 6])
theorem l40_eq : lowFn Try.prog 40 = some l40 := by kernel_rfl
end Go.Proofs.Ytjkdeemhmohoaaa
