import Derived.Test.YtcfjemmoajdcoaaCW3
import Derived.Test.YtcfjemmoajdcoaaProg
import Derived.KernelRfl
set_option maxRecDepth 100000
namespace Go.Proofs.Ytcfjemmoajdcoaa
open Vw Go
instance globs : Inhabited GlobT := ⟨⟨[]⟩⟩
def l8r0 : List AOper :=
  [AOper.mk (some 2) (.mv (.const (.bool false))) none []]
def l8r1 : List AOper :=
  [AOper.mk (some 6) (.mv (.tmp 0)) none [], AOper.mk (some 7) (.len (.tmp 6)) none [0], AOper.mk (some 8) (.bin .gtr (.tmp 7) (.const (.int .i64 1048576))) none [1]]
def l8r2 : List AOper :=
  [AOper.mk (some 2) (.mv (.const (.bool true))) none []]
def l8r3 : List AOper :=
  [AOper.mk (some 10) (.mv (.tmp 0)) none [], AOper.mk (some 11) (.call 33 [.tmp 10]) none [0], AOper.mk (some 9) (.mv (.tmp 11)) none [1], AOper.mk (some 12) (.extract (.tmp 9) 0) none [2], AOper.mk (some 13) (.extract (.tmp 9) 1) none [2], AOper.mk (some 3) (.mv (.tmp 12)) none [3, 1, 0, 1, 2, 3], AOper.mk (some 4) (.mv (.tmp 13)) none [4, 5, 0, 1, 2, 3, 4, 5]]
def l8r4 : List AOper :=
  [AOper.mk (some 14) (.mv (.tmp 3)) none [], AOper.mk (some 15) (.mv (.tmp 4)) none [], AOper.mk (some 16) (.call 34 [.tmp 14, .tmp 15]) none [0, 1], AOper.mk (some 5) (.mv (.tmp 16)) none [2, 2, 0, 1, 2]]
def l8r5 : List AOper :=
  [AOper.mk (some 17) (.mv (.tmp 5)) none [], AOper.mk (some 18) (.mv (.tmp 3)) none [], AOper.mk (some 19) (.mv (.tmp 4)) none [], AOper.mk (some 20) (.call 35 [.tmp 18, .tmp 19]) none [1, 2], AOper.mk (some 21) (.call 12 [.tmp 17, .tmp 20]) none [0, 3, 3], AOper.mk (some 22) (.un .not (.tmp 21)) none [4], AOper.mk (some 23) (.mv (.tmp 22)) none [5, 4], AOper.mk (some 24) (.mv (.tmp 3)) (some (23, false)) [6], AOper.mk (some 25) (.call 14 [.tmp 24]) (some (23, false)) [7, 6, 6], AOper.mk (some 26) (.un .not (.tmp 25)) (some (23, false)) [8, 6], AOper.mk (some 27) (.pick (.tmp 23) (.const (.bool true)) (.tmp 26)) none [6, 9], AOper.mk (some 28) (.mv (.tmp 27)) none [10, 8], AOper.mk (some 29) (.mv (.tmp 4)) (some (28, false)) [11], AOper.mk (some 30) (.call 14 [.tmp 29]) (some (28, false)) [12, 11, 11], AOper.mk (some 31) (.un .not (.tmp 30)) (some (28, false)) [13, 11], AOper.mk (some 32) (.pick (.tmp 28) (.const (.bool true)) (.tmp 31)) none [11, 14], AOper.mk (some 33) (.mv (.tmp 32)) none [15, 13], AOper.mk (some 34) (.mv (.tmp 3)) (some (33, false)) [16], AOper.mk (some 35) (.len (.tmp 34)) (some (33, false)) [17, 16], AOper.mk (some 36) (.mv (.tmp 4)) (some (33, false)) [16], AOper.mk (some 37) (.len (.tmp 36)) (some (33, false)) [19, 16], AOper.mk (some 38) (.bin .neq (.tmp 35) (.tmp 37)) (some (33, false)) [18, 20, 16], AOper.mk (some 39) (.pick (.tmp 33) (.const (.bool true)) (.tmp 38)) none [16, 21]]
def l8r6 : List AOper :=
  [AOper.mk (some 40) (.mv (.tmp 5)) none [], AOper.mk (some 41) (.mv (.tmp 3)) none [], AOper.mk (some 42) (.mv (.tmp 4)) none [], AOper.mk (some 43) (.call 35 [.tmp 41, .tmp 42]) none [1, 2], AOper.mk (some 44) (.call 12 [.tmp 40, .tmp 43]) none [0, 3, 3], AOper.mk (some 2) (.mv (.tmp 44)) none [4, 4, 0, 1, 2, 3, 4]]
def l8r7 : List AOper :=
  [AOper.mk (some 45) (.mv (.tmp 4)) none [], AOper.mk (some 46) (.mv (.tmp 3)) none [], AOper.mk (some 47) (.call 34 [.tmp 45, .tmp 46]) none [0, 1], AOper.mk (some 48) (.mv (.tmp 5)) none [], AOper.mk (some 49) (.call 12 [.tmp 47, .tmp 48]) none [2, 3, 2], AOper.mk (some 50) (.mv (.tmp 49)) none [4, 4], AOper.mk (some 51) (.mv (.tmp 3)) (some (50, true)) [5], AOper.mk (some 52) (.mv (.tmp 3)) (some (50, true)) [5], AOper.mk (some 53) (.call 34 [.tmp 51, .tmp 52]) (some (50, true)) [6, 7, 5, 5], AOper.mk (some 54) (.len (.tmp 53)) (some (50, true)) [8, 5], AOper.mk (some 55) (.bin .eql (.tmp 54) (.const (.int .i64 0))) (some (50, true)) [9, 5], AOper.mk (some 56) (.pick (.tmp 50) (.tmp 55) (.const (.bool false))) none [5, 10], AOper.mk (some 57) (.mv (.tmp 56)) none [11, 8], AOper.mk (some 58) (.mv (.tmp 5)) (some (57, true)) [12], AOper.mk (some 59) (.call 36 [.tmp 58]) (some (57, true)) [13, 12, 12], AOper.mk (some 60) (.pick (.tmp 57) (.tmp 59) (.const (.bool false))) none [12, 14], AOper.mk (some 61) (.mv (.tmp 60)) none [15, 14], AOper.mk (some 62) (.mv (.tmp 5)) (some (61, true)) [16], AOper.mk (some 63) (.len (.tmp 62)) (some (61, true)) [17, 16], AOper.mk (some 64) (.bin .eql (.tmp 63) (.const (.int .i64 0))) (some (61, true)) [18, 16], AOper.mk (some 65) (.mv (.tmp 3)) (some (61, true)) [16], AOper.mk (some 66) (.mv (.tmp 4)) (some (61, true)) [16], AOper.mk (some 67) (.call 12 [.tmp 65, .tmp 66]) (some (61, true)) [20, 21, 16, 16], AOper.mk (some 68) (.binB .eql (.tmp 64) (.tmp 67)) (some (61, true)) [19, 22, 16], AOper.mk (some 69) (.pick (.tmp 61) (.tmp 68) (.const (.bool false))) none [16, 23], AOper.mk (some 2) (.mv (.tmp 69)) none [24, 22, 0, 1, 2, 3, 4, 5, 6, 7, 8, 9, 10, 11, 12, 13, 14, 15, 16, 17, 18, 19, 20, 21, 22, 23, 24]]
def l8 : AFn :=
  (AFn.mk 70 1 (ACode.seq (ACode.reg l8r0) (ACode.seq (ACode.seq (ACode.reg l8r1) (ACode.cond (.tmp 8) (ACode.seq (ACode.reg l8r2) ACode.ret) ACode.skip)) (ACode.seq (ACode.reg l8r3) (ACode.seq (ACode.reg l8r4) (ACode.seq (ACode.seq (ACode.reg l8r5) (ACode.cond (.tmp 39) (ACode.seq (ACode.reg l8r6) ACode.ret) ACode.skip)) (ACode.seq (ACode.reg l8r7) ACode.ret)))))) [ARes.tmp 2])
theorem l8_eq : lowFn Try.prog 8 = some l8 := by kernel_rfl
def l12r0 : List AOper :=
  [AOper.mk (some 4) (.mv (.const (.bool false))) none []]
def l12r1 : List AOper :=
  [AOper.mk (some 6) (.mv (.tmp 0)) none [], AOper.mk (some 7) (.len (.tmp 6)) none [0], AOper.mk (some 8) (.mv (.tmp 1)) none [], AOper.mk (some 9) (.len (.tmp 8)) none [2], AOper.mk (some 10) (.bin .neq (.tmp 7) (.tmp 9)) none [1, 3]]
def l12r2 : List AOper :=
  [AOper.mk (some 4) (.mv (.const (.bool false))) none []]
def l12r3 : List AOper :=
  [AOper.mk (some 5) (.mv (.const (.int .i64 0))) none []]
def l12r4 : List AOper :=
  [AOper.mk (some 11) (.mv (.tmp 5)) none [], AOper.mk (some 12) (.mv (.tmp 0)) none [], AOper.mk (some 13) (.len (.tmp 12)) none [1], AOper.mk (some 14) (.bin .lss (.tmp 11) (.tmp 13)) none [0, 2]]
def l12r5a : List AOper :=
  [AOper.mk (some 17) (.mv (.tmp 0)) none [], AOper.mk (some 18) (.mv (.tmp 5)) none [], AOper.mk (some 19) (.idxA 1 (.tmp 17) (.tmp 18)) none [0, 1], AOper.mk (some 20) (.load false 1 (.tmp 19)) none [2], AOper.mk (some 21) (.mv (.tmp 1)) none [], AOper.mk (some 22) (.mv (.tmp 5)) none [], AOper.mk (some 23) (.idxA 1 (.tmp 21) (.tmp 22)) none [4, 5], AOper.mk (some 24) (.load false 1 (.tmp 23)) none [6]]
def l12r5b : List AOper :=
  [AOper.mk (some 25) (.bin .neq (.tmp 20) (.tmp 24)) none [3, 7]]
def l12r5 : List AOper := l12r5a ++ l12r5b
def l12r6 : List AOper :=
  [AOper.mk (some 4) (.mv (.const (.bool false))) none []]
def l12r7 : List AOper :=
  [AOper.mk (some 15) (.mv (.tmp 5)) none [], AOper.mk (some 16) (.bin .add (.tmp 15) (.const (.int .i64 1))) none [0], AOper.mk (some 5) (.mv (.tmp 16)) none [1, 0, 1]]
def l12r8 : List AOper :=
  [AOper.mk (some 4) (.mv (.const (.bool true))) none []]
def l12 : AFn :=
  (AFn.mk 26 2 (ACode.seq (ACode.reg l12r0) (ACode.seq (ACode.seq (ACode.reg l12r1) (ACode.cond (.tmp 10) (ACode.seq (ACode.reg l12r2) ACode.ret) ACode.skip)) (ACode.seq (ACode.seq (ACode.reg l12r3) (ACode.block 0 (ACode.loop (ACode.seq (ACode.seq (ACode.reg l12r4) (ACode.cond (.tmp 14) ACode.skip (ACode.exit 0))) (ACode.seq (ACode.block 1 (ACode.seq (ACode.draw l12r5) (ACode.cond (.tmp 25) (ACode.seq (ACode.reg l12r6) ACode.ret) ACode.skip))) (ACode.reg l12r7)))))) (ACode.seq (ACode.reg l12r8) ACode.ret)))) [ARes.tmp 4])
theorem l12_eq : lowFn Try.prog 12 = some l12 := by kernel_rfl
def l14r0 : List AOper :=
  [AOper.mk (some 2) (.mv (.const (.bool false))) none []]
def l14r1 : List AOper :=
  [AOper.mk (some 3) (.mv (.tmp 0)) none [], AOper.mk (some 4) (.len (.tmp 3)) none [0], AOper.mk (some 5) (.call 50 [.tmp 4]) none [1], AOper.mk (some 6) (.mv (.tmp 5)) none [2, 2], AOper.mk (some 7) (.mv (.tmp 0)) (some (6, true)) [3], AOper.mk (some 8) (.call 51 [.tmp 7]) (some (6, true)) [4, 3, 3], AOper.mk (some 9) (.pick (.tmp 6) (.tmp 8) (.const (.bool false))) none [3, 5], AOper.mk (some 2) (.mv (.tmp 9)) none [6, 5, 0, 1, 2, 3, 4, 5, 6]]
def l14 : AFn :=
  (AFn.mk 10 1 (ACode.seq (ACode.reg l14r0) (ACode.seq (ACode.reg l14r1) ACode.ret)) [ARes.tmp 2])
theorem l14_eq : lowFn Try.prog 14 = some l14 := by kernel_rfl
def l33r0 : List AOper :=
  [AOper.mk (some 2) (.mv (.const (.slice none 0 0))) none [], AOper.mk (some 3) (.mv (.const (.slice none 0 0))) none [0]]
def l33r1 : List AOper :=
  [AOper.mk (some 8) (.mv (.tmp 0)) none [], AOper.mk (some 9) (.call 45 [.tmp 8]) none [0], AOper.mk (some 4) (.mv (.tmp 9)) none [1, 1, 0, 1]]
def l33r2 : List AOper :=
  [AOper.mk (some 10) (.mv (.tmp 4)) none [], AOper.mk (some 11) (.call 73 [.tmp 10]) none [0], AOper.mk (some 5) (.mv (.tmp 11)) none [1, 1, 0, 1]]
def l33r3 : List AOper :=
  [AOper.mk (some 12) (.mv (.tmp 5)) none [], AOper.mk (some 13) (.call 72 [.tmp 12]) none [0], AOper.mk (some 6) (.mv (.tmp 13)) none [1, 1, 0, 1]]
def l33r4 : List AOper :=
  [AOper.mk (some 14) (.mv (.tmp 4)) none [], AOper.mk (some 15) (.call 74 [.tmp 14, .const (.int .i64 4)]) none [0], AOper.mk (some 7) (.mv (.tmp 15)) none [1, 1, 0, 1]]
def l33r5 : List AOper :=
  [AOper.mk (some 16) (.mv (.tmp 7)) none [], AOper.mk (some 17) (.bin .gtr (.tmp 16) (.const (.int .i64 0))) none [0]]
def l33r6 : List AOper :=
  [AOper.mk (some 20) (.mv (.tmp 6)) none [], AOper.mk (some 21) (.mv (.tmp 4)) none [], AOper.mk (some 22) (.mv (.tmp 6)) none [], AOper.mk (some 23) (.len (.tmp 22)) none [2], AOper.mk (some 24) (.call 74 [.tmp 21, .tmp 23]) none [1, 3], AOper.mk (some 25) (.mv (.tmp 4)) none [], AOper.mk (some 26) (.call 74 [.tmp 25, .const (.int .i64 256)]) none [5, 4], AOper.mk (some 27) (.idxA 1 (.tmp 20) (.tmp 24)) none [0, 4, 0, 1, 2, 3, 4, 5, 6], AOper.mk none (.store 1 (.tmp 27) (.tmp 26)) none [7, 6, 6, 0, 1, 2, 3, 4, 5, 6]]
def l33r7 : List AOper :=
  [AOper.mk (some 18) (.mv (.tmp 7)) none [], AOper.mk (some 19) (.bin .sub (.tmp 18) (.const (.int .i64 1))) none [0], AOper.mk (some 7) (.mv (.tmp 19)) none [1, 0, 1]]
def l33r8 : List AOper :=
  [AOper.mk (some 28) (.mv (.tmp 4)) none [], AOper.mk (some 29) (.call 74 [.tmp 28, .const (.int .i64 16)]) none [0], AOper.mk (some 30) (.bin .eql (.tmp 29) (.const (.int .i64 0))) none [1]]
def l33r9 : List AOper :=
  [AOper.mk (some 31) (.mv (.tmp 6)) none [], AOper.mk (some 32) (.slice 1 (.tmp 31) (some (.const (.int .i64 1))) none) none [0], AOper.mk (some 6) (.mv (.tmp 32)) none [1, 0, 1]]
def l33r10 : List AOper :=
  [AOper.mk (some 33) (.mv (.tmp 5)) none [], AOper.mk (some 34) (.mv (.tmp 6)) none [], AOper.mk (some 2) (.mv (.tmp 33)) none [0, 0], AOper.mk (some 3) (.mv (.tmp 34)) none [1, 2, 0, 1, 2]]
def l33 : AFn :=
  (AFn.mk 35 1 (ACode.seq (ACode.reg l33r0) (ACode.seq (ACode.reg l33r1) (ACode.seq (ACode.reg l33r2) (ACode.seq (ACode.reg l33r3) (ACode.seq (ACode.seq (ACode.reg l33r4) (ACode.block 0 (ACode.loop (ACode.seq (ACode.seq (ACode.reg l33r5) (ACode.cond (.tmp 17) ACode.skip (ACode.exit 0))) (ACode.seq (ACode.block 1 (ACode.reg l33r6)) (ACode.reg l33r7)))))) (ACode.seq (ACode.seq (ACode.reg l33r8) (ACode.cond (.tmp 30) (ACode.reg l33r9) ACode.skip)) (ACode.seq (ACode.reg l33r10) ACode.ret))))))) [ARes.tmp 2, ARes.tmp 3])
theorem l33_eq : lowFn Try.prog 33 = some l33 := by kernel_rfl
def l34r0 : List AOper :=
  [AOper.mk (some 4) (.mv (.const (.slice none 0 0))) none []]
def l34r1 : List AOper :=
  [AOper.mk (some 8) (.mv (.tmp 0)) none [], AOper.mk (some 9) (.call 14 [.tmp 8]) none [0], AOper.mk (some 10) (.un .not (.tmp 9)) none [1], AOper.mk (some 11) (.mv (.tmp 10)) none [2, 1], AOper.mk (some 12) (.mv (.tmp 1)) (some (11, false)) [3], AOper.mk (some 13) (.call 14 [.tmp 12]) (some (11, false)) [4, 3, 3], AOper.mk (some 14) (.un .not (.tmp 13)) (some (11, false)) [5, 3], AOper.mk (some 15) (.pick (.tmp 11) (.const (.bool true)) (.tmp 14)) none [3, 6], AOper.mk (some 16) (.mv (.tmp 15)) none [7, 5], AOper.mk (some 17) (.mv (.tmp 0)) (some (16, false)) [8], AOper.mk (some 18) (.len (.tmp 17)) (some (16, false)) [9, 8], AOper.mk (some 19) (.mv (.tmp 1)) (some (16, false)) [8], AOper.mk (some 20) (.len (.tmp 19)) (some (16, false)) [11, 8], AOper.mk (some 21) (.bin .neq (.tmp 18) (.tmp 20)) (some (16, false)) [10, 12, 8], AOper.mk (some 22) (.pick (.tmp 16) (.const (.bool true)) (.tmp 21)) none [8, 13]]
def l34r2 : List AOper :=
  [AOper.mk (some 4) (.mv (.const (.slice none 0 0))) none []]
def l34r3 : List AOper :=
  [AOper.mk (some 5) (.mv (.const (.slice none 0 0))) none []]
def l34r4 : List AOper :=
  [AOper.mk (some 23) (.mv (.tmp 0)) none [], AOper.mk (some 24) (.len (.tmp 23)) none [0], AOper.mk (some 25) (.mv (.const (.int .i64 0))) none []]
def l34r5 : List AOper :=
  [AOper.mk (some 26) (.bin .lss (.tmp 25) (.tmp 24)) none []]
def l34r6 : List AOper :=
  [AOper.mk (some 27) (.mv (.tmp 25)) none [], AOper.mk (some 28) (.idxA 1 (.tmp 23) (.tmp 25)) none [], AOper.mk (some 29) (.load false 1 (.tmp 28)) none [1], AOper.mk (some 6) (.mv (.tmp 27)) none [0, 0, 1, 2], AOper.mk (some 7) (.mv (.tmp 29)) none [2, 3, 0, 1, 2, 3]]
def l34r7 : List AOper :=
  [AOper.mk (some 30) (.mv (.tmp 7)) none [], AOper.mk (some 31) (.mv (.tmp 1)) none [], AOper.mk (some 32) (.mv (.tmp 6)) none [], AOper.mk (some 33) (.idxA 1 (.tmp 31) (.tmp 32)) none [1, 2], AOper.mk (some 34) (.load false 1 (.tmp 33)) none [3], AOper.mk (some 35) (.bin .neq (.tmp 30) (.tmp 34)) none [0, 4]]
def l34r8 : List AOper :=
  [AOper.mk (some 36) (.mv (.tmp 5)) none [], AOper.mk (some 37) (.mv (.tmp 6)) none [], AOper.mk (some 38) (.bslice 1 [.int .i64 0] [(0, .tmp 37)] 1) none [1], AOper.mk (some 39) (.append 1 (.tmp 36) (.tmp 38)) none [0, 2], AOper.mk (some 5) (.mv (.tmp 39)) none [3, 3, 0, 1, 2, 3]]
def l34r9 : List AOper :=
  [AOper.mk (some 40) (.bin .add (.tmp 25) (.const (.int .i64 1))) none [], AOper.mk (some 25) (.mv (.tmp 40)) none [0]]
def l34r10 : List AOper :=
  [AOper.mk (some 41) (.mv (.tmp 5)) none [], AOper.mk (some 4) (.mv (.tmp 41)) none [0, 0]]
def l34 : AFn :=
  (AFn.mk 42 2 (ACode.seq (ACode.reg l34r0) (ACode.seq (ACode.seq (ACode.reg l34r1) (ACode.cond (.tmp 22) (ACode.seq (ACode.reg l34r2) ACode.ret) ACode.skip)) (ACode.seq (ACode.reg l34r3) (ACode.seq (ACode.seq (ACode.reg l34r4) (ACode.block 0 (ACode.loop (ACode.seq (ACode.reg l34r5) (ACode.seq (ACode.cond (.tmp 26) ACode.skip (ACode.exit 0)) (ACode.seq (ACode.block 1 (ACode.seq (ACode.reg l34r6) (ACode.seq (ACode.reg l34r7) (ACode.cond (.tmp 35) (ACode.reg l34r8) ACode.skip)))) (ACode.reg l34r9))))))) (ACode.seq (ACode.reg l34r10) ACode.ret))))) [ARes.tmp 4])
theorem l34_eq : lowFn Try.prog 34 = some l34 := by kernel_rfl
def l35r0 : List AOper :=
  [AOper.mk (some 4) (.mv (.const (.slice none 0 0))) none []]
def l35r1 : List AOper :=
  [AOper.mk (some 7) (.mv (.tmp 0)) none [], AOper.mk (some 8) (.call 75 [.tmp 7]) none [0], AOper.mk (some 9) (.un .not (.tmp 8)) none [1], AOper.mk (some 10) (.mv (.tmp 9)) none [2, 1], AOper.mk (some 11) (.mv (.tmp 1)) (some (10, false)) [3], AOper.mk (some 12) (.call 75 [.tmp 11]) (some (10, false)) [4, 3, 3], AOper.mk (some 13) (.un .not (.tmp 12)) (some (10, false)) [5, 3], AOper.mk (some 14) (.pick (.tmp 10) (.const (.bool true)) (.tmp 13)) none [3, 6], AOper.mk (some 15) (.mv (.tmp 14)) none [7, 5], AOper.mk (some 16) (.mv (.tmp 0)) (some (15, false)) [8], AOper.mk (some 17) (.len (.tmp 16)) (some (15, false)) [9, 8], AOper.mk (some 18) (.mv (.tmp 1)) (some (15, false)) [8], AOper.mk (some 19) (.len (.tmp 18)) (some (15, false)) [11, 8], AOper.mk (some 20) (.bin .neq (.tmp 17) (.tmp 19)) (some (15, false)) [10, 12, 8], AOper.mk (some 21) (.pick (.tmp 15) (.const (.bool true)) (.tmp 20)) none [8, 13]]
def l35r2 : List AOper :=
  [AOper.mk (some 4) (.mv (.const (.slice none 0 0))) none []]
def l35r3 : List AOper :=
  [AOper.mk (some 22) (.bslice 1 [.int .i64 0] [] 0) none [], AOper.mk (some 5) (.mv (.tmp 22)) none [0, 0]]
def l35r4 : List AOper :=
  [AOper.mk (some 6) (.mv (.const (.int .i64 0))) none []]
def l35r5 : List AOper :=
  [AOper.mk (some 23) (.mv (.tmp 6)) none [], AOper.mk (some 24) (.mv (.tmp 0)) none [], AOper.mk (some 25) (.len (.tmp 24)) none [1], AOper.mk (some 26) (.bin .lss (.tmp 23) (.tmp 25)) none [0, 2]]
def l35r6a : List AOper :=
  [AOper.mk (some 29) (.mv (.tmp 0)) none [], AOper.mk (some 30) (.mv (.tmp 6)) none [], AOper.mk (some 31) (.idxA 1 (.tmp 29) (.tmp 30)) none [0, 1], AOper.mk (some 32) (.load false 1 (.tmp 31)) none [2], AOper.mk (some 33) (.mv (.tmp 1)) none [], AOper.mk (some 34) (.mv (.tmp 6)) none [], AOper.mk (some 35) (.idxA 1 (.tmp 33) (.tmp 34)) none [4, 5], AOper.mk (some 36) (.load false 1 (.tmp 35)) none [6]]
def l35r6b : List AOper :=
  [AOper.mk (some 37) (.bin .neq (.tmp 32) (.tmp 36)) none [3, 7]]
def l35r6 : List AOper := l35r6a ++ l35r6b
def l35r7 : List AOper :=
  [AOper.mk (some 38) (.mv (.tmp 5)) none [], AOper.mk (some 39) (.mv (.tmp 6)) none [], AOper.mk (some 40) (.bslice 1 [.int .i64 0] [(0, .tmp 39)] 1) none [1], AOper.mk (some 41) (.append 1 (.tmp 38) (.tmp 40)) none [0, 2], AOper.mk (some 5) (.mv (.tmp 41)) none [3, 3, 0, 1, 2, 3]]
def l35r8 : List AOper :=
  [AOper.mk (some 27) (.mv (.tmp 6)) none [], AOper.mk (some 28) (.bin .add (.tmp 27) (.const (.int .i64 1))) none [0], AOper.mk (some 6) (.mv (.tmp 28)) none [1, 0, 1]]
def l35r9 : List AOper :=
  [AOper.mk (some 42) (.mv (.tmp 5)) none [], AOper.mk (some 4) (.mv (.tmp 42)) none [0, 0]]
def l35 : AFn :=
  (AFn.mk 43 2 (ACode.seq (ACode.reg l35r0) (ACode.seq (ACode.seq (ACode.reg l35r1) (ACode.cond (.tmp 21) (ACode.seq (ACode.reg l35r2) ACode.ret) ACode.skip)) (ACode.seq (ACode.reg l35r3) (ACode.seq (ACode.seq (ACode.reg l35r4) (ACode.block 0 (ACode.loop (ACode.seq (ACode.seq (ACode.reg l35r5) (ACode.cond (.tmp 26) ACode.skip (ACode.exit 0))) (ACode.seq (ACode.block 1 (ACode.seq (ACode.draw l35r6) (ACode.cond (.tmp 37) (ACode.reg l35r7) ACode.skip))) (ACode.reg l35r8)))))) (ACode.seq (ACode.reg l35r9) ACode.ret))))) [ARes.tmp 4])
theorem l35_eq : lowFn Try.prog 35 = some l35 := by kernel_rfl
def l36r0 : List AOper :=
  [AOper.mk (some 2) (.mv (.const (.bool false))) none []]
def l36r1 : List AOper :=
  [AOper.mk (some 3) (.mv (.const (.int .i64 1))) none []]
def l36r2 : List AOper :=
  [AOper.mk (some 4) (.mv (.tmp 3)) none [], AOper.mk (some 5) (.mv (.tmp 0)) none [], AOper.mk (some 6) (.len (.tmp 5)) none [1], AOper.mk (some 7) (.bin .lss (.tmp 4) (.tmp 6)) none [0, 2]]
def l36r3a : List AOper :=
  [AOper.mk (some 10) (.mv (.tmp 0)) none [], AOper.mk (some 11) (.mv (.tmp 3)) none [], AOper.mk (some 12) (.idxA 1 (.tmp 10) (.tmp 11)) none [0, 1], AOper.mk (some 13) (.load false 1 (.tmp 12)) none [2], AOper.mk (some 14) (.mv (.tmp 0)) none [], AOper.mk (some 15) (.mv (.tmp 3)) none [], AOper.mk (some 16) (.bin .sub (.tmp 15) (.const (.int .i64 1))) none [5], AOper.mk (some 17) (.idxA 1 (.tmp 14) (.tmp 16)) none [4, 6], AOper.mk (some 18) (.load false 1 (.tmp 17)) none [7]]
def l36r3b : List AOper :=
  [AOper.mk (some 19) (.bin .leq (.tmp 13) (.tmp 18)) none [3, 8]]
def l36r3 : List AOper := l36r3a ++ l36r3b
def l36r4 : List AOper :=
  [AOper.mk (some 2) (.mv (.const (.bool false))) none []]
def l36r5 : List AOper :=
  [AOper.mk (some 8) (.mv (.tmp 3)) none [], AOper.mk (some 9) (.bin .add (.tmp 8) (.const (.int .i64 1))) none [0], AOper.mk (some 3) (.mv (.tmp 9)) none [1, 0, 1]]
def l36r6 : List AOper :=
  [AOper.mk (some 2) (.mv (.const (.bool true))) none []]
def l36 : AFn :=
  (AFn.mk 20 1 (ACode.seq (ACode.reg l36r0) (ACode.seq (ACode.seq (ACode.reg l36r1) (ACode.block 0 (ACode.loop (ACode.seq (ACode.seq (ACode.reg l36r2) (ACode.cond (.tmp 7) ACode.skip (ACode.exit 0))) (ACode.seq (ACode.block 1 (ACode.seq (ACode.draw l36r3) (ACode.cond (.tmp 19) (ACode.seq (ACode.reg l36r4) ACode.ret) ACode.skip))) (ACode.reg l36r5)))))) (ACode.seq (ACode.reg l36r6) ACode.ret))) [ARes.tmp 2])
theorem l36_eq : lowFn Try.prog 36 = some l36 := by kernel_rfl
def l45r0 : List AOper :=
  [AOper.mk (some 2) (.mv (.const (.pointer none))) none []]
def l45r1 : List AOper :=
  [AOper.mk (some 3) (.mv (.tmp 0)) none [], AOper.mk (some 4) (.len (.tmp 3)) none [0], AOper.mk (some 5) (.bin .gtr (.tmp 4) (.const (.int .i64 2000))) none [1]]
def l45r2 : List AOper :=
  [AOper.mk (some 6) (.mv (.tmp 0)) none [], AOper.mk (some 7) (.slice 1 (.tmp 6) none (some (.const (.int .i64 2000)))) none [0], AOper.mk (some 0) (.mv (.tmp 7)) none [1, 0, 1]]
def l45r3 : List AOper :=
  [AOper.mk (some 8) (.mv (.tmp 0)) none [], AOper.mk (some 9) (.build [.slice none 0 0, .int .i64 0] [(0, 1, .tmp 8)]) none [0], AOper.mk (some 10) (.box (.tmp 9)) none [1], AOper.mk (some 2) (.mv (.tmp 10)) none [2, 0, 1, 2]]
def l45 : AFn :=
  (AFn.mk 11 1 (ACode.seq (ACode.reg l45r0) (ACode.seq (ACode.seq (ACode.reg l45r1) (ACode.cond (.tmp 5) (ACode.reg l45r2) ACode.skip)) (ACode.seq (ACode.reg l45r3) ACode.ret))) [ARes.tmp 2])
theorem l45_eq : lowFn Try.prog 45 = some l45 := by kernel_rfl
def l50r0 : List AOper :=
  [AOper.mk (some 2) (.mv (.const (.bool false))) none []]
def l50r1 : List AOper :=
  [AOper.mk (some 3) (.mv (.tmp 0)) none [], AOper.mk (some 4) (.bin .leq (.const (.int .i64 0)) (.tmp 3)) none [0], AOper.mk (some 5) (.mv (.tmp 4)) none [1], AOper.mk (some 6) (.mv (.tmp 0)) (some (5, true)) [2], AOper.mk (some 7) (.bin .leq (.tmp 6) (.const (.int .i64 60))) (some (5, true)) [3, 2], AOper.mk (some 8) (.pick (.tmp 5) (.tmp 7) (.const (.bool false))) none [2, 4], AOper.mk (some 2) (.mv (.tmp 8)) none [5, 2, 0, 1, 2, 3, 4, 5]]
def l50 : AFn :=
  (AFn.mk 9 1 (ACode.seq (ACode.reg l50r0) (ACode.seq (ACode.reg l50r1) ACode.ret)) [ARes.tmp 2])
theorem l50_eq : lowFn Try.prog 50 = some l50 := by kernel_rfl
def l51r0 : List AOper :=
  [AOper.mk (some 2) (.mv (.const (.bool false))) none []]
def l51r1 : List AOper :=
  [AOper.mk (some 5) (.mv (.tmp 0)) none [], AOper.mk (some 6) (.len (.tmp 5)) none [0], AOper.mk (some 7) (.mv (.const (.int .i64 0))) none []]
def l51r2 : List AOper :=
  [AOper.mk (some 8) (.bin .lss (.tmp 7) (.tmp 6)) none []]
def l51r3 : List AOper :=
  [AOper.mk (some 9) (.idxA 1 (.tmp 5) (.tmp 7)) none [], AOper.mk (some 10) (.load false 1 (.tmp 9)) none [0], AOper.mk (some 4) (.mv (.tmp 10)) none [1, 0, 1]]
def l51r4 : List AOper :=
  [AOper.mk (some 11) (.mv (.tmp 4)) none [], AOper.mk (some 12) (.call 53 [.tmp 11, .const (.int .i64 255)]) none [0], AOper.mk (some 13) (.un .not (.tmp 12)) none [1]]
def l51r5 : List AOper :=
  [AOper.mk (some 2) (.mv (.const (.bool false))) none []]
def l51r6 : List AOper :=
  [AOper.mk (some 14) (.bin .add (.tmp 7) (.const (.int .i64 1))) none [], AOper.mk (some 7) (.mv (.tmp 14)) none [0]]
def l51r7 : List AOper :=
  [AOper.mk (some 2) (.mv (.const (.bool true))) none []]
def l51 : AFn :=
  (AFn.mk 15 1 (ACode.seq (ACode.reg l51r0) (ACode.seq (ACode.seq (ACode.reg l51r1) (ACode.block 0 (ACode.loop (ACode.seq (ACode.reg l51r2) (ACode.seq (ACode.cond (.tmp 8) ACode.skip (ACode.exit 0)) (ACode.seq (ACode.block 1 (ACode.seq (ACode.reg l51r3) (ACode.seq (ACode.reg l51r4) (ACode.cond (.tmp 13) (ACode.seq (ACode.reg l51r5) ACode.ret) ACode.skip)))) (ACode.reg l51r6))))))) (ACode.seq (ACode.reg l51r7) ACode.ret))) [ARes.tmp 2])
theorem l51_eq : lowFn Try.prog 51 = some l51 := by kernel_rfl
def l53r0 : List AOper :=
  [AOper.mk (some 4) (.mv (.const (.bool false))) none []]
def l53r1 : List AOper :=
  [AOper.mk (some 5) (.mv (.tmp 0)) none [], AOper.mk (some 6) (.bin .leq (.const (.int .i64 0)) (.tmp 5)) none [0], AOper.mk (some 7) (.mv (.tmp 6)) none [1], AOper.mk (some 8) (.mv (.tmp 0)) (some (7, true)) [2], AOper.mk (some 9) (.mv (.tmp 1)) (some (7, true)) [2], AOper.mk (some 10) (.bin .leq (.tmp 8) (.tmp 9)) (some (7, true)) [3, 4, 2], AOper.mk (some 11) (.pick (.tmp 7) (.tmp 10) (.const (.bool false))) none [2, 5], AOper.mk (some 4) (.mv (.tmp 11)) none [6, 2, 0, 1, 2, 3, 4, 5, 6]]
def l53 : AFn :=
  (AFn.mk 12 2 (ACode.seq (ACode.reg l53r0) (ACode.seq (ACode.reg l53r1) ACode.ret)) [ARes.tmp 4])
theorem l53_eq : lowFn Try.prog 53 = some l53 := by kernel_rfl
def l60r0 : List AOper :=
  [AOper.mk (some 6) (.mv (.const (.bool false))) none []]
def l60r1 : List AOper :=
  [AOper.mk (some 7) (.mv (.const (.int .i64 0))) none []]
def l60r2 : List AOper :=
  [AOper.mk (some 8) (.mv (.tmp 7)) none [], AOper.mk (some 9) (.mv (.tmp 0)) none [], AOper.mk (some 10) (.len (.tmp 9)) none [1], AOper.mk (some 11) (.bin .lss (.tmp 8) (.tmp 10)) none [0, 2]]
def l60r3 : List AOper :=
  [AOper.mk (some 14) (.mv (.tmp 0)) none [], AOper.mk (some 15) (.mv (.tmp 7)) none [], AOper.mk (some 16) (.idxA 1 (.tmp 14) (.tmp 15)) none [0, 1], AOper.mk (some 17) (.load false 1 (.tmp 16)) none [2], AOper.mk (some 18) (.mv (.tmp 1)) none [], AOper.mk (some 19) (.mv (.tmp 2)) none [], AOper.mk (some 20) (.call 91 [.tmp 17, .tmp 18, .tmp 19]) none [3, 4, 5], AOper.mk (some 21) (.un .not (.tmp 20)) none [6]]
def l60r4 : List AOper :=
  [AOper.mk (some 6) (.mv (.const (.bool false))) none []]
def l60r5 : List AOper :=
  [AOper.mk (some 12) (.mv (.tmp 7)) none [], AOper.mk (some 13) (.bin .add (.tmp 12) (.const (.int .i64 1))) none [0], AOper.mk (some 7) (.mv (.tmp 13)) none [1, 0, 1]]
def l60r6 : List AOper :=
  [AOper.mk (some 6) (.mv (.const (.bool true))) none []]
def l60 : AFn :=
  (AFn.mk 22 3 (ACode.seq (ACode.reg l60r0) (ACode.seq (ACode.seq (ACode.reg l60r1) (ACode.block 0 (ACode.loop (ACode.seq (ACode.seq (ACode.reg l60r2) (ACode.cond (.tmp 11) ACode.skip (ACode.exit 0))) (ACode.seq (ACode.block 1 (ACode.seq (ACode.reg l60r3) (ACode.cond (.tmp 21) (ACode.seq (ACode.reg l60r4) ACode.ret) ACode.skip))) (ACode.reg l60r5)))))) (ACode.seq (ACode.reg l60r6) ACode.ret))) [ARes.tmp 6])
theorem l60_eq : lowFn Try.prog 60 = some l60 := by kernel_rfl
def l72r0 : List AOper :=
  [AOper.mk (some 2) (.mv (.const (.slice none 0 0))) none []]
def l72r1 : List AOper :=
  [AOper.mk (some 3) (.bslice 1 [.int .i64 0] [] 0) none [], AOper.mk (some 4) (.mv (.tmp 0)) none [], AOper.mk (some 5) (.append 1 (.tmp 3) (.tmp 4)) none [0, 1], AOper.mk (some 2) (.mv (.tmp 5)) none [2, 2, 0, 1, 2]]
def l72 : AFn :=
  (AFn.mk 6 1 (ACode.seq (ACode.reg l72r0) (ACode.seq (ACode.reg l72r1) ACode.ret)) [ARes.tmp 2])
theorem l72_eq : lowFn Try.prog 72 = some l72 := by kernel_rfl
def l73r0 : List AOper :=
  [AOper.mk (some 2) (.mv (.const (.slice none 0 0))) none []]
def l73r1 : List AOper :=
  [AOper.mk (some 5) (.bslice 1 [.int .i64 0] [] 0) none [], AOper.mk (some 3) (.mv (.tmp 5)) none [0, 0]]
def l73r2 : List AOper :=
  [AOper.mk (some 6) (.mv (.tmp 0)) none [], AOper.mk (some 7) (.bslice 1 [.int .i64 0] [(0, .const (.int .i64 20)), (1, .const (.int .i64 30)), (2, .const (.int .i64 16)), (3, .const (.int .i64 60)), (4, .const (.int .i64 12)), (5, .const (.int .i64 5))] 6) none [], AOper.mk (some 8) (.call 90 [.tmp 6, .tmp 7]) none [0, 1], AOper.mk (some 4) (.mv (.tmp 8)) none [2, 2, 0, 1, 2]]
def l73r3 : List AOper :=
  [AOper.mk (some 9) (.mv (.tmp 4)) none [], AOper.mk (some 10) (.bin .gtr (.tmp 9) (.const (.int .i64 0))) none [0]]
def l73r4 : List AOper :=
  [AOper.mk (some 13) (.mv (.tmp 3)) none [], AOper.mk (some 14) (.mv (.tmp 0)) none [], AOper.mk (some 15) (.call 74 [.tmp 14, .const (.int .i64 256)]) none [1], AOper.mk (some 16) (.bslice 1 [.int .i64 0] [(0, .tmp 15)] 1) none [2], AOper.mk (some 17) (.append 1 (.tmp 13) (.tmp 16)) none [0, 3, 2], AOper.mk (some 3) (.mv (.tmp 17)) none [4, 4, 0, 1, 2, 3, 4]]
def l73r5 : List AOper :=
  [AOper.mk (some 11) (.mv (.tmp 4)) none [], AOper.mk (some 12) (.bin .sub (.tmp 11) (.const (.int .i64 1))) none [0], AOper.mk (some 4) (.mv (.tmp 12)) none [1, 0, 1]]
def l73r6 : List AOper :=
  [AOper.mk (some 18) (.mv (.tmp 0)) none [], AOper.mk (some 19) (.call 74 [.tmp 18, .const (.int .i64 24)]) none [0], AOper.mk (some 20) (.bin .eql (.tmp 19) (.const (.int .i64 0))) none [1]]
def l73r7 : List AOper :=
  [AOper.mk (some 21) (.mv (.tmp 3)) none [], AOper.mk (some 22) (.mv (.tmp 0)) none [], AOper.mk (some 23) (.bslice 1 [.int .i64 0] [(0, .const (.int .i64 (-1))), (1, .const (.int .i64 256))] 2) none [], AOper.mk (some 24) (.call 90 [.tmp 22, .tmp 23]) none [1, 2], AOper.mk (some 25) (.idxA 1 (.tmp 21) (.const (.int .i64 0))) none [0, 0, 1, 2, 3], AOper.mk none (.store 1 (.tmp 25) (.tmp 24)) none [4, 3, 3, 0, 1, 2, 3]]
def l73r8 : List AOper :=
  [AOper.mk (some 26) (.mv (.tmp 3)) none [], AOper.mk (some 2) (.mv (.tmp 26)) none [0, 0]]
def l73 : AFn :=
  (AFn.mk 27 1 (ACode.seq (ACode.reg l73r0) (ACode.seq (ACode.reg l73r1) (ACode.seq (ACode.seq (ACode.reg l73r2) (ACode.block 0 (ACode.loop (ACode.seq (ACode.seq (ACode.reg l73r3) (ACode.cond (.tmp 10) ACode.skip (ACode.exit 0))) (ACode.seq (ACode.block 1 (ACode.reg l73r4)) (ACode.reg l73r5)))))) (ACode.seq (ACode.seq (ACode.reg l73r6) (ACode.cond (.tmp 20) (ACode.reg l73r7) ACode.skip)) (ACode.seq (ACode.reg l73r8) ACode.ret))))) [ARes.tmp 2])
theorem l73_eq : lowFn Try.prog 73 = some l73 := by kernel_rfl
def l74r0 : List AOper :=
  [AOper.mk (some 4) (.mv (.const (.int .i64 0))) none []]
def l74r1 : List AOper :=
  [AOper.mk (some 7) (.mv (.tmp 0)) none [], AOper.mk (some 8) (.mv (.tmp 0)) none [], AOper.mk (some 9) (.nilck (.tmp 8)) none [1], AOper.mk (some 10) (.fld 1 (.tmp 9)) none [2], AOper.mk (some 11) (.load false 1 (.tmp 10)) none [3], AOper.mk (some 12) (.bin .add (.tmp 11) (.const (.int .i64 1))) none [4], AOper.mk (some 13) (.nilck (.tmp 7)) none [0, 0, 1, 2, 3, 4, 5], AOper.mk (some 14) (.fld 1 (.tmp 13)) none [6, 0, 1, 2, 3, 4, 5], AOper.mk none (.store 1 (.tmp 14) (.tmp 12)) none [7, 5, 0, 1, 2, 3, 4, 5]]
def l74r2 : List AOper :=
  [AOper.mk (some 15) (.mv (.tmp 1)) none [], AOper.mk (some 16) (.bin .lss (.tmp 15) (.const (.int .i64 1))) none [0], AOper.mk (some 17) (.mv (.tmp 16)) none [1], AOper.mk (some 18) (.mv (.tmp 0)) (some (17, false)) [2], AOper.mk (some 19) (.nilck (.tmp 18)) (some (17, false)) [3, 2], AOper.mk (some 20) (.fld 0 (.tmp 19)) (some (17, false)) [4, 2], AOper.mk (some 21) (.load false 1 (.tmp 20)) (some (17, false)) [5, 2], AOper.mk (some 22) (.len (.tmp 21)) (some (17, false)) [6, 2], AOper.mk (some 23) (.bin .eql (.tmp 22) (.const (.int .i64 0))) (some (17, false)) [7, 2], AOper.mk (some 24) (.pick (.tmp 17) (.const (.bool true)) (.tmp 23)) none [2, 8]]
def l74r3 : List AOper :=
  [AOper.mk (some 4) (.mv (.const (.int .i64 0))) none []]
def l74r4 : List AOper :=
  [AOper.mk (some 25) (.mv (.tmp 0)) none [], AOper.mk (some 26) (.nilck (.tmp 25)) none [0], AOper.mk (some 27) (.fld 1 (.tmp 26)) none [1], AOper.mk (some 28) (.load false 1 (.tmp 27)) none [2], AOper.mk (some 29) (.bin .sub (.tmp 28) (.const (.int .i64 1))) none [3], AOper.mk (some 5) (.mv (.tmp 29)) none [4, 0, 1, 2, 3, 4]]
def l74r5 : List AOper :=
  [AOper.mk (some 30) (.mv (.tmp 5)) none [], AOper.mk (some 31) (.mv (.tmp 0)) none [], AOper.mk (some 32) (.nilck (.tmp 31)) none [1], AOper.mk (some 33) (.fld 0 (.tmp 32)) none [2], AOper.mk (some 34) (.load false 1 (.tmp 33)) none [3], AOper.mk (some 35) (.len (.tmp 34)) none [4], AOper.mk (some 36) (.bin .lss (.tmp 30) (.tmp 35)) none [0, 5]]
def l74r6 : List AOper :=
  [AOper.mk (some 37) (.mv (.tmp 0)) none [], AOper.mk (some 38) (.nilck (.tmp 37)) none [0], AOper.mk (some 39) (.fld 0 (.tmp 38)) none [1], AOper.mk (some 40) (.load false 1 (.tmp 39)) none [2], AOper.mk (some 41) (.mv (.tmp 5)) none [], AOper.mk (some 42) (.idxA 1 (.tmp 40) (.tmp 41)) none [3, 4], AOper.mk (some 43) (.load false 1 (.tmp 42)) none [5], AOper.mk (some 44) (.conv .i64 (.tmp 43)) none [6], AOper.mk (some 45) (.mv (.tmp 1)) none [], AOper.mk (some 46) (.bin .rem (.tmp 44) (.tmp 45)) none [7, 8], AOper.mk (some 4) (.mv (.tmp 46)) none [9, 0, 1, 2, 3, 4, 5, 6, 7, 8, 9]]
def l74r7a : List AOper :=
  [AOper.mk (some 47) (.mv (.tmp 0)) none [], AOper.mk (some 48) (.nilck (.tmp 47)) none [0], AOper.mk (some 49) (.fld 0 (.tmp 48)) none [1], AOper.mk (some 50) (.load false 1 (.tmp 49)) none [2], AOper.mk (some 51) (.mv (.tmp 5)) none [], AOper.mk (some 52) (.mv (.tmp 0)) none [], AOper.mk (some 53) (.nilck (.tmp 52)) none [5], AOper.mk (some 54) (.fld 0 (.tmp 53)) none [6], AOper.mk (some 55) (.load false 1 (.tmp 54)) none [7], AOper.mk (some 56) (.len (.tmp 55)) none [8], AOper.mk (some 57) (.bin .rem (.tmp 51) (.tmp 56)) none [4, 9], AOper.mk (some 58) (.idxA 1 (.tmp 50) (.tmp 57)) none [3, 10], AOper.mk (some 59) (.load false 1 (.tmp 58)) none [11], AOper.mk (some 60) (.conv .i64 (.tmp 59)) none [12], AOper.mk (some 61) (.bin .mul (.tmp 60) (.const (.int .i64 131))) none [13], AOper.mk (some 62) (.mv (.tmp 0)) none [], AOper.mk (some 63) (.nilck (.tmp 62)) none [15], AOper.mk (some 64) (.fld 0 (.tmp 63)) none [16], AOper.mk (some 65) (.load false 1 (.tmp 64)) none [17], AOper.mk (some 66) (.mv (.tmp 5)) none [], AOper.mk (some 67) (.bin .mul (.tmp 66) (.const (.int .i64 7))) none [19], AOper.mk (some 68) (.bin .add (.tmp 67) (.const (.int .i64 3))) none [20], AOper.mk (some 69) (.mv (.tmp 0)) none [], AOper.mk (some 70) (.nilck (.tmp 69)) none [22], AOper.mk (some 71) (.fld 0 (.tmp 70)) none [23], AOper.mk (some 72) (.load false 1 (.tmp 71)) none [24], AOper.mk (some 73) (.len (.tmp 72)) none [25], AOper.mk (some 74) (.bin .rem (.tmp 68) (.tmp 73)) none [21, 26], AOper.mk (some 75) (.idxA 1 (.tmp 65) (.tmp 74)) none [18, 27], AOper.mk (some 76) (.load false 1 (.tmp 75)) none [28], AOper.mk (some 77) (.conv .i64 (.tmp 76)) none [29], AOper.mk (some 78) (.bin .mul (.tmp 77) (.const (.int .i64 1117))) none [30], AOper.mk (some 79) (.bin .add (.tmp 61) (.tmp 78)) none [14, 31], AOper.mk (some 80) (.mv (.tmp 5)) none [], AOper.mk (some 81) (.bin .mul (.tmp 80) (.const (.int .i64 29))) none [33], AOper.mk (some 82) (.bin .add (.tmp 79) (.tmp 81)) none [32, 34], AOper.mk (some 83) (.mv (.tmp 5)) none [], AOper.mk (some 84) (.mv (.tmp 0)) none [], AOper.mk (some 85) (.nilck (.tmp 84)) none [37], AOper.mk (some 86) (.fld 0 (.tmp 85)) none [38], AOper.mk (some 87) (.load false 1 (.tmp 86)) none [39], AOper.mk (some 88) (.len (.tmp 87)) none [40], AOper.mk (some 89) (.bin .quo (.tmp 83) (.tmp 88)) none [36, 41], AOper.mk (some 90) (.bin .mul (.tmp 89) (.const (.int .i64 53))) none [42]]
def l74r7b : List AOper :=
  [AOper.mk (some 91) (.bin .add (.tmp 82) (.tmp 90)) none [35, 43], AOper.mk (some 6) (.mv (.tmp 91)) none [44, 0, 1, 2, 3, 4, 5, 6, 7, 8, 9, 10, 11, 12, 13, 14, 15, 16, 17, 18, 19, 20, 21, 22, 23, 24, 25, 26, 27, 28, 29, 30, 31, 32, 33, 34, 35, 36, 37, 38, 39, 40, 41, 42, 43, 44]]
def l74r7 : List AOper := l74r7a ++ l74r7b
def l74r8 : List AOper :=
  [AOper.mk (some 92) (.mv (.tmp 6)) none [], AOper.mk (some 93) (.mv (.tmp 6)) none [], AOper.mk (some 94) (.bin .quo (.tmp 93) (.const (.int .i64 64))) none [1], AOper.mk (some 95) (.bin .xor (.tmp 92) (.tmp 94)) none [0, 2], AOper.mk (some 6) (.mv (.tmp 95)) none [3, 0, 1, 2, 3]]
def l74r9 : List AOper :=
  [AOper.mk (some 96) (.mv (.tmp 6)) none [], AOper.mk (some 97) (.mv (.tmp 1)) none [], AOper.mk (some 98) (.bin .rem (.tmp 96) (.tmp 97)) none [0, 1], AOper.mk (some 4) (.mv (.tmp 98)) none [2, 0, 1, 2]]
def l74 : AFn :=
  (AFn.mk 99 2 (ACode.seq (ACode.reg l74r0) (ACode.seq (ACode.reg l74r1) (ACode.seq (ACode.seq (ACode.reg l74r2) (ACode.cond (.tmp 24) (ACode.seq (ACode.reg l74r3) ACode.ret) ACode.skip)) (ACode.seq (ACode.reg l74r4) (ACode.seq (ACode.seq (ACode.reg l74r5) (ACode.cond (.tmp 36) (ACode.seq (ACode.reg l74r6) ACode.ret) ACode.skip)) (ACode.seq (ACode.draw l74r7) (ACode.seq (ACode.reg l74r8) (ACode.seq (ACode.reg l74r9) ACode.ret)))))))) [ARes.tmp 4])
theorem l74_eq : lowFn Try.prog 74 = some l74 := by kernel_rfl
def l75r0 : List AOper :=
  [AOper.mk (some 2) (.mv (.const (.bool false))) none []]
def l75r1 : List AOper :=
  [AOper.mk (some 3) (.mv (.tmp 0)) none [], AOper.mk (some 4) (.len (.tmp 3)) none [0], AOper.mk (some 5) (.bin .leq (.tmp 4) (.const (.int .i64 60))) none [1], AOper.mk (some 6) (.mv (.tmp 5)) none [2], AOper.mk (some 7) (.mv (.tmp 0)) (some (6, true)) [3], AOper.mk (some 8) (.call 60 [.tmp 7, .const (.int .i64 0), .const (.int .i64 255)]) (some (6, true)) [4, 3, 3], AOper.mk (some 9) (.pick (.tmp 6) (.tmp 8) (.const (.bool false))) none [3, 5], AOper.mk (some 2) (.mv (.tmp 9)) none [6, 5, 0, 1, 2, 3, 4, 5, 6]]
def l75 : AFn :=
  (AFn.mk 10 1 (ACode.seq (ACode.reg l75r0) (ACode.seq (ACode.reg l75r1) ACode.ret)) [ARes.tmp 2])
theorem l75_eq : lowFn Try.prog 75 = some l75 := by kernel_rfl
def l90r0 : List AOper :=
  [AOper.mk (some 4) (.mv (.const (.int .i64 0))) none []]
def l90r1 : List AOper :=
  [AOper.mk (some 5) (.mv (.tmp 1)) none [], AOper.mk (some 6) (.mv (.tmp 0)) none [], AOper.mk (some 7) (.mv (.tmp 1)) none [], AOper.mk (some 8) (.len (.tmp 7)) none [2], AOper.mk (some 9) (.call 74 [.tmp 6, .tmp 8]) none [1, 3], AOper.mk (some 10) (.idxA 1 (.tmp 5) (.tmp 9)) none [0, 4], AOper.mk (some 11) (.load false 1 (.tmp 10)) none [5], AOper.mk (some 4) (.mv (.tmp 11)) none [6, 4, 0, 1, 2, 3, 4, 5, 6]]
def l90 : AFn :=
  (AFn.mk 12 2 (ACode.seq (ACode.reg l90r0) (ACode.seq (ACode.reg l90r1) ACode.ret)) [ARes.tmp 4])
theorem l90_eq : lowFn Try.prog 90 = some l90 := by kernel_rfl
def l91r0 : List AOper :=
  [AOper.mk (some 6) (.mv (.const (.bool false))) none []]
def l91r1 : List AOper :=
  [AOper.mk (some 7) (.mv (.tmp 1)) none [], AOper.mk (some 8) (.mv (.tmp 0)) none [], AOper.mk (some 9) (.bin .leq (.tmp 7) (.tmp 8)) none [0, 1], AOper.mk (some 10) (.mv (.tmp 9)) none [2], AOper.mk (some 11) (.mv (.tmp 0)) (some (10, true)) [3], AOper.mk (some 12) (.mv (.tmp 2)) (some (10, true)) [3], AOper.mk (some 13) (.bin .leq (.tmp 11) (.tmp 12)) (some (10, true)) [4, 5, 3], AOper.mk (some 14) (.pick (.tmp 10) (.tmp 13) (.const (.bool false))) none [3, 6], AOper.mk (some 6) (.mv (.tmp 14)) none [7, 3, 0, 1, 2, 3, 4, 5, 6, 7]]
def l91 : AFn :=
  (AFn.mk 15 3 (ACode.seq (ACode.reg l91r0) (ACode.seq (ACode.reg l91r1) ACode.ret)) [ARes.tmp 6])
theorem l91_eq : lowFn Try.prog 91 = some l91 := by kernel_rfl
end Go.Proofs.Ytcfjemmoajdcoaa
