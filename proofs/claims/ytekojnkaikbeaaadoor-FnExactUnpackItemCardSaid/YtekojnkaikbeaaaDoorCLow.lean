import Derived.Test.YtekojnkaikbeaaaDoorCW3
import Derived.Test.YtekojnkaikbeaaaDoorProg
import Derived.KernelRfl
set_option maxRecDepth 100000
namespace Go.Proofs.YtekojnkaikbeaaaDoor
open Vw Go
instance globs : Inhabited GlobT := ⟨⟨[(0, [1, 2, 4])]⟩⟩
def l3r0 : List AOper :=
  [AOper.mk (some 1) (.box (.tmp 0)) none [], AOper.mk (some 2) (.mv (.const (.bool false))) none []]
def l3r1 : List AOper :=
  [AOper.mk (some 3) (.mv (.const (.int .i64 1048576))) none []]
def l3r2 : List AOper :=
  [AOper.mk (some 7) (.load true 3 (.tmp 1)) none [], AOper.mk (some 8) (.mv (.tmp 3)) none [], AOper.mk (some 9) (.call 13 [.tmp 7, .tmp 8]) none [0, 1], AOper.mk (some 3) (.mv (.tmp 9)) none [2, 2, 0, 1, 2]]
def l3r3 : List AOper :=
  [AOper.mk (some 10) (.mv (.tmp 3)) none [], AOper.mk (some 11) (.bin .lss (.tmp 10) (.const (.int .i64 0))) none [0]]
def l3r4 : List AOper :=
  [AOper.mk (some 2) (.mv (.const (.bool true))) none []]
def l3r5 : List AOper :=
  [AOper.mk (some 12) (.load true 3 (.tmp 1)) none [], AOper.mk (some 13) (.call 15 [.tmp 12]) none [0], AOper.mk (some 14) (.call 14 [.tmp 13]) none [1, 1], AOper.mk (some 4) (.mv (.tmp 14)) none [2, 2, 0, 1, 2]]
def l3r6 : List AOper :=
  [AOper.mk (some 15) (.load true 3 (.tmp 1)) none [], AOper.mk (some 16) (.call 15 [.tmp 15]) none [0], AOper.mk (some 5) (.alloc [.slice none 0 0, .bool false, .bool false]) none [], AOper.mk none (.store 3 (.tmp 5) (.tmp 16)) none [2, 1, 1, 0, 1, 2]]
def l3r7 : List AOper :=
  [AOper.mk (some 17) (.load true 3 (.tmp 5)) none [], AOper.mk (some 18) (.call 16 [.tmp 17]) none [0], AOper.mk (some 6) (.mv (.tmp 18)) none [1, 1, 0, 1]]
def l3r8 : List AOper :=
  [AOper.mk (some 19) (.mv (.tmp 6)) none [], AOper.mk (some 20) (.mv (.tmp 4)) none [], AOper.mk (some 21) (.binB .neq (.tmp 19) (.tmp 20)) none [0, 1]]
def l3r9 : List AOper :=
  [AOper.mk (some 2) (.mv (.const (.bool false))) none []]
def l3r10a : List AOper :=
  [AOper.mk (some 22) (.load true 3 (.tmp 5)) none [], AOper.mk (some 23) (.load true 3 (.tmp 1)) none [], AOper.mk (some 24) (.call 15 [.tmp 23]) none [1]]
def l3r10b : List AOper :=
  [AOper.mk (some 25) (.call 17 [.tmp 22, .tmp 24]) none [0, 2, 2], AOper.mk (some 26) (.un .not (.tmp 25)) none [3]]
def l3r10 : List AOper := l3r10a ++ l3r10b
def l3r11 : List AOper :=
  [AOper.mk (some 2) (.mv (.const (.bool false))) none []]
def l3r12 : List AOper :=
  [AOper.mk (some 2) (.mv (.const (.bool true))) none []]
def l3 : AFn :=
  (AFn.mk 27 1 (ACode.seq (ACode.reg l3r0) (ACode.seq (ACode.reg l3r1) (ACode.seq (ACode.reg l3r2) (ACode.seq (ACode.seq (ACode.reg l3r3) (ACode.cond (.tmp 11) (ACode.seq (ACode.reg l3r4) ACode.ret) ACode.skip)) (ACode.seq (ACode.reg l3r5) (ACode.seq (ACode.reg l3r6) (ACode.seq (ACode.reg l3r7) (ACode.seq (ACode.seq (ACode.reg l3r8) (ACode.cond (.tmp 21) (ACode.seq (ACode.reg l3r9) ACode.ret) ACode.skip)) (ACode.seq (ACode.seq (ACode.draw l3r10) (ACode.cond (.tmp 26) (ACode.seq (ACode.reg l3r11) ACode.ret) ACode.skip)) (ACode.seq (ACode.reg l3r12) ACode.ret)))))))))) [ARes.tmp 2])
theorem l3_eq : lowFn Tryd.prog 3 = some l3 := by kernel_rfl
def l4r0 : List AOper :=
  [AOper.mk (some 1) (.box (.tmp 0)) none [], AOper.mk (some 2) (.mv (.const (.bool false))) none []]
def l4r1 : List AOper :=
  [AOper.mk (some 3) (.mv (.const (.int .i64 1048576))) none []]
def l4r2 : List AOper :=
  [AOper.mk (some 11) (.load true 3 (.tmp 1)) none [], AOper.mk (some 12) (.mv (.tmp 3)) none [], AOper.mk (some 13) (.call 13 [.tmp 11, .tmp 12]) none [0, 1], AOper.mk (some 3) (.mv (.tmp 13)) none [2, 2, 0, 1, 2]]
def l4r3 : List AOper :=
  [AOper.mk (some 14) (.mv (.tmp 3)) none [], AOper.mk (some 15) (.bin .lss (.tmp 14) (.const (.int .i64 0))) none [0]]
def l4r4 : List AOper :=
  [AOper.mk (some 2) (.mv (.const (.bool true))) none []]
def l4r5 : List AOper :=
  [AOper.mk (some 16) (.load true 3 (.tmp 1)) none [], AOper.mk (some 17) (.call 15 [.tmp 16]) none [0], AOper.mk (some 18) (.call 18 [.tmp 17]) none [1, 1], AOper.mk (some 4) (.mv (.tmp 18)) none [2, 2, 0, 1, 2]]
def l4r6 : List AOper :=
  [AOper.mk (some 19) (.load true 3 (.tmp 1)) none [], AOper.mk (some 20) (.call 15 [.tmp 19]) none [0], AOper.mk (some 5) (.alloc [.slice none 0 0, .bool false, .bool false]) none [], AOper.mk none (.store 3 (.tmp 5) (.tmp 20)) none [2, 1, 1, 0, 1, 2]]
def l4r7 : List AOper :=
  [AOper.mk (some 21) (.load true 3 (.tmp 5)) none [], AOper.mk (some 22) (.call 19 [.tmp 21]) none [0], AOper.mk (some 6) (.mv (.tmp 22)) none [1, 1, 0, 1]]
def l4r8 : List AOper :=
  [AOper.mk (some 23) (.mv (.tmp 6)) none [], AOper.mk (some 24) (.mv (.tmp 4)) none [], AOper.mk (some 25) (.call 20 [.tmp 23, .tmp 24]) none [0, 1], AOper.mk (some 26) (.un .not (.tmp 25)) none [2]]
def l4r9 : List AOper :=
  [AOper.mk (some 2) (.mv (.const (.bool false))) none []]
def l4r10a : List AOper :=
  [AOper.mk (some 27) (.load true 3 (.tmp 5)) none [], AOper.mk (some 28) (.load true 3 (.tmp 1)) none [], AOper.mk (some 29) (.call 15 [.tmp 28]) none [1]]
def l4r10b : List AOper :=
  [AOper.mk (some 30) (.call 17 [.tmp 27, .tmp 29]) none [0, 2, 2], AOper.mk (some 31) (.un .not (.tmp 30)) none [3]]
def l4r10 : List AOper := l4r10a ++ l4r10b
def l4r11 : List AOper :=
  [AOper.mk (some 2) (.mv (.const (.bool false))) none []]
def l4r12 : List AOper :=
  [AOper.mk (some 7) (.mv (.const (.int .i64 1))) none []]
def l4r13 : List AOper :=
  [AOper.mk (some 32) (.load true 3 (.tmp 5)) none [], AOper.mk (some 33) (.mv (.tmp 7)) none [], AOper.mk (some 34) (.call 21 [.tmp 32, .tmp 33]) none [0, 1], AOper.mk (some 7) (.mv (.tmp 34)) none [2, 2, 0, 1, 2]]
def l4r14 : List AOper :=
  [AOper.mk (some 35) (.mv (.tmp 7)) none [], AOper.mk (some 36) (.bin .lss (.tmp 35) (.const (.int .i64 0))) none [0], AOper.mk (some 37) (.mv (.tmp 36)) none [1], AOper.mk (some 38) (.mv (.tmp 6)) (some (37, false)) [2], AOper.mk (some 39) (.mv (.tmp 4)) (some (37, false)) [2], AOper.mk (some 40) (.call 20 [.tmp 38, .tmp 39]) (some (37, false)) [3, 4, 2, 2], AOper.mk (some 41) (.un .not (.tmp 40)) (some (37, false)) [5, 2], AOper.mk (some 42) (.pick (.tmp 37) (.const (.bool true)) (.tmp 41)) none [2, 6]]
def l4r15 : List AOper :=
  [AOper.mk (some 2) (.mv (.const (.bool false))) none []]
def l4r16 : List AOper :=
  [AOper.mk (some 8) (.mv (.const (.int .i64 1))) none []]
def l4r17 : List AOper :=
  [AOper.mk (some 43) (.mv (.tmp 6)) none [], AOper.mk (some 44) (.mv (.tmp 8)) none [], AOper.mk (some 45) (.call 22 [.tmp 43, .tmp 44]) none [0, 1], AOper.mk (some 8) (.mv (.tmp 45)) none [2, 2, 0, 1, 2]]
def l4r18 : List AOper :=
  [AOper.mk (some 9) (.mv (.const (.int .i64 1))) none []]
def l4r19 : List AOper :=
  [AOper.mk (some 46) (.mv (.tmp 6)) none [], AOper.mk (some 47) (.mv (.tmp 9)) none [], AOper.mk (some 48) (.call 23 [.tmp 46, .tmp 47]) none [0, 1], AOper.mk (some 9) (.mv (.tmp 48)) none [2, 2, 0, 1, 2]]
def l4r20 : List AOper :=
  [AOper.mk (some 49) (.mv (.tmp 9)) none [], AOper.mk (some 50) (.bin .lss (.tmp 49) (.const (.int .i64 0))) none [0]]
def l4r21 : List AOper :=
  [AOper.mk (some 2) (.mv (.const (.bool false))) none []]
def l4r22 : List AOper :=
  [AOper.mk (some 51) (.mv (.tmp 9)) none [], AOper.mk (some 52) (.mv (.tmp 8)) none [], AOper.mk (some 53) (.bin .neq (.tmp 51) (.tmp 52)) none [0, 1]]
def l4r23 : List AOper :=
  [AOper.mk (some 2) (.mv (.const (.bool false))) none []]
def l4r24 : List AOper :=
  [AOper.mk (some 54) (.load true 3 (.tmp 1)) none [], AOper.mk (some 55) (.call 15 [.tmp 54]) none [0], AOper.mk (some 56) (.call 19 [.tmp 55]) none [1, 1], AOper.mk (some 10) (.mv (.tmp 56)) none [2, 2, 0, 1, 2]]
def l4r25 : List AOper :=
  [AOper.mk (some 57) (.mv (.tmp 10)) none [], AOper.mk (some 58) (.mv (.tmp 4)) none [], AOper.mk (some 59) (.call 20 [.tmp 57, .tmp 58]) none [0, 1], AOper.mk (some 60) (.un .not (.tmp 59)) none [2]]
def l4r26 : List AOper :=
  [AOper.mk (some 2) (.mv (.const (.bool false))) none []]
def l4r27 : List AOper :=
  [AOper.mk (some 9) (.mv (.const (.int .i64 1))) none []]
def l4r28 : List AOper :=
  [AOper.mk (some 61) (.mv (.tmp 6)) none [], AOper.mk (some 62) (.mv (.tmp 9)) none [], AOper.mk (some 63) (.call 23 [.tmp 61, .tmp 62]) none [0, 1], AOper.mk (some 9) (.mv (.tmp 63)) none [2, 2, 0, 1, 2]]
def l4r29 : List AOper :=
  [AOper.mk (some 64) (.mv (.tmp 9)) none [], AOper.mk (some 65) (.bin .lss (.tmp 64) (.const (.int .i64 0))) none [0]]
def l4r30 : List AOper :=
  [AOper.mk (some 2) (.mv (.const (.bool false))) none []]
def l4r31 : List AOper :=
  [AOper.mk (some 66) (.mv (.tmp 9)) none [], AOper.mk (some 67) (.mv (.tmp 8)) none [], AOper.mk (some 68) (.bin .neq (.tmp 66) (.tmp 67)) none [0, 1]]
def l4r32 : List AOper :=
  [AOper.mk (some 2) (.mv (.const (.bool false))) none []]
def l4r33 : List AOper :=
  [AOper.mk (some 2) (.mv (.const (.bool true))) none []]
def l4 : AFn :=
  (AFn.mk 69 1 (ACode.seq (ACode.reg l4r0) (ACode.seq (ACode.reg l4r1) (ACode.seq (ACode.reg l4r2) (ACode.seq (ACode.seq (ACode.reg l4r3) (ACode.cond (.tmp 15) (ACode.seq (ACode.reg l4r4) ACode.ret) ACode.skip)) (ACode.seq (ACode.reg l4r5) (ACode.seq (ACode.reg l4r6) (ACode.seq (ACode.reg l4r7) (ACode.seq (ACode.seq (ACode.reg l4r8) (ACode.cond (.tmp 26) (ACode.seq (ACode.reg l4r9) ACode.ret) ACode.skip)) (ACode.seq (ACode.seq (ACode.draw l4r10) (ACode.cond (.tmp 31) (ACode.seq (ACode.reg l4r11) ACode.ret) ACode.skip)) (ACode.seq (ACode.reg l4r12) (ACode.seq (ACode.reg l4r13) (ACode.seq (ACode.seq (ACode.reg l4r14) (ACode.cond (.tmp 42) (ACode.seq (ACode.reg l4r15) ACode.ret) ACode.skip)) (ACode.seq (ACode.reg l4r16) (ACode.seq (ACode.reg l4r17) (ACode.seq (ACode.reg l4r18) (ACode.seq (ACode.reg l4r19) (ACode.seq (ACode.seq (ACode.reg l4r20) (ACode.cond (.tmp 50) (ACode.seq (ACode.reg l4r21) ACode.ret) ACode.skip)) (ACode.seq (ACode.seq (ACode.reg l4r22) (ACode.cond (.tmp 53) (ACode.seq (ACode.reg l4r23) ACode.ret) ACode.skip)) (ACode.seq (ACode.reg l4r24) (ACode.seq (ACode.seq (ACode.reg l4r25) (ACode.cond (.tmp 60) (ACode.seq (ACode.reg l4r26) ACode.ret) ACode.skip)) (ACode.seq (ACode.reg l4r27) (ACode.seq (ACode.reg l4r28) (ACode.seq (ACode.seq (ACode.reg l4r29) (ACode.cond (.tmp 65) (ACode.seq (ACode.reg l4r30) ACode.ret) ACode.skip)) (ACode.seq (ACode.seq (ACode.reg l4r31) (ACode.cond (.tmp 68) (ACode.seq (ACode.reg l4r32) ACode.ret) ACode.skip)) (ACode.seq (ACode.reg l4r33) ACode.ret))))))))))))))))))))))))) [ARes.tmp 2])
theorem l4_eq : lowFn Tryd.prog 4 = some l4 := by kernel_rfl
def l5r0 : List AOper :=
  [AOper.mk (some 1) (.box (.tmp 0)) none [], AOper.mk (some 2) (.mv (.const (.bool false))) none []]
def l5r1 : List AOper :=
  [AOper.mk (some 3) (.mv (.const (.int .i64 1048576))) none []]
def l5r2 : List AOper :=
  [AOper.mk (some 7) (.load true 3 (.tmp 1)) none [], AOper.mk (some 8) (.mv (.tmp 3)) none [], AOper.mk (some 9) (.call 13 [.tmp 7, .tmp 8]) none [0, 1], AOper.mk (some 3) (.mv (.tmp 9)) none [2, 2, 0, 1, 2]]
def l5r3 : List AOper :=
  [AOper.mk (some 10) (.mv (.tmp 3)) none [], AOper.mk (some 11) (.bin .lss (.tmp 10) (.const (.int .i64 0))) none [0]]
def l5r4 : List AOper :=
  [AOper.mk (some 2) (.mv (.const (.bool true))) none []]
def l5r5 : List AOper :=
  [AOper.mk (some 12) (.load true 3 (.tmp 1)) none [], AOper.mk (some 13) (.call 15 [.tmp 12]) none [0], AOper.mk (some 14) (.call 24 [.tmp 13]) none [1, 1], AOper.mk (some 4) (.mv (.tmp 14)) none [2, 2, 0, 1, 2]]
def l5r6 : List AOper :=
  [AOper.mk (some 15) (.load true 3 (.tmp 1)) none [], AOper.mk (some 16) (.call 15 [.tmp 15]) none [0], AOper.mk (some 5) (.alloc [.slice none 0 0, .bool false, .bool false]) none [], AOper.mk none (.store 3 (.tmp 5) (.tmp 16)) none [2, 1, 1, 0, 1, 2]]
def l5r7 : List AOper :=
  [AOper.mk (some 17) (.load true 3 (.tmp 5)) none [], AOper.mk (some 18) (.call 25 [.tmp 17]) none [0], AOper.mk (some 6) (.mv (.tmp 18)) none [1, 1, 0, 1]]
def l5r8 : List AOper :=
  [AOper.mk (some 19) (.mv (.tmp 6)) none [], AOper.mk (some 20) (.mv (.tmp 4)) none [], AOper.mk (some 21) (.bin .neq (.tmp 19) (.tmp 20)) none [0, 1]]
def l5r9 : List AOper :=
  [AOper.mk (some 2) (.mv (.const (.bool false))) none []]
def l5r10a : List AOper :=
  [AOper.mk (some 22) (.load true 3 (.tmp 5)) none [], AOper.mk (some 23) (.load true 3 (.tmp 1)) none [], AOper.mk (some 24) (.call 15 [.tmp 23]) none [1]]
def l5r10b : List AOper :=
  [AOper.mk (some 25) (.call 17 [.tmp 22, .tmp 24]) none [0, 2, 2], AOper.mk (some 26) (.un .not (.tmp 25)) none [3]]
def l5r10 : List AOper := l5r10a ++ l5r10b
def l5r11 : List AOper :=
  [AOper.mk (some 2) (.mv (.const (.bool false))) none []]
def l5r12 : List AOper :=
  [AOper.mk (some 2) (.mv (.const (.bool true))) none []]
def l5 : AFn :=
  (AFn.mk 27 1 (ACode.seq (ACode.reg l5r0) (ACode.seq (ACode.reg l5r1) (ACode.seq (ACode.reg l5r2) (ACode.seq (ACode.seq (ACode.reg l5r3) (ACode.cond (.tmp 11) (ACode.seq (ACode.reg l5r4) ACode.ret) ACode.skip)) (ACode.seq (ACode.reg l5r5) (ACode.seq (ACode.reg l5r6) (ACode.seq (ACode.reg l5r7) (ACode.seq (ACode.seq (ACode.reg l5r8) (ACode.cond (.tmp 21) (ACode.seq (ACode.reg l5r9) ACode.ret) ACode.skip)) (ACode.seq (ACode.seq (ACode.draw l5r10) (ACode.cond (.tmp 26) (ACode.seq (ACode.reg l5r11) ACode.ret) ACode.skip)) (ACode.seq (ACode.reg l5r12) ACode.ret)))))))))) [ARes.tmp 2])
theorem l5_eq : lowFn Tryd.prog 5 = some l5 := by kernel_rfl
def l6r0 : List AOper :=
  [AOper.mk (some 1) (.box (.tmp 0)) none [], AOper.mk (some 2) (.mv (.const (.bool false))) none []]
def l6r1 : List AOper :=
  [AOper.mk (some 3) (.mv (.const (.int .i64 1048576))) none []]
def l6r2 : List AOper :=
  [AOper.mk (some 11) (.load true 3 (.tmp 1)) none [], AOper.mk (some 12) (.mv (.tmp 3)) none [], AOper.mk (some 13) (.call 13 [.tmp 11, .tmp 12]) none [0, 1], AOper.mk (some 3) (.mv (.tmp 13)) none [2, 2, 0, 1, 2]]
def l6r3 : List AOper :=
  [AOper.mk (some 14) (.mv (.tmp 3)) none [], AOper.mk (some 15) (.bin .lss (.tmp 14) (.const (.int .i64 0))) none [0]]
def l6r4 : List AOper :=
  [AOper.mk (some 2) (.mv (.const (.bool true))) none []]
def l6r5 : List AOper :=
  [AOper.mk (some 16) (.load true 3 (.tmp 1)) none [], AOper.mk (some 17) (.call 15 [.tmp 16]) none [0], AOper.mk (some 18) (.call 26 [.tmp 17]) none [1, 1], AOper.mk (some 4) (.mv (.tmp 18)) none [2, 2, 0, 1, 2]]
def l6r6 : List AOper :=
  [AOper.mk (some 19) (.load true 3 (.tmp 1)) none [], AOper.mk (some 20) (.call 15 [.tmp 19]) none [0], AOper.mk (some 5) (.alloc [.slice none 0 0, .bool false, .bool false]) none [], AOper.mk none (.store 3 (.tmp 5) (.tmp 20)) none [2, 1, 1, 0, 1, 2]]
def l6r7 : List AOper :=
  [AOper.mk (some 21) (.load true 3 (.tmp 5)) none [], AOper.mk (some 22) (.call 27 [.tmp 21]) none [0], AOper.mk (some 6) (.mv (.tmp 22)) none [1, 1, 0, 1]]
def l6r8 : List AOper :=
  [AOper.mk (some 23) (.mv (.tmp 6)) none [], AOper.mk (some 24) (.mv (.tmp 4)) none [], AOper.mk (some 25) (.call 20 [.tmp 23, .tmp 24]) none [0, 1], AOper.mk (some 26) (.un .not (.tmp 25)) none [2]]
def l6r9 : List AOper :=
  [AOper.mk (some 2) (.mv (.const (.bool false))) none []]
def l6r10a : List AOper :=
  [AOper.mk (some 27) (.load true 3 (.tmp 5)) none [], AOper.mk (some 28) (.load true 3 (.tmp 1)) none [], AOper.mk (some 29) (.call 15 [.tmp 28]) none [1]]
def l6r10b : List AOper :=
  [AOper.mk (some 30) (.call 17 [.tmp 27, .tmp 29]) none [0, 2, 2], AOper.mk (some 31) (.un .not (.tmp 30)) none [3]]
def l6r10 : List AOper := l6r10a ++ l6r10b
def l6r11 : List AOper :=
  [AOper.mk (some 2) (.mv (.const (.bool false))) none []]
def l6r12 : List AOper :=
  [AOper.mk (some 7) (.mv (.const (.int .i64 1))) none []]
def l6r13 : List AOper :=
  [AOper.mk (some 32) (.load true 3 (.tmp 5)) none [], AOper.mk (some 33) (.mv (.tmp 7)) none [], AOper.mk (some 34) (.call 21 [.tmp 32, .tmp 33]) none [0, 1], AOper.mk (some 7) (.mv (.tmp 34)) none [2, 2, 0, 1, 2]]
def l6r14 : List AOper :=
  [AOper.mk (some 35) (.mv (.tmp 7)) none [], AOper.mk (some 36) (.bin .lss (.tmp 35) (.const (.int .i64 0))) none [0], AOper.mk (some 37) (.mv (.tmp 36)) none [1], AOper.mk (some 38) (.mv (.tmp 6)) (some (37, false)) [2], AOper.mk (some 39) (.mv (.tmp 4)) (some (37, false)) [2], AOper.mk (some 40) (.call 20 [.tmp 38, .tmp 39]) (some (37, false)) [3, 4, 2, 2], AOper.mk (some 41) (.un .not (.tmp 40)) (some (37, false)) [5, 2], AOper.mk (some 42) (.pick (.tmp 37) (.const (.bool true)) (.tmp 41)) none [2, 6]]
def l6r15 : List AOper :=
  [AOper.mk (some 2) (.mv (.const (.bool false))) none []]
def l6r16 : List AOper :=
  [AOper.mk (some 8) (.mv (.const (.int .i64 1))) none []]
def l6r17 : List AOper :=
  [AOper.mk (some 43) (.mv (.tmp 6)) none [], AOper.mk (some 44) (.mv (.tmp 8)) none [], AOper.mk (some 45) (.call 22 [.tmp 43, .tmp 44]) none [0, 1], AOper.mk (some 8) (.mv (.tmp 45)) none [2, 2, 0, 1, 2]]
def l6r18 : List AOper :=
  [AOper.mk (some 9) (.mv (.const (.int .i64 1))) none []]
def l6r19 : List AOper :=
  [AOper.mk (some 46) (.mv (.tmp 6)) none [], AOper.mk (some 47) (.mv (.tmp 9)) none [], AOper.mk (some 48) (.call 23 [.tmp 46, .tmp 47]) none [0, 1], AOper.mk (some 9) (.mv (.tmp 48)) none [2, 2, 0, 1, 2]]
def l6r20 : List AOper :=
  [AOper.mk (some 49) (.mv (.tmp 9)) none [], AOper.mk (some 50) (.bin .lss (.tmp 49) (.const (.int .i64 0))) none [0]]
def l6r21 : List AOper :=
  [AOper.mk (some 2) (.mv (.const (.bool false))) none []]
def l6r22 : List AOper :=
  [AOper.mk (some 51) (.mv (.tmp 9)) none [], AOper.mk (some 52) (.mv (.tmp 8)) none [], AOper.mk (some 53) (.bin .neq (.tmp 51) (.tmp 52)) none [0, 1]]
def l6r23 : List AOper :=
  [AOper.mk (some 2) (.mv (.const (.bool false))) none []]
def l6r24 : List AOper :=
  [AOper.mk (some 54) (.load true 3 (.tmp 1)) none [], AOper.mk (some 55) (.call 15 [.tmp 54]) none [0], AOper.mk (some 56) (.call 27 [.tmp 55]) none [1, 1], AOper.mk (some 10) (.mv (.tmp 56)) none [2, 2, 0, 1, 2]]
def l6r25 : List AOper :=
  [AOper.mk (some 57) (.mv (.tmp 10)) none [], AOper.mk (some 58) (.mv (.tmp 4)) none [], AOper.mk (some 59) (.call 20 [.tmp 57, .tmp 58]) none [0, 1], AOper.mk (some 60) (.un .not (.tmp 59)) none [2]]
def l6r26 : List AOper :=
  [AOper.mk (some 2) (.mv (.const (.bool false))) none []]
def l6r27 : List AOper :=
  [AOper.mk (some 9) (.mv (.const (.int .i64 1))) none []]
def l6r28 : List AOper :=
  [AOper.mk (some 61) (.mv (.tmp 6)) none [], AOper.mk (some 62) (.mv (.tmp 9)) none [], AOper.mk (some 63) (.call 23 [.tmp 61, .tmp 62]) none [0, 1], AOper.mk (some 9) (.mv (.tmp 63)) none [2, 2, 0, 1, 2]]
def l6r29 : List AOper :=
  [AOper.mk (some 64) (.mv (.tmp 9)) none [], AOper.mk (some 65) (.bin .lss (.tmp 64) (.const (.int .i64 0))) none [0]]
def l6r30 : List AOper :=
  [AOper.mk (some 2) (.mv (.const (.bool false))) none []]
def l6r31 : List AOper :=
  [AOper.mk (some 66) (.mv (.tmp 9)) none [], AOper.mk (some 67) (.mv (.tmp 8)) none [], AOper.mk (some 68) (.bin .neq (.tmp 66) (.tmp 67)) none [0, 1]]
def l6r32 : List AOper :=
  [AOper.mk (some 2) (.mv (.const (.bool false))) none []]
def l6r33 : List AOper :=
  [AOper.mk (some 2) (.mv (.const (.bool true))) none []]
def l6 : AFn :=
  (AFn.mk 69 1 (ACode.seq (ACode.reg l6r0) (ACode.seq (ACode.reg l6r1) (ACode.seq (ACode.reg l6r2) (ACode.seq (ACode.seq (ACode.reg l6r3) (ACode.cond (.tmp 15) (ACode.seq (ACode.reg l6r4) ACode.ret) ACode.skip)) (ACode.seq (ACode.reg l6r5) (ACode.seq (ACode.reg l6r6) (ACode.seq (ACode.reg l6r7) (ACode.seq (ACode.seq (ACode.reg l6r8) (ACode.cond (.tmp 26) (ACode.seq (ACode.reg l6r9) ACode.ret) ACode.skip)) (ACode.seq (ACode.seq (ACode.draw l6r10) (ACode.cond (.tmp 31) (ACode.seq (ACode.reg l6r11) ACode.ret) ACode.skip)) (ACode.seq (ACode.reg l6r12) (ACode.seq (ACode.reg l6r13) (ACode.seq (ACode.seq (ACode.reg l6r14) (ACode.cond (.tmp 42) (ACode.seq (ACode.reg l6r15) ACode.ret) ACode.skip)) (ACode.seq (ACode.reg l6r16) (ACode.seq (ACode.reg l6r17) (ACode.seq (ACode.reg l6r18) (ACode.seq (ACode.reg l6r19) (ACode.seq (ACode.seq (ACode.reg l6r20) (ACode.cond (.tmp 50) (ACode.seq (ACode.reg l6r21) ACode.ret) ACode.skip)) (ACode.seq (ACode.seq (ACode.reg l6r22) (ACode.cond (.tmp 53) (ACode.seq (ACode.reg l6r23) ACode.ret) ACode.skip)) (ACode.seq (ACode.reg l6r24) (ACode.seq (ACode.seq (ACode.reg l6r25) (ACode.cond (.tmp 60) (ACode.seq (ACode.reg l6r26) ACode.ret) ACode.skip)) (ACode.seq (ACode.reg l6r27) (ACode.seq (ACode.reg l6r28) (ACode.seq (ACode.seq (ACode.reg l6r29) (ACode.cond (.tmp 65) (ACode.seq (ACode.reg l6r30) ACode.ret) ACode.skip)) (ACode.seq (ACode.seq (ACode.reg l6r31) (ACode.cond (.tmp 68) (ACode.seq (ACode.reg l6r32) ACode.ret) ACode.skip)) (ACode.seq (ACode.reg l6r33) ACode.ret))))))))))))))))))))))))) [ARes.tmp 2])
theorem l6_eq : lowFn Tryd.prog 6 = some l6 := by kernel_rfl
def l7r0 : List AOper :=
  [AOper.mk (some 2) (.box (.tmp 0)) none [], AOper.mk (some 4) (.mv (.const (.bool false))) none []]
def l7r1 : List AOper :=
  [AOper.mk (some 14) (.mv (.tmp 1)) none [], AOper.mk (some 15) (.len (.tmp 14)) none [0], AOper.mk (some 16) (.bin .gtr (.tmp 15) (.const (.int .i64 1048576))) none [1]]
def l7r2 : List AOper :=
  [AOper.mk (some 4) (.mv (.const (.bool true))) none []]
def l7r3 : List AOper :=
  [AOper.mk (some 5) (.mv (.const (.int .i64 1048576))) none []]
def l7r4 : List AOper :=
  [AOper.mk (some 17) (.load true 3 (.tmp 2)) none [], AOper.mk (some 18) (.mv (.tmp 5)) none [], AOper.mk (some 19) (.call 13 [.tmp 17, .tmp 18]) none [0, 1], AOper.mk (some 5) (.mv (.tmp 19)) none [2, 2, 0, 1, 2]]
def l7r5 : List AOper :=
  [AOper.mk (some 20) (.mv (.tmp 5)) none [], AOper.mk (some 21) (.bin .lss (.tmp 20) (.const (.int .i64 0))) none [0]]
def l7r6 : List AOper :=
  [AOper.mk (some 4) (.mv (.const (.bool true))) none []]
def l7r7 : List AOper :=
  [AOper.mk (some 22) (.load true 3 (.tmp 2)) none [], AOper.mk (some 23) (.call 15 [.tmp 22]) none [0], AOper.mk (some 24) (.mv (.tmp 1)) none [], AOper.mk (some 25) (.call 29 [.tmp 24]) none [2, 1], AOper.mk (some 26) (.call 28 [.tmp 23, .tmp 25]) none [1, 3, 3], AOper.mk (some 6) (.mv (.tmp 26)) none [4, 4, 0, 1, 2, 3, 4]]
def l7r8 : List AOper :=
  [AOper.mk (some 27) (.load true 3 (.tmp 2)) none [], AOper.mk (some 28) (.call 15 [.tmp 27]) none [0], AOper.mk (some 7) (.alloc [.slice none 0 0, .bool false, .bool false]) none [], AOper.mk none (.store 3 (.tmp 7) (.tmp 28)) none [2, 1, 1, 0, 1, 2]]
def l7r9 : List AOper :=
  [AOper.mk (some 29) (.mv (.tmp 1)) none [], AOper.mk (some 30) (.call 29 [.tmp 29]) none [0], AOper.mk (some 8) (.mv (.tmp 30)) none [1, 1, 0, 1]]
def l7r10 : List AOper :=
  [AOper.mk (some 31) (.load true 3 (.tmp 7)) none [], AOper.mk (some 32) (.mv (.tmp 8)) none [], AOper.mk (some 33) (.call 30 [.tmp 31, .tmp 32]) none [0, 1], AOper.mk (some 9) (.mv (.tmp 33)) none [2, 2, 0, 1, 2]]
def l7r11 : List AOper :=
  [AOper.mk (some 34) (.mv (.tmp 9)) none [], AOper.mk (some 35) (.mv (.tmp 6)) none [], AOper.mk (some 36) (.call 20 [.tmp 34, .tmp 35]) none [0, 1], AOper.mk (some 37) (.un .not (.tmp 36)) none [2]]
def l7r12 : List AOper :=
  [AOper.mk (some 4) (.mv (.const (.bool false))) none []]
def l7r13a : List AOper :=
  [AOper.mk (some 38) (.load true 3 (.tmp 7)) none [], AOper.mk (some 39) (.load true 3 (.tmp 2)) none [], AOper.mk (some 40) (.call 15 [.tmp 39]) none [1]]
def l7r13b : List AOper :=
  [AOper.mk (some 41) (.call 17 [.tmp 38, .tmp 40]) none [0, 2, 2], AOper.mk (some 42) (.un .not (.tmp 41)) none [3]]
def l7r13 : List AOper := l7r13a ++ l7r13b
def l7r14 : List AOper :=
  [AOper.mk (some 4) (.mv (.const (.bool false))) none []]
def l7r15 : List AOper :=
  [AOper.mk (some 43) (.mv (.tmp 8)) none [], AOper.mk (some 44) (.mv (.tmp 1)) none [], AOper.mk (some 45) (.call 29 [.tmp 44]) none [1], AOper.mk (some 46) (.call 20 [.tmp 43, .tmp 45]) none [0, 2, 2], AOper.mk (some 47) (.un .not (.tmp 46)) none [3]]
def l7r16 : List AOper :=
  [AOper.mk (some 4) (.mv (.const (.bool false))) none []]
def l7r17 : List AOper :=
  [AOper.mk (some 10) (.mv (.const (.int .i64 1))) none []]
def l7r18 : List AOper :=
  [AOper.mk (some 48) (.load true 3 (.tmp 7)) none [], AOper.mk (some 49) (.mv (.tmp 10)) none [], AOper.mk (some 50) (.call 21 [.tmp 48, .tmp 49]) none [0, 1], AOper.mk (some 10) (.mv (.tmp 50)) none [2, 2, 0, 1, 2]]
def l7r19 : List AOper :=
  [AOper.mk (some 51) (.mv (.tmp 8)) none [], AOper.mk (some 52) (.mv (.tmp 10)) none [], AOper.mk (some 53) (.call 22 [.tmp 51, .tmp 52]) none [0, 1], AOper.mk (some 10) (.mv (.tmp 53)) none [2, 2, 0, 1, 2]]
def l7r20 : List AOper :=
  [AOper.mk (some 54) (.mv (.tmp 10)) none [], AOper.mk (some 55) (.bin .lss (.tmp 54) (.const (.int .i64 0))) none [0], AOper.mk (some 56) (.mv (.tmp 55)) none [1], AOper.mk (some 57) (.mv (.tmp 9)) (some (56, false)) [2], AOper.mk (some 58) (.mv (.tmp 6)) (some (56, false)) [2], AOper.mk (some 59) (.call 20 [.tmp 57, .tmp 58]) (some (56, false)) [3, 4, 2, 2], AOper.mk (some 60) (.un .not (.tmp 59)) (some (56, false)) [5, 2], AOper.mk (some 61) (.pick (.tmp 56) (.const (.bool true)) (.tmp 60)) none [2, 6]]
def l7r21 : List AOper :=
  [AOper.mk (some 4) (.mv (.const (.bool false))) none []]
def l7r22 : List AOper :=
  [AOper.mk (some 11) (.mv (.const (.int .i64 1))) none []]
def l7r23 : List AOper :=
  [AOper.mk (some 62) (.mv (.tmp 9)) none [], AOper.mk (some 63) (.mv (.tmp 11)) none [], AOper.mk (some 64) (.call 22 [.tmp 62, .tmp 63]) none [0, 1], AOper.mk (some 11) (.mv (.tmp 64)) none [2, 2, 0, 1, 2]]
def l7r24 : List AOper :=
  [AOper.mk (some 12) (.mv (.const (.int .i64 1))) none []]
def l7r25 : List AOper :=
  [AOper.mk (some 65) (.mv (.tmp 9)) none [], AOper.mk (some 66) (.mv (.tmp 12)) none [], AOper.mk (some 67) (.call 23 [.tmp 65, .tmp 66]) none [0, 1], AOper.mk (some 12) (.mv (.tmp 67)) none [2, 2, 0, 1, 2]]
def l7r26 : List AOper :=
  [AOper.mk (some 68) (.mv (.tmp 12)) none [], AOper.mk (some 69) (.bin .lss (.tmp 68) (.const (.int .i64 0))) none [0]]
def l7r27 : List AOper :=
  [AOper.mk (some 4) (.mv (.const (.bool false))) none []]
def l7r28 : List AOper :=
  [AOper.mk (some 70) (.mv (.tmp 12)) none [], AOper.mk (some 71) (.mv (.tmp 11)) none [], AOper.mk (some 72) (.bin .neq (.tmp 70) (.tmp 71)) none [0, 1]]
def l7r29 : List AOper :=
  [AOper.mk (some 4) (.mv (.const (.bool false))) none []]
def l7r30 : List AOper :=
  [AOper.mk (some 73) (.load true 3 (.tmp 2)) none [], AOper.mk (some 74) (.call 15 [.tmp 73]) none [0], AOper.mk (some 75) (.mv (.tmp 1)) none [], AOper.mk (some 76) (.call 29 [.tmp 75]) none [2, 1], AOper.mk (some 77) (.call 30 [.tmp 74, .tmp 76]) none [1, 3, 3], AOper.mk (some 13) (.mv (.tmp 77)) none [4, 4, 0, 1, 2, 3, 4]]
def l7r31 : List AOper :=
  [AOper.mk (some 78) (.mv (.tmp 13)) none [], AOper.mk (some 79) (.mv (.tmp 6)) none [], AOper.mk (some 80) (.call 20 [.tmp 78, .tmp 79]) none [0, 1], AOper.mk (some 81) (.un .not (.tmp 80)) none [2]]
def l7r32 : List AOper :=
  [AOper.mk (some 4) (.mv (.const (.bool false))) none []]
def l7r33 : List AOper :=
  [AOper.mk (some 12) (.mv (.const (.int .i64 1))) none []]
def l7r34 : List AOper :=
  [AOper.mk (some 82) (.mv (.tmp 9)) none [], AOper.mk (some 83) (.mv (.tmp 12)) none [], AOper.mk (some 84) (.call 23 [.tmp 82, .tmp 83]) none [0, 1], AOper.mk (some 12) (.mv (.tmp 84)) none [2, 2, 0, 1, 2]]
def l7r35 : List AOper :=
  [AOper.mk (some 85) (.mv (.tmp 12)) none [], AOper.mk (some 86) (.bin .lss (.tmp 85) (.const (.int .i64 0))) none [0]]
def l7r36 : List AOper :=
  [AOper.mk (some 4) (.mv (.const (.bool false))) none []]
def l7r37 : List AOper :=
  [AOper.mk (some 87) (.mv (.tmp 12)) none [], AOper.mk (some 88) (.mv (.tmp 11)) none [], AOper.mk (some 89) (.bin .neq (.tmp 87) (.tmp 88)) none [0, 1]]
def l7r38 : List AOper :=
  [AOper.mk (some 4) (.mv (.const (.bool false))) none []]
def l7r39 : List AOper :=
  [AOper.mk (some 4) (.mv (.const (.bool true))) none []]
def l7 : AFn :=
  (AFn.mk 90 2 (ACode.seq (ACode.reg l7r0) (ACode.seq (ACode.seq (ACode.reg l7r1) (ACode.cond (.tmp 16) (ACode.seq (ACode.reg l7r2) ACode.ret) ACode.skip)) (ACode.seq (ACode.reg l7r3) (ACode.seq (ACode.reg l7r4) (ACode.seq (ACode.seq (ACode.reg l7r5) (ACode.cond (.tmp 21) (ACode.seq (ACode.reg l7r6) ACode.ret) ACode.skip)) (ACode.seq (ACode.reg l7r7) (ACode.seq (ACode.reg l7r8) (ACode.seq (ACode.reg l7r9) (ACode.seq (ACode.reg l7r10) (ACode.seq (ACode.seq (ACode.reg l7r11) (ACode.cond (.tmp 37) (ACode.seq (ACode.reg l7r12) ACode.ret) ACode.skip)) (ACode.seq (ACode.seq (ACode.draw l7r13) (ACode.cond (.tmp 42) (ACode.seq (ACode.reg l7r14) ACode.ret) ACode.skip)) (ACode.seq (ACode.seq (ACode.reg l7r15) (ACode.cond (.tmp 47) (ACode.seq (ACode.reg l7r16) ACode.ret) ACode.skip)) (ACode.seq (ACode.reg l7r17) (ACode.seq (ACode.reg l7r18) (ACode.seq (ACode.reg l7r19) (ACode.seq (ACode.seq (ACode.reg l7r20) (ACode.cond (.tmp 61) (ACode.seq (ACode.reg l7r21) ACode.ret) ACode.skip)) (ACode.seq (ACode.reg l7r22) (ACode.seq (ACode.reg l7r23) (ACode.seq (ACode.reg l7r24) (ACode.seq (ACode.reg l7r25) (ACode.seq (ACode.seq (ACode.reg l7r26) (ACode.cond (.tmp 69) (ACode.seq (ACode.reg l7r27) ACode.ret) ACode.skip)) (ACode.seq (ACode.seq (ACode.reg l7r28) (ACode.cond (.tmp 72) (ACode.seq (ACode.reg l7r29) ACode.ret) ACode.skip)) (ACode.seq (ACode.reg l7r30) (ACode.seq (ACode.seq (ACode.reg l7r31) (ACode.cond (.tmp 81) (ACode.seq (ACode.reg l7r32) ACode.ret) ACode.skip)) (ACode.seq (ACode.reg l7r33) (ACode.seq (ACode.reg l7r34) (ACode.seq (ACode.seq (ACode.reg l7r35) (ACode.cond (.tmp 86) (ACode.seq (ACode.reg l7r36) ACode.ret) ACode.skip)) (ACode.seq (ACode.seq (ACode.reg l7r37) (ACode.cond (.tmp 89) (ACode.seq (ACode.reg l7r38) ACode.ret) ACode.skip)) (ACode.seq (ACode.reg l7r39) ACode.ret))))))))))))))))))))))))))))) [ARes.tmp 4])
theorem l7_eq : lowFn Tryd.prog 7 = some l7 := by kernel_rfl
def l8r0 : List AOper :=
  [AOper.mk (some 2) (.box (.tmp 0)) none [], AOper.mk (some 4) (.mv (.const (.bool false))) none []]
def l8r1 : List AOper :=
  [AOper.mk (some 17) (.mv (.tmp 1)) none [], AOper.mk (some 18) (.len (.tmp 17)) none [0], AOper.mk (some 19) (.bin .gtr (.tmp 18) (.const (.int .i64 1048576))) none [1]]
def l8r2 : List AOper :=
  [AOper.mk (some 4) (.mv (.const (.bool true))) none []]
def l8r3 : List AOper :=
  [AOper.mk (some 5) (.mv (.const (.int .i64 1048576))) none []]
def l8r4 : List AOper :=
  [AOper.mk (some 20) (.load true 3 (.tmp 2)) none [], AOper.mk (some 21) (.mv (.tmp 5)) none [], AOper.mk (some 22) (.call 13 [.tmp 20, .tmp 21]) none [0, 1], AOper.mk (some 5) (.mv (.tmp 22)) none [2, 2, 0, 1, 2]]
def l8r5 : List AOper :=
  [AOper.mk (some 23) (.mv (.tmp 5)) none [], AOper.mk (some 24) (.bin .lss (.tmp 23) (.const (.int .i64 0))) none [0]]
def l8r6 : List AOper :=
  [AOper.mk (some 4) (.mv (.const (.bool true))) none []]
def l8r7 : List AOper :=
  [AOper.mk (some 26) (.load true 3 (.tmp 2)) none [], AOper.mk (some 27) (.call 15 [.tmp 26]) none [0], AOper.mk (some 28) (.mv (.tmp 1)) none [], AOper.mk (some 29) (.call 29 [.tmp 28]) none [2, 1], AOper.mk (some 30) (.call 31 [.tmp 27, .tmp 29]) none [1, 3, 3], AOper.mk (some 25) (.mv (.tmp 30)) none [4], AOper.mk (some 31) (.extract (.tmp 25) 0) none [5], AOper.mk (some 32) (.extract (.tmp 25) 1) none [5], AOper.mk (some 6) (.mv (.tmp 31)) none [6, 4, 0, 1, 2, 3, 4, 5, 6], AOper.mk (some 7) (.mv (.tmp 32)) none [7, 8, 0, 1, 2, 3, 4, 5, 6, 7, 8]]
def l8r8 : List AOper :=
  [AOper.mk (some 33) (.load true 3 (.tmp 2)) none [], AOper.mk (some 34) (.call 15 [.tmp 33]) none [0], AOper.mk (some 8) (.alloc [.slice none 0 0, .bool false, .bool false]) none [], AOper.mk none (.store 3 (.tmp 8) (.tmp 34)) none [2, 1, 1, 0, 1, 2]]
def l8r9 : List AOper :=
  [AOper.mk (some 35) (.mv (.tmp 1)) none [], AOper.mk (some 36) (.call 29 [.tmp 35]) none [0], AOper.mk (some 9) (.mv (.tmp 36)) none [1, 1, 0, 1]]
def l8r10 : List AOper :=
  [AOper.mk (some 38) (.load true 3 (.tmp 8)) none [], AOper.mk (some 39) (.mv (.tmp 9)) none [], AOper.mk (some 40) (.call 32 [.tmp 38, .tmp 39]) none [0, 1], AOper.mk (some 37) (.mv (.tmp 40)) none [2], AOper.mk (some 41) (.extract (.tmp 37) 0) none [3], AOper.mk (some 42) (.extract (.tmp 37) 1) none [3], AOper.mk (some 10) (.mv (.tmp 41)) none [4, 2, 0, 1, 2, 3, 4], AOper.mk (some 11) (.mv (.tmp 42)) none [5, 6, 0, 1, 2, 3, 4, 5, 6]]
def l8r11 : List AOper :=
  [AOper.mk (some 43) (.mv (.tmp 10)) none [], AOper.mk (some 44) (.mv (.tmp 6)) none [], AOper.mk (some 45) (.call 20 [.tmp 43, .tmp 44]) none [0, 1], AOper.mk (some 46) (.un .not (.tmp 45)) none [2], AOper.mk (some 47) (.mv (.tmp 46)) none [3, 2], AOper.mk (some 48) (.mv (.tmp 11)) (some (47, false)) [4], AOper.mk (some 49) (.mv (.tmp 7)) (some (47, false)) [4], AOper.mk (some 50) (.binB .neq (.tmp 48) (.tmp 49)) (some (47, false)) [5, 6, 4], AOper.mk (some 51) (.pick (.tmp 47) (.const (.bool true)) (.tmp 50)) none [4, 7]]
def l8r12 : List AOper :=
  [AOper.mk (some 4) (.mv (.const (.bool false))) none []]
def l8r13a : List AOper :=
  [AOper.mk (some 52) (.load true 3 (.tmp 8)) none [], AOper.mk (some 53) (.load true 3 (.tmp 2)) none [], AOper.mk (some 54) (.call 15 [.tmp 53]) none [1]]
def l8r13b : List AOper :=
  [AOper.mk (some 55) (.call 17 [.tmp 52, .tmp 54]) none [0, 2, 2], AOper.mk (some 56) (.un .not (.tmp 55)) none [3]]
def l8r13 : List AOper := l8r13a ++ l8r13b
def l8r14 : List AOper :=
  [AOper.mk (some 4) (.mv (.const (.bool false))) none []]
def l8r15 : List AOper :=
  [AOper.mk (some 57) (.mv (.tmp 9)) none [], AOper.mk (some 58) (.mv (.tmp 1)) none [], AOper.mk (some 59) (.call 29 [.tmp 58]) none [1], AOper.mk (some 60) (.call 20 [.tmp 57, .tmp 59]) none [0, 2, 2], AOper.mk (some 61) (.un .not (.tmp 60)) none [3]]
def l8r16 : List AOper :=
  [AOper.mk (some 4) (.mv (.const (.bool false))) none []]
def l8r17 : List AOper :=
  [AOper.mk (some 12) (.mv (.const (.int .i64 1))) none []]
def l8r18 : List AOper :=
  [AOper.mk (some 62) (.load true 3 (.tmp 8)) none [], AOper.mk (some 63) (.mv (.tmp 12)) none [], AOper.mk (some 64) (.call 21 [.tmp 62, .tmp 63]) none [0, 1], AOper.mk (some 12) (.mv (.tmp 64)) none [2, 2, 0, 1, 2]]
def l8r19 : List AOper :=
  [AOper.mk (some 65) (.mv (.tmp 9)) none [], AOper.mk (some 66) (.mv (.tmp 12)) none [], AOper.mk (some 67) (.call 22 [.tmp 65, .tmp 66]) none [0, 1], AOper.mk (some 12) (.mv (.tmp 67)) none [2, 2, 0, 1, 2]]
def l8r20 : List AOper :=
  [AOper.mk (some 68) (.mv (.tmp 12)) none [], AOper.mk (some 69) (.bin .lss (.tmp 68) (.const (.int .i64 0))) none [0], AOper.mk (some 70) (.mv (.tmp 69)) none [1], AOper.mk (some 71) (.mv (.tmp 10)) (some (70, false)) [2], AOper.mk (some 72) (.mv (.tmp 6)) (some (70, false)) [2], AOper.mk (some 73) (.call 20 [.tmp 71, .tmp 72]) (some (70, false)) [3, 4, 2, 2], AOper.mk (some 74) (.un .not (.tmp 73)) (some (70, false)) [5, 2], AOper.mk (some 75) (.pick (.tmp 70) (.const (.bool true)) (.tmp 74)) none [2, 6], AOper.mk (some 76) (.mv (.tmp 75)) none [7, 5], AOper.mk (some 77) (.mv (.tmp 11)) (some (76, false)) [8], AOper.mk (some 78) (.mv (.tmp 7)) (some (76, false)) [8], AOper.mk (some 79) (.binB .neq (.tmp 77) (.tmp 78)) (some (76, false)) [9, 10, 8], AOper.mk (some 80) (.pick (.tmp 76) (.const (.bool true)) (.tmp 79)) none [8, 11]]
def l8r21 : List AOper :=
  [AOper.mk (some 4) (.mv (.const (.bool false))) none []]
def l8r22 : List AOper :=
  [AOper.mk (some 13) (.mv (.const (.int .i64 1))) none []]
def l8r23 : List AOper :=
  [AOper.mk (some 81) (.mv (.tmp 10)) none [], AOper.mk (some 82) (.mv (.tmp 13)) none [], AOper.mk (some 83) (.call 22 [.tmp 81, .tmp 82]) none [0, 1], AOper.mk (some 13) (.mv (.tmp 83)) none [2, 2, 0, 1, 2]]
def l8r24 : List AOper :=
  [AOper.mk (some 14) (.mv (.const (.int .i64 1))) none []]
def l8r25 : List AOper :=
  [AOper.mk (some 84) (.mv (.tmp 10)) none [], AOper.mk (some 85) (.mv (.tmp 14)) none [], AOper.mk (some 86) (.call 23 [.tmp 84, .tmp 85]) none [0, 1], AOper.mk (some 14) (.mv (.tmp 86)) none [2, 2, 0, 1, 2]]
def l8r26 : List AOper :=
  [AOper.mk (some 87) (.mv (.tmp 14)) none [], AOper.mk (some 88) (.bin .lss (.tmp 87) (.const (.int .i64 0))) none [0]]
def l8r27 : List AOper :=
  [AOper.mk (some 4) (.mv (.const (.bool false))) none []]
def l8r28 : List AOper :=
  [AOper.mk (some 89) (.mv (.tmp 14)) none [], AOper.mk (some 90) (.mv (.tmp 13)) none [], AOper.mk (some 91) (.bin .neq (.tmp 89) (.tmp 90)) none [0, 1]]
def l8r29 : List AOper :=
  [AOper.mk (some 4) (.mv (.const (.bool false))) none []]
def l8r30 : List AOper :=
  [AOper.mk (some 93) (.load true 3 (.tmp 2)) none [], AOper.mk (some 94) (.call 15 [.tmp 93]) none [0], AOper.mk (some 95) (.mv (.tmp 1)) none [], AOper.mk (some 96) (.call 29 [.tmp 95]) none [2, 1], AOper.mk (some 97) (.call 32 [.tmp 94, .tmp 96]) none [1, 3, 3], AOper.mk (some 92) (.mv (.tmp 97)) none [4], AOper.mk (some 98) (.extract (.tmp 92) 0) none [5], AOper.mk (some 99) (.extract (.tmp 92) 1) none [5], AOper.mk (some 15) (.mv (.tmp 98)) none [6, 4, 0, 1, 2, 3, 4, 5, 6], AOper.mk (some 16) (.mv (.tmp 99)) none [7, 8, 0, 1, 2, 3, 4, 5, 6, 7, 8]]
def l8r31 : List AOper :=
  [AOper.mk (some 100) (.mv (.tmp 15)) none [], AOper.mk (some 101) (.mv (.tmp 6)) none [], AOper.mk (some 102) (.call 20 [.tmp 100, .tmp 101]) none [0, 1], AOper.mk (some 103) (.un .not (.tmp 102)) none [2], AOper.mk (some 104) (.mv (.tmp 103)) none [3, 2], AOper.mk (some 105) (.mv (.tmp 16)) (some (104, false)) [4], AOper.mk (some 106) (.mv (.tmp 7)) (some (104, false)) [4], AOper.mk (some 107) (.binB .neq (.tmp 105) (.tmp 106)) (some (104, false)) [5, 6, 4], AOper.mk (some 108) (.pick (.tmp 104) (.const (.bool true)) (.tmp 107)) none [4, 7]]
def l8r32 : List AOper :=
  [AOper.mk (some 4) (.mv (.const (.bool false))) none []]
def l8r33 : List AOper :=
  [AOper.mk (some 14) (.mv (.const (.int .i64 1))) none []]
def l8r34 : List AOper :=
  [AOper.mk (some 109) (.mv (.tmp 10)) none [], AOper.mk (some 110) (.mv (.tmp 14)) none [], AOper.mk (some 111) (.call 23 [.tmp 109, .tmp 110]) none [0, 1], AOper.mk (some 14) (.mv (.tmp 111)) none [2, 2, 0, 1, 2]]
def l8r35 : List AOper :=
  [AOper.mk (some 112) (.mv (.tmp 14)) none [], AOper.mk (some 113) (.bin .lss (.tmp 112) (.const (.int .i64 0))) none [0]]
def l8r36 : List AOper :=
  [AOper.mk (some 4) (.mv (.const (.bool false))) none []]
def l8r37 : List AOper :=
  [AOper.mk (some 114) (.mv (.tmp 14)) none [], AOper.mk (some 115) (.mv (.tmp 13)) none [], AOper.mk (some 116) (.bin .neq (.tmp 114) (.tmp 115)) none [0, 1]]
def l8r38 : List AOper :=
  [AOper.mk (some 4) (.mv (.const (.bool false))) none []]
def l8r39 : List AOper :=
  [AOper.mk (some 4) (.mv (.const (.bool true))) none []]
def l8 : AFn :=
  (AFn.mk 117 2 (ACode.seq (ACode.reg l8r0) (ACode.seq (ACode.seq (ACode.reg l8r1) (ACode.cond (.tmp 19) (ACode.seq (ACode.reg l8r2) ACode.ret) ACode.skip)) (ACode.seq (ACode.reg l8r3) (ACode.seq (ACode.reg l8r4) (ACode.seq (ACode.seq (ACode.reg l8r5) (ACode.cond (.tmp 24) (ACode.seq (ACode.reg l8r6) ACode.ret) ACode.skip)) (ACode.seq (ACode.reg l8r7) (ACode.seq (ACode.reg l8r8) (ACode.seq (ACode.reg l8r9) (ACode.seq (ACode.reg l8r10) (ACode.seq (ACode.seq (ACode.reg l8r11) (ACode.cond (.tmp 51) (ACode.seq (ACode.reg l8r12) ACode.ret) ACode.skip)) (ACode.seq (ACode.seq (ACode.draw l8r13) (ACode.cond (.tmp 56) (ACode.seq (ACode.reg l8r14) ACode.ret) ACode.skip)) (ACode.seq (ACode.seq (ACode.reg l8r15) (ACode.cond (.tmp 61) (ACode.seq (ACode.reg l8r16) ACode.ret) ACode.skip)) (ACode.seq (ACode.reg l8r17) (ACode.seq (ACode.reg l8r18) (ACode.seq (ACode.reg l8r19) (ACode.seq (ACode.seq (ACode.reg l8r20) (ACode.cond (.tmp 80) (ACode.seq (ACode.reg l8r21) ACode.ret) ACode.skip)) (ACode.seq (ACode.reg l8r22) (ACode.seq (ACode.reg l8r23) (ACode.seq (ACode.reg l8r24) (ACode.seq (ACode.reg l8r25) (ACode.seq (ACode.seq (ACode.reg l8r26) (ACode.cond (.tmp 88) (ACode.seq (ACode.reg l8r27) ACode.ret) ACode.skip)) (ACode.seq (ACode.seq (ACode.reg l8r28) (ACode.cond (.tmp 91) (ACode.seq (ACode.reg l8r29) ACode.ret) ACode.skip)) (ACode.seq (ACode.reg l8r30) (ACode.seq (ACode.seq (ACode.reg l8r31) (ACode.cond (.tmp 108) (ACode.seq (ACode.reg l8r32) ACode.ret) ACode.skip)) (ACode.seq (ACode.reg l8r33) (ACode.seq (ACode.reg l8r34) (ACode.seq (ACode.seq (ACode.reg l8r35) (ACode.cond (.tmp 113) (ACode.seq (ACode.reg l8r36) ACode.ret) ACode.skip)) (ACode.seq (ACode.seq (ACode.reg l8r37) (ACode.cond (.tmp 116) (ACode.seq (ACode.reg l8r38) ACode.ret) ACode.skip)) (ACode.seq (ACode.reg l8r39) ACode.ret))))))))))))))))))))))))))))) [ARes.tmp 4])
theorem l8_eq : lowFn Tryd.prog 8 = some l8 := by kernel_rfl
def l13r0 : List AOper :=
  [AOper.mk (some 2) (.box (.tmp 0)) none [], AOper.mk (some 4) (.mv (.const (.int .i64 0))) none []]
def l13r1 : List AOper :=
  [AOper.mk (some 5) (.fld 0 (.tmp 2)) none [], AOper.mk (some 6) (.load false 1 (.tmp 5)) none [0], AOper.mk (some 7) (.mv (.tmp 1)) none [], AOper.mk (some 8) (.call 49 [.tmp 6, .tmp 7]) none [1, 2], AOper.mk (some 1) (.mv (.tmp 8)) none [3, 3, 0, 1, 2, 3]]
def l13r2 : List AOper :=
  [AOper.mk (some 9) (.mv (.tmp 1)) none [], AOper.mk (some 10) (.bin .lss (.tmp 9) (.const (.int .i64 0))) none [0]]
def l13r3 : List AOper :=
  [AOper.mk (some 4) (.mv (.const (.int .i64 (-1)))) none []]
def l13r4 : List AOper :=
  [AOper.mk (some 11) (.mv (.tmp 1)) none [], AOper.mk (some 4) (.mv (.tmp 11)) none [0, 0]]
def l13 : AFn :=
  (AFn.mk 12 2 (ACode.seq (ACode.reg l13r0) (ACode.seq (ACode.reg l13r1) (ACode.seq (ACode.seq (ACode.reg l13r2) (ACode.cond (.tmp 10) (ACode.seq (ACode.reg l13r3) ACode.ret) ACode.skip)) (ACode.seq (ACode.reg l13r4) ACode.ret)))) [ARes.tmp 4])
theorem l13_eq : lowFn Tryd.prog 13 = some l13 := by kernel_rfl
def l14r0 : List AOper :=
  [AOper.mk (some 1) (.box (.tmp 0)) none [], AOper.mk (some 2) (.mv (.const (.bool false))) none []]
def l14r1 : List AOper :=
  [AOper.mk (some 3) (.load true 3 (.tmp 1)) none [], AOper.mk (some 4) (.call 50 [.tmp 3]) none [0], AOper.mk (some 2) (.mv (.tmp 4)) none [1, 1, 0, 1]]
def l14 : AFn :=
  (AFn.mk 5 1 (ACode.seq (ACode.reg l14r0) (ACode.seq (ACode.reg l14r1) ACode.ret)) [ARes.tmp 2])
theorem l14_eq : lowFn Tryd.prog 14 = some l14 := by kernel_rfl
def l15r0 : List AOper :=
  [AOper.mk (some 1) (.box (.tmp 0)) none [], AOper.mk (some 2) (.alloc [.slice none 0 0, .bool false, .bool false]) none []]
def l15r1 : List AOper :=
  [AOper.mk (some 3) (.alloc [.slice none 0 0, .bool false, .bool false]) none []]
def l15r2 : List AOper :=
  [AOper.mk (some 4) (.fld 0 (.tmp 1)) none [], AOper.mk (some 5) (.load false 1 (.tmp 4)) none [0], AOper.mk (some 6) (.call 29 [.tmp 5]) none [1], AOper.mk (some 7) (.fld 0 (.tmp 3)) none [0, 1, 2], AOper.mk none (.store 1 (.tmp 7) (.tmp 6)) none [3, 2, 2, 0, 1, 2]]
def l15r3 : List AOper :=
  [AOper.mk (some 8) (.fld 1 (.tmp 1)) none [], AOper.mk (some 9) (.load false 1 (.tmp 8)) none [0], AOper.mk (some 10) (.fld 1 (.tmp 3)) none [0, 1], AOper.mk none (.store 1 (.tmp 10) (.tmp 9)) none [2, 1, 0, 1]]
def l15r4 : List AOper :=
  [AOper.mk (some 11) (.fld 2 (.tmp 1)) none [], AOper.mk (some 12) (.load false 1 (.tmp 11)) none [0], AOper.mk (some 13) (.fld 2 (.tmp 3)) none [0, 1], AOper.mk none (.store 1 (.tmp 13) (.tmp 12)) none [2, 1, 0, 1]]
def l15r5 : List AOper :=
  [AOper.mk (some 14) (.load true 3 (.tmp 3)) none [], AOper.mk none (.store 3 (.tmp 2) (.tmp 14)) none [0, 0]]
def l15 : AFn :=
  (AFn.mk 15 1 (ACode.seq (ACode.reg l15r0) (ACode.seq (ACode.reg l15r1) (ACode.seq (ACode.reg l15r2) (ACode.seq (ACode.reg l15r3) (ACode.seq (ACode.reg l15r4) (ACode.seq (ACode.reg l15r5) ACode.ret)))))) [ARes.cell 2 true 3])
theorem l15_eq : lowFn Tryd.prog 15 = some l15 := by kernel_rfl
def l16r0 : List AOper :=
  [AOper.mk (some 1) (.box (.tmp 0)) none [], AOper.mk (some 2) (.mv (.const (.bool false))) none []]
def l16r1 : List AOper :=
  [AOper.mk (some 5) (.fld 0 (.tmp 1)) none [], AOper.mk (some 6) (.load false 1 (.tmp 5)) none [0], AOper.mk (some 7) (.len (.tmp 6)) none [1], AOper.mk (some 8) (.bin .lss (.tmp 7) (.const (.int .i64 1))) none [2], AOper.mk (some 9) (.mv (.tmp 8)) none [3], AOper.mk (some 10) (.fld 0 (.tmp 1)) (some (9, false)) [4], AOper.mk (some 11) (.load false 1 (.tmp 10)) (some (9, false)) [5, 4], AOper.mk (some 12) (.len (.tmp 11)) (some (9, false)) [6, 4], AOper.mk (some 13) (.bin .gtr (.tmp 12) (.const (.int .i64 5))) (some (9, false)) [7, 4], AOper.mk (some 14) (.pick (.tmp 9) (.const (.bool true)) (.tmp 13)) none [4, 8]]
def l16r2 : List AOper :=
  [AOper.mk (some 2) (.mv (.const (.bool false))) none []]
def l16r3 : List AOper :=
  [AOper.mk (some 15) (.fld 0 (.tmp 1)) none [], AOper.mk (some 16) (.load false 1 (.tmp 15)) none [0], AOper.mk (some 17) (.len (.tmp 16)) none [1], AOper.mk (some 18) (.mv (.const (.int .i64 0))) none []]
def l16r4 : List AOper :=
  [AOper.mk (some 19) (.bin .lss (.tmp 18) (.tmp 17)) none []]
def l16r5 : List AOper :=
  [AOper.mk (some 20) (.idxA 1 (.tmp 16) (.tmp 18)) none [], AOper.mk (some 21) (.load false 1 (.tmp 20)) none [0], AOper.mk (some 4) (.mv (.tmp 21)) none [1, 0, 1]]
def l16r6 : List AOper :=
  [AOper.mk (some 22) (.mv (.tmp 4)) none [], AOper.mk (some 23) (.call 51 [.tmp 22]) none [0], AOper.mk (some 24) (.un .not (.tmp 23)) none [1]]
def l16r7 : List AOper :=
  [AOper.mk (some 2) (.mv (.const (.bool false))) none []]
def l16r8 : List AOper :=
  [AOper.mk (some 25) (.bin .add (.tmp 18) (.const (.int .i64 1))) none [], AOper.mk (some 18) (.mv (.tmp 25)) none [0]]
def l16r9 : List AOper :=
  [AOper.mk (some 2) (.mv (.const (.bool true))) none []]
def l16 : AFn :=
  (AFn.mk 26 1 (ACode.seq (ACode.reg l16r0) (ACode.seq (ACode.seq (ACode.reg l16r1) (ACode.cond (.tmp 14) (ACode.seq (ACode.reg l16r2) ACode.ret) ACode.skip)) (ACode.seq (ACode.seq (ACode.reg l16r3) (ACode.block 0 (ACode.loop (ACode.seq (ACode.reg l16r4) (ACode.seq (ACode.cond (.tmp 19) ACode.skip (ACode.exit 0)) (ACode.seq (ACode.block 1 (ACode.seq (ACode.reg l16r5) (ACode.seq (ACode.reg l16r6) (ACode.cond (.tmp 24) (ACode.seq (ACode.reg l16r7) ACode.ret) ACode.skip)))) (ACode.reg l16r8))))))) (ACode.seq (ACode.reg l16r9) ACode.ret)))) [ARes.tmp 2])
theorem l16_eq : lowFn Tryd.prog 16 = some l16 := by kernel_rfl
def l17r0 : List AOper :=
  [AOper.mk (some 2) (.box (.tmp 0)) none [], AOper.mk (some 3) (.box (.tmp 1)) none [], AOper.mk (some 4) (.mv (.const (.bool false))) none []]
def l17r1 : List AOper :=
  [AOper.mk (some 5) (.fld 0 (.tmp 2)) none [], AOper.mk (some 6) (.load false 1 (.tmp 5)) none [0], AOper.mk (some 7) (.fld 0 (.tmp 3)) none [], AOper.mk (some 8) (.load false 1 (.tmp 7)) none [2], AOper.mk (some 9) (.call 20 [.tmp 6, .tmp 8]) none [1, 3], AOper.mk (some 10) (.un .not (.tmp 9)) none [4]]
def l17r2 : List AOper :=
  [AOper.mk (some 4) (.mv (.const (.bool false))) none []]
def l17r3 : List AOper :=
  [AOper.mk (some 11) (.fld 1 (.tmp 2)) none [], AOper.mk (some 12) (.load false 1 (.tmp 11)) none [0], AOper.mk (some 13) (.fld 1 (.tmp 3)) none [], AOper.mk (some 14) (.load false 1 (.tmp 13)) none [2], AOper.mk (some 15) (.binB .neq (.tmp 12) (.tmp 14)) none [1, 3]]
def l17r4 : List AOper :=
  [AOper.mk (some 4) (.mv (.const (.bool false))) none []]
def l17r5 : List AOper :=
  [AOper.mk (some 16) (.fld 2 (.tmp 2)) none [], AOper.mk (some 17) (.load false 1 (.tmp 16)) none [0], AOper.mk (some 18) (.fld 2 (.tmp 3)) none [], AOper.mk (some 19) (.load false 1 (.tmp 18)) none [2], AOper.mk (some 20) (.binB .neq (.tmp 17) (.tmp 19)) none [1, 3]]
def l17r6 : List AOper :=
  [AOper.mk (some 4) (.mv (.const (.bool false))) none []]
def l17r7 : List AOper :=
  [AOper.mk (some 4) (.mv (.const (.bool true))) none []]
def l17 : AFn :=
  (AFn.mk 21 2 (ACode.seq (ACode.reg l17r0) (ACode.seq (ACode.seq (ACode.reg l17r1) (ACode.cond (.tmp 10) (ACode.seq (ACode.reg l17r2) ACode.ret) ACode.skip)) (ACode.seq (ACode.seq (ACode.reg l17r3) (ACode.cond (.tmp 15) (ACode.seq (ACode.reg l17r4) ACode.ret) ACode.skip)) (ACode.seq (ACode.seq (ACode.reg l17r5) (ACode.cond (.tmp 20) (ACode.seq (ACode.reg l17r6) ACode.ret) ACode.skip)) (ACode.seq (ACode.reg l17r7) ACode.ret))))) [ARes.tmp 4])
theorem l17_eq : lowFn Tryd.prog 17 = some l17 := by kernel_rfl
def l18r0 : List AOper :=
  [AOper.mk (some 1) (.box (.tmp 0)) none [], AOper.mk (some 2) (.mv (.const (.slice none 0 0))) none []]
def l18r1 : List AOper :=
  [AOper.mk (some 5) (.load true 3 (.tmp 1)) none [], AOper.mk (some 6) (.call 50 [.tmp 5]) none [0], AOper.mk (some 7) (.un .not (.tmp 6)) none [1]]
def l18r2 : List AOper :=
  [AOper.mk (some 2) (.mv (.const (.slice none 0 0))) none []]
def l18r3 : List AOper :=
  [AOper.mk (some 9) (.load true 3 (.tmp 1)) none [], AOper.mk (some 10) (.call 52 [.tmp 9]) none [0], AOper.mk (some 8) (.mv (.tmp 10)) none [1], AOper.mk (some 11) (.extract (.tmp 8) 0) none [2], AOper.mk (some 12) (.extract (.tmp 8) 1) none [2], AOper.mk (some 3) (.mv (.tmp 11)) none [3, 1, 0, 1, 2, 3], AOper.mk (some 4) (.mv (.tmp 12)) none [4, 5, 0, 1, 2, 3, 4, 5]]
def l18r4 : List AOper :=
  [AOper.mk (some 13) (.mv (.tmp 3)) none [], AOper.mk (some 2) (.mv (.tmp 13)) none [0, 0]]
def l18 : AFn :=
  (AFn.mk 14 1 (ACode.seq (ACode.reg l18r0) (ACode.seq (ACode.seq (ACode.reg l18r1) (ACode.cond (.tmp 7) (ACode.seq (ACode.reg l18r2) ACode.ret) ACode.skip)) (ACode.seq (ACode.reg l18r3) (ACode.seq (ACode.reg l18r4) ACode.ret)))) [ARes.tmp 2])
theorem l18_eq : lowFn Tryd.prog 18 = some l18 := by kernel_rfl
def l19r0 : List AOper :=
  [AOper.mk (some 1) (.box (.tmp 0)) none [], AOper.mk (some 2) (.mv (.const (.slice none 0 0))) none []]
def l19r1 : List AOper :=
  [AOper.mk (some 6) (.load true 3 (.tmp 1)) none [], AOper.mk (some 7) (.call 16 [.tmp 6]) none [0], AOper.mk (some 8) (.un .not (.tmp 7)) none [1]]
def l19r2 : List AOper :=
  [AOper.mk (some 2) (.mv (.const (.slice none 0 0))) none []]
def l19r3 : List AOper :=
  [AOper.mk (some 3) (.mv (.const (.slice none 0 0))) none []]
def l19r4 : List AOper :=
  [AOper.mk (some 9) (.load true 3 (.tmp 1)) none [], AOper.mk (some 10) (.call 53 [.tmp 9]) none [0], AOper.mk (some 11) (.len (.tmp 10)) none [1], AOper.mk (some 12) (.mv (.const (.int .i64 0))) none []]
def l19r5 : List AOper :=
  [AOper.mk (some 13) (.bin .lss (.tmp 12) (.tmp 11)) none []]
def l19r6 : List AOper :=
  [AOper.mk (some 14) (.idxA 2 (.tmp 10) (.tmp 12)) none [], AOper.mk (some 15) (.load true 2 (.tmp 14)) none [0], AOper.mk (some 5) (.alloc [.int .i64 0, .int .i64 0]) none [], AOper.mk none (.store 2 (.tmp 5) (.tmp 15)) none [2, 1, 0, 1, 2]]
def l19r7 : List AOper :=
  [AOper.mk (some 16) (.mv (.tmp 3)) none [], AOper.mk (some 17) (.fld 0 (.tmp 5)) none [], AOper.mk (some 18) (.load false 1 (.tmp 17)) none [1], AOper.mk (some 19) (.bslice 1 [.int .i64 0] [(0, .tmp 18)] 1) none [2], AOper.mk (some 20) (.append 1 (.tmp 16) (.tmp 19)) none [0, 3], AOper.mk (some 3) (.mv (.tmp 20)) none [4, 4, 0, 1, 2, 3, 4]]
def l19r8 : List AOper :=
  [AOper.mk (some 21) (.bin .add (.tmp 12) (.const (.int .i64 1))) none [], AOper.mk (some 12) (.mv (.tmp 21)) none [0]]
def l19r9 : List AOper :=
  [AOper.mk (some 22) (.mv (.tmp 3)) none [], AOper.mk (some 2) (.mv (.tmp 22)) none [0, 0]]
def l19 : AFn :=
  (AFn.mk 23 1 (ACode.seq (ACode.reg l19r0) (ACode.seq (ACode.seq (ACode.reg l19r1) (ACode.cond (.tmp 8) (ACode.seq (ACode.reg l19r2) ACode.ret) ACode.skip)) (ACode.seq (ACode.reg l19r3) (ACode.seq (ACode.seq (ACode.reg l19r4) (ACode.block 0 (ACode.loop (ACode.seq (ACode.reg l19r5) (ACode.seq (ACode.cond (.tmp 13) ACode.skip (ACode.exit 0)) (ACode.seq (ACode.block 1 (ACode.seq (ACode.reg l19r6) (ACode.reg l19r7))) (ACode.reg l19r8))))))) (ACode.seq (ACode.reg l19r9) ACode.ret))))) [ARes.tmp 2])
theorem l19_eq : lowFn Tryd.prog 19 = some l19 := by kernel_rfl
def l20r0 : List AOper :=
  [AOper.mk (some 4) (.mv (.const (.bool false))) none []]
def l20r1 : List AOper :=
  [AOper.mk (some 6) (.mv (.tmp 0)) none [], AOper.mk (some 7) (.len (.tmp 6)) none [0], AOper.mk (some 8) (.mv (.tmp 1)) none [], AOper.mk (some 9) (.len (.tmp 8)) none [2], AOper.mk (some 10) (.bin .neq (.tmp 7) (.tmp 9)) none [1, 3]]
def l20r2 : List AOper :=
  [AOper.mk (some 4) (.mv (.const (.bool false))) none []]
def l20r3 : List AOper :=
  [AOper.mk (some 5) (.mv (.const (.int .i64 0))) none []]
def l20r4 : List AOper :=
  [AOper.mk (some 11) (.mv (.tmp 5)) none [], AOper.mk (some 12) (.mv (.tmp 0)) none [], AOper.mk (some 13) (.len (.tmp 12)) none [1], AOper.mk (some 14) (.bin .lss (.tmp 11) (.tmp 13)) none [0, 2]]
def l20r5a : List AOper :=
  [AOper.mk (some 17) (.mv (.tmp 0)) none [], AOper.mk (some 18) (.mv (.tmp 5)) none [], AOper.mk (some 19) (.idxA 1 (.tmp 17) (.tmp 18)) none [0, 1], AOper.mk (some 20) (.load false 1 (.tmp 19)) none [2], AOper.mk (some 21) (.mv (.tmp 1)) none [], AOper.mk (some 22) (.mv (.tmp 5)) none [], AOper.mk (some 23) (.idxA 1 (.tmp 21) (.tmp 22)) none [4, 5], AOper.mk (some 24) (.load false 1 (.tmp 23)) none [6]]
def l20r5b : List AOper :=
  [AOper.mk (some 25) (.bin .neq (.tmp 20) (.tmp 24)) none [3, 7]]
def l20r5 : List AOper := l20r5a ++ l20r5b
def l20r6 : List AOper :=
  [AOper.mk (some 4) (.mv (.const (.bool false))) none []]
def l20r7 : List AOper :=
  [AOper.mk (some 15) (.mv (.tmp 5)) none [], AOper.mk (some 16) (.bin .add (.tmp 15) (.const (.int .i64 1))) none [0], AOper.mk (some 5) (.mv (.tmp 16)) none [1, 0, 1]]
def l20r8 : List AOper :=
  [AOper.mk (some 4) (.mv (.const (.bool true))) none []]
def l20 : AFn :=
  (AFn.mk 26 2 (ACode.seq (ACode.reg l20r0) (ACode.seq (ACode.seq (ACode.reg l20r1) (ACode.cond (.tmp 10) (ACode.seq (ACode.reg l20r2) ACode.ret) ACode.skip)) (ACode.seq (ACode.seq (ACode.reg l20r3) (ACode.block 0 (ACode.loop (ACode.seq (ACode.seq (ACode.reg l20r4) (ACode.cond (.tmp 14) ACode.skip (ACode.exit 0))) (ACode.seq (ACode.block 1 (ACode.seq (ACode.draw l20r5) (ACode.cond (.tmp 25) (ACode.seq (ACode.reg l20r6) ACode.ret) ACode.skip))) (ACode.reg l20r7)))))) (ACode.seq (ACode.reg l20r8) ACode.ret)))) [ARes.tmp 4])
theorem l20_eq : lowFn Tryd.prog 20 = some l20 := by kernel_rfl
def l21r0 : List AOper :=
  [AOper.mk (some 2) (.box (.tmp 0)) none [], AOper.mk (some 4) (.mv (.const (.int .i64 0))) none []]
def l21r1 : List AOper :=
  [AOper.mk (some 5) (.fld 0 (.tmp 2)) none [], AOper.mk (some 6) (.load false 1 (.tmp 5)) none [0], AOper.mk (some 7) (.mv (.tmp 1)) none [], AOper.mk (some 8) (.call 22 [.tmp 6, .tmp 7]) none [1, 2], AOper.mk (some 1) (.mv (.tmp 8)) none [3, 3, 0, 1, 2, 3]]
def l21r2 : List AOper :=
  [AOper.mk (some 9) (.mv (.tmp 1)) none [], AOper.mk (some 4) (.mv (.tmp 9)) none [0, 0]]
def l21 : AFn :=
  (AFn.mk 10 2 (ACode.seq (ACode.reg l21r0) (ACode.seq (ACode.reg l21r1) (ACode.seq (ACode.reg l21r2) ACode.ret))) [ARes.tmp 4])
theorem l21_eq : lowFn Tryd.prog 21 = some l21 := by kernel_rfl
def l22r0 : List AOper :=
  [AOper.mk (some 4) (.mv (.const (.int .i64 0))) none []]
def l22r1 : List AOper :=
  [AOper.mk (some 5) (.mv (.const (.int .i64 0))) none []]
def l22r2 : List AOper :=
  [AOper.mk (some 6) (.mv (.tmp 5)) none [], AOper.mk (some 7) (.mv (.tmp 0)) none [], AOper.mk (some 8) (.len (.tmp 7)) none [1], AOper.mk (some 9) (.bin .lss (.tmp 6) (.tmp 8)) none [0, 2]]
def l22r3 : List AOper :=
  [AOper.mk (some 12) (.mv (.tmp 0)) none [], AOper.mk (some 13) (.mv (.tmp 5)) none [], AOper.mk (some 14) (.mv (.tmp 1)) none [], AOper.mk (some 15) (.idxA 1 (.tmp 12) (.tmp 13)) none [0, 1, 0, 1, 2], AOper.mk none (.store 1 (.tmp 15) (.tmp 14)) none [3, 2, 0, 1, 2]]
def l22r4 : List AOper :=
  [AOper.mk (some 16) (.mv (.tmp 1)) none [], AOper.mk (some 17) (.bin .add (.tmp 16) (.const (.int .i64 1))) none [0], AOper.mk (some 1) (.mv (.tmp 17)) none [1, 0, 1]]
def l22r5 : List AOper :=
  [AOper.mk (some 10) (.mv (.tmp 5)) none [], AOper.mk (some 11) (.bin .add (.tmp 10) (.const (.int .i64 1))) none [0], AOper.mk (some 5) (.mv (.tmp 11)) none [1, 0, 1]]
def l22r6 : List AOper :=
  [AOper.mk (some 18) (.mv (.tmp 1)) none [], AOper.mk (some 4) (.mv (.tmp 18)) none [0, 0]]
def l22 : AFn :=
  (AFn.mk 19 2 (ACode.seq (ACode.reg l22r0) (ACode.seq (ACode.seq (ACode.reg l22r1) (ACode.block 0 (ACode.loop (ACode.seq (ACode.seq (ACode.reg l22r2) (ACode.cond (.tmp 9) ACode.skip (ACode.exit 0))) (ACode.seq (ACode.block 1 (ACode.seq (ACode.reg l22r3) (ACode.reg l22r4))) (ACode.reg l22r5)))))) (ACode.seq (ACode.reg l22r6) ACode.ret))) [ARes.tmp 4])
theorem l22_eq : lowFn Tryd.prog 22 = some l22 := by kernel_rfl
def l23r0 : List AOper :=
  [AOper.mk (some 4) (.mv (.const (.int .i64 0))) none []]
def l23r1 : List AOper :=
  [AOper.mk (some 5) (.mv (.const (.int .i64 0))) none []]
def l23r2 : List AOper :=
  [AOper.mk (some 6) (.mv (.tmp 5)) none [], AOper.mk (some 7) (.mv (.tmp 0)) none [], AOper.mk (some 8) (.len (.tmp 7)) none [1], AOper.mk (some 9) (.bin .lss (.tmp 6) (.tmp 8)) none [0, 2]]
def l23r3 : List AOper :=
  [AOper.mk (some 12) (.mv (.tmp 0)) none [], AOper.mk (some 13) (.mv (.tmp 5)) none [], AOper.mk (some 14) (.idxA 1 (.tmp 12) (.tmp 13)) none [0, 1], AOper.mk (some 15) (.load false 1 (.tmp 14)) none [2], AOper.mk (some 16) (.mv (.tmp 1)) none [], AOper.mk (some 17) (.bin .neq (.tmp 15) (.tmp 16)) none [3, 4]]
def l23r4 : List AOper :=
  [AOper.mk (some 4) (.mv (.const (.int .i64 (-1)))) none []]
def l23r5 : List AOper :=
  [AOper.mk (some 18) (.mv (.tmp 1)) none [], AOper.mk (some 19) (.bin .add (.tmp 18) (.const (.int .i64 1))) none [0], AOper.mk (some 1) (.mv (.tmp 19)) none [1, 0, 1]]
def l23r6 : List AOper :=
  [AOper.mk (some 10) (.mv (.tmp 5)) none [], AOper.mk (some 11) (.bin .add (.tmp 10) (.const (.int .i64 1))) none [0], AOper.mk (some 5) (.mv (.tmp 11)) none [1, 0, 1]]
def l23r7 : List AOper :=
  [AOper.mk (some 20) (.mv (.tmp 1)) none [], AOper.mk (some 4) (.mv (.tmp 20)) none [0, 0]]
def l23 : AFn :=
  (AFn.mk 21 2 (ACode.seq (ACode.reg l23r0) (ACode.seq (ACode.seq (ACode.reg l23r1) (ACode.block 0 (ACode.loop (ACode.seq (ACode.seq (ACode.reg l23r2) (ACode.cond (.tmp 9) ACode.skip (ACode.exit 0))) (ACode.seq (ACode.block 1 (ACode.seq (ACode.seq (ACode.reg l23r3) (ACode.cond (.tmp 17) (ACode.seq (ACode.reg l23r4) ACode.ret) ACode.skip)) (ACode.reg l23r5))) (ACode.reg l23r6)))))) (ACode.seq (ACode.reg l23r7) ACode.ret))) [ARes.tmp 4])
theorem l23_eq : lowFn Tryd.prog 23 = some l23 := by kernel_rfl
def l24r0 : List AOper :=
  [AOper.mk (some 1) (.box (.tmp 0)) none [], AOper.mk (some 2) (.mv (.const (.int .i64 0))) none []]
def l24r1 : List AOper :=
  [AOper.mk (some 5) (.load true 3 (.tmp 1)) none [], AOper.mk (some 6) (.call 50 [.tmp 5]) none [0], AOper.mk (some 7) (.un .not (.tmp 6)) none [1]]
def l24r2 : List AOper :=
  [AOper.mk (some 2) (.mv (.const (.int .i64 (-1)))) none []]
def l24r3 : List AOper :=
  [AOper.mk (some 9) (.load true 3 (.tmp 1)) none [], AOper.mk (some 10) (.call 52 [.tmp 9]) none [0], AOper.mk (some 8) (.mv (.tmp 10)) none [1], AOper.mk (some 11) (.extract (.tmp 8) 0) none [2], AOper.mk (some 12) (.extract (.tmp 8) 1) none [2], AOper.mk (some 3) (.mv (.tmp 11)) none [3, 1, 0, 1, 2, 3], AOper.mk (some 4) (.mv (.tmp 12)) none [4, 5, 0, 1, 2, 3, 4, 5]]
def l24r4 : List AOper :=
  [AOper.mk (some 13) (.mv (.tmp 4)) none [], AOper.mk (some 2) (.mv (.tmp 13)) none [0, 0]]
def l24 : AFn :=
  (AFn.mk 14 1 (ACode.seq (ACode.reg l24r0) (ACode.seq (ACode.seq (ACode.reg l24r1) (ACode.cond (.tmp 7) (ACode.seq (ACode.reg l24r2) ACode.ret) ACode.skip)) (ACode.seq (ACode.reg l24r3) (ACode.seq (ACode.reg l24r4) ACode.ret)))) [ARes.tmp 2])
theorem l24_eq : lowFn Tryd.prog 24 = some l24 := by kernel_rfl
def l25r0 : List AOper :=
  [AOper.mk (some 1) (.box (.tmp 0)) none [], AOper.mk (some 2) (.mv (.const (.int .i64 0))) none []]
def l25r1 : List AOper :=
  [AOper.mk (some 3) (.load true 3 (.tmp 1)) none [], AOper.mk (some 4) (.call 16 [.tmp 3]) none [0], AOper.mk (some 5) (.un .not (.tmp 4)) none [1]]
def l25r2 : List AOper :=
  [AOper.mk (some 2) (.mv (.const (.int .i64 (-1)))) none []]
def l25r3 : List AOper :=
  [AOper.mk (some 6) (.load true 3 (.tmp 1)) none [], AOper.mk (some 7) (.call 54 [.tmp 6]) none [0], AOper.mk (some 2) (.mv (.tmp 7)) none [1, 1, 0, 1]]
def l25 : AFn :=
  (AFn.mk 8 1 (ACode.seq (ACode.reg l25r0) (ACode.seq (ACode.seq (ACode.reg l25r1) (ACode.cond (.tmp 5) (ACode.seq (ACode.reg l25r2) ACode.ret) ACode.skip)) (ACode.seq (ACode.reg l25r3) ACode.ret))) [ARes.tmp 2])
theorem l25_eq : lowFn Tryd.prog 25 = some l25 := by kernel_rfl
def l26r0 : List AOper :=
  [AOper.mk (some 1) (.box (.tmp 0)) none [], AOper.mk (some 2) (.mv (.const (.slice none 0 0))) none []]
def l26r1 : List AOper :=
  [AOper.mk (some 9) (.load true 3 (.tmp 1)) none [], AOper.mk (some 10) (.call 50 [.tmp 9]) none [0], AOper.mk (some 11) (.un .not (.tmp 10)) none [1]]
def l26r2 : List AOper :=
  [AOper.mk (some 2) (.mv (.const (.slice none 0 0))) none []]
def l26r3 : List AOper :=
  [AOper.mk (some 13) (.load true 3 (.tmp 1)) none [], AOper.mk (some 14) (.call 52 [.tmp 13]) none [0], AOper.mk (some 12) (.mv (.tmp 14)) none [1], AOper.mk (some 15) (.extract (.tmp 12) 0) none [2], AOper.mk (some 16) (.extract (.tmp 12) 1) none [2], AOper.mk (some 3) (.mv (.tmp 15)) none [3, 1, 0, 1, 2, 3], AOper.mk (some 4) (.mv (.tmp 16)) none [4, 5, 0, 1, 2, 3, 4, 5]]
def l26r4 : List AOper :=
  [AOper.mk (some 17) (.bslice 1 [.int .i64 0] [] 0) none [], AOper.mk (some 5) (.mv (.tmp 17)) none [0, 0]]
def l26r5 : List AOper :=
  [AOper.mk (some 6) (.mv (.const (.int .i64 0))) none []]
def l26r6 : List AOper :=
  [AOper.mk (some 18) (.mv (.tmp 6)) none [], AOper.mk (some 19) (.mv (.tmp 4)) none [], AOper.mk (some 20) (.bin .lss (.tmp 18) (.tmp 19)) none [0, 1]]
def l26r7 : List AOper :=
  [AOper.mk (some 7) (.mv (.const (.bool false))) none []]
def l26r8 : List AOper :=
  [AOper.mk (some 8) (.mv (.const (.int .i64 0))) none []]
def l26r9 : List AOper :=
  [AOper.mk (some 23) (.mv (.tmp 8)) none [], AOper.mk (some 24) (.mv (.tmp 3)) none [], AOper.mk (some 25) (.len (.tmp 24)) none [1], AOper.mk (some 26) (.bin .lss (.tmp 23) (.tmp 25)) none [0, 2]]
def l26r10a : List AOper :=
  [AOper.mk (some 29) (.mv (.tmp 7)) none [], AOper.mk (some 30) (.mv (.tmp 29)) none [0], AOper.mk (some 31) (.mv (.tmp 6)) (some (30, false)) [1], AOper.mk (some 32) (.mv (.tmp 3)) (some (30, false)) [1], AOper.mk (some 33) (.mv (.tmp 8)) (some (30, false)) [1], AOper.mk (some 34) (.idxA 1 (.tmp 32) (.tmp 33)) (some (30, false)) [3, 4, 1], AOper.mk (some 35) (.load false 1 (.tmp 34)) (some (30, false)) [5, 1], AOper.mk (some 36) (.mv (.tmp 3)) (some (30, false)) [1], AOper.mk (some 37) (.mv (.tmp 8)) (some (30, false)) [1], AOper.mk (some 38) (.idxA 1 (.tmp 36) (.tmp 37)) (some (30, false)) [7, 8, 1], AOper.mk (some 39) (.load false 1 (.tmp 38)) (some (30, false)) [9, 1], AOper.mk (some 40) (.fld 0 (.tmp 1)) (some (30, false)) [1], AOper.mk (some 41) (.load false 1 (.tmp 40)) (some (30, false)) [11, 1], AOper.mk (some 42) (.mv (.tmp 8)) (some (30, false)) [1], AOper.mk (some 43) (.idxA 1 (.tmp 41) (.tmp 42)) (some (30, false)) [12, 13, 1], AOper.mk (some 44) (.load false 1 (.tmp 43)) (some (30, false)) [14, 1], AOper.mk (some 45) (.bin .add (.tmp 39) (.tmp 44)) (some (30, false)) [10, 15, 1], AOper.mk (some 46) (.bin .sub (.tmp 45) (.const (.int .i64 1))) (some (30, false)) [16, 1]]
def l26r10b : List AOper :=
  [AOper.mk (some 47) (.call 55 [.tmp 31, .tmp 35, .tmp 46]) (some (30, false)) [2, 6, 17, 1, 1], AOper.mk (some 48) (.pick (.tmp 30) (.const (.bool true)) (.tmp 47)) none [1, 18], AOper.mk (some 7) (.mv (.tmp 48)) none [19, 18, 0, 1, 2, 3, 4, 5, 6, 7, 8, 9, 10, 11, 12, 13, 14, 15, 16, 17, 18, 19]]
def l26r10 : List AOper := l26r10a ++ l26r10b
def l26r11 : List AOper :=
  [AOper.mk (some 27) (.mv (.tmp 8)) none [], AOper.mk (some 28) (.bin .add (.tmp 27) (.const (.int .i64 1))) none [0], AOper.mk (some 8) (.mv (.tmp 28)) none [1, 0, 1]]
def l26r12 : List AOper :=
  [AOper.mk (some 49) (.mv (.tmp 7)) none [], AOper.mk (some 50) (.un .not (.tmp 49)) none [0]]
def l26r13 : List AOper :=
  [AOper.mk (some 51) (.mv (.tmp 5)) none [], AOper.mk (some 52) (.mv (.tmp 6)) none [], AOper.mk (some 53) (.bslice 1 [.int .i64 0] [(0, .tmp 52)] 1) none [1], AOper.mk (some 54) (.append 1 (.tmp 51) (.tmp 53)) none [0, 2], AOper.mk (some 5) (.mv (.tmp 54)) none [3, 3, 0, 1, 2, 3]]
def l26r14 : List AOper :=
  [AOper.mk (some 21) (.mv (.tmp 6)) none [], AOper.mk (some 22) (.bin .add (.tmp 21) (.const (.int .i64 1))) none [0], AOper.mk (some 6) (.mv (.tmp 22)) none [1, 0, 1]]
def l26r15 : List AOper :=
  [AOper.mk (some 55) (.mv (.tmp 5)) none [], AOper.mk (some 2) (.mv (.tmp 55)) none [0, 0]]
def l26 : AFn :=
  (AFn.mk 56 1 (ACode.seq (ACode.reg l26r0) (ACode.seq (ACode.seq (ACode.reg l26r1) (ACode.cond (.tmp 11) (ACode.seq (ACode.reg l26r2) ACode.ret) ACode.skip)) (ACode.seq (ACode.reg l26r3) (ACode.seq (ACode.reg l26r4) (ACode.seq (ACode.seq (ACode.reg l26r5) (ACode.block 0 (ACode.loop (ACode.seq (ACode.seq (ACode.reg l26r6) (ACode.cond (.tmp 20) ACode.skip (ACode.exit 0))) (ACode.seq (ACode.block 1 (ACode.seq (ACode.reg l26r7) (ACode.seq (ACode.seq (ACode.reg l26r8) (ACode.block 2 (ACode.loop (ACode.seq (ACode.seq (ACode.reg l26r9) (ACode.cond (.tmp 26) ACode.skip (ACode.exit 2))) (ACode.seq (ACode.block 3 (ACode.draw l26r10)) (ACode.reg l26r11)))))) (ACode.seq (ACode.reg l26r12) (ACode.cond (.tmp 50) (ACode.reg l26r13) ACode.skip))))) (ACode.reg l26r14)))))) (ACode.seq (ACode.reg l26r15) ACode.ret)))))) [ARes.tmp 2])
theorem l26_eq : lowFn Tryd.prog 26 = some l26 := by kernel_rfl
def l27r0 : List AOper :=
  [AOper.mk (some 1) (.box (.tmp 0)) none [], AOper.mk (some 2) (.mv (.const (.slice none 0 0))) none []]
def l27r1 : List AOper :=
  [AOper.mk (some 7) (.load true 3 (.tmp 1)) none [], AOper.mk (some 8) (.call 16 [.tmp 7]) none [0], AOper.mk (some 9) (.un .not (.tmp 8)) none [1]]
def l27r2 : List AOper :=
  [AOper.mk (some 2) (.mv (.const (.slice none 0 0))) none []]
def l27r3 : List AOper :=
  [AOper.mk (some 3) (.mv (.const (.slice none 0 0))) none []]
def l27r4 : List AOper :=
  [AOper.mk (some 4) (.mv (.const (.int .i64 0))) none []]
def l27r5 : List AOper :=
  [AOper.mk (some 10) (.load true 3 (.tmp 1)) none [], AOper.mk (some 11) (.call 53 [.tmp 10]) none [0], AOper.mk (some 12) (.len (.tmp 11)) none [1], AOper.mk (some 13) (.mv (.const (.int .i64 0))) none []]
def l27r6 : List AOper :=
  [AOper.mk (some 14) (.bin .lss (.tmp 13) (.tmp 12)) none []]
def l27r7 : List AOper :=
  [AOper.mk (some 15) (.idxA 2 (.tmp 11) (.tmp 13)) none [], AOper.mk (some 16) (.load true 2 (.tmp 15)) none [0], AOper.mk (some 6) (.alloc [.int .i64 0, .int .i64 0]) none [], AOper.mk none (.store 2 (.tmp 6) (.tmp 16)) none [2, 1, 0, 1, 2]]
def l27r8 : List AOper :=
  [AOper.mk (some 17) (.mv (.tmp 3)) none [], AOper.mk (some 18) (.mv (.tmp 4)) none [], AOper.mk (some 19) (.fld 0 (.tmp 6)) none [], AOper.mk (some 20) (.load false 1 (.tmp 19)) none [2], AOper.mk (some 21) (.build [.int .i64 0, .int .i64 0, .int .i64 0] [(0, 1, .tmp 18), (1, 1, .tmp 20), (2, 1, .const (.int .i64 1))]) none [1, 3], AOper.mk (some 22) (.call 56 [.tmp 21]) none [4], AOper.mk (some 23) (.append 1 (.tmp 17) (.tmp 22)) none [0, 5, 5], AOper.mk (some 3) (.mv (.tmp 23)) none [6, 6, 0, 1, 2, 3, 4, 5, 6]]
def l27r9 : List AOper :=
  [AOper.mk (some 24) (.load true 2 (.tmp 6)) none [], AOper.mk (some 25) (.call 57 [.tmp 24]) none [0], AOper.mk (some 4) (.mv (.tmp 25)) none [1, 1, 0, 1]]
def l27r10 : List AOper :=
  [AOper.mk (some 26) (.bin .add (.tmp 13) (.const (.int .i64 1))) none [], AOper.mk (some 13) (.mv (.tmp 26)) none [0]]
def l27r11 : List AOper :=
  [AOper.mk (some 27) (.mv (.tmp 3)) none [], AOper.mk (some 28) (.mv (.tmp 4)) none [], AOper.mk (some 29) (.load true 3 (.tmp 1)) none [], AOper.mk (some 30) (.call 54 [.tmp 29]) none [2], AOper.mk (some 31) (.build [.int .i64 0, .int .i64 0, .int .i64 0] [(0, 1, .tmp 28), (1, 1, .tmp 30), (2, 1, .const (.int .i64 1))]) none [1, 3], AOper.mk (some 32) (.call 56 [.tmp 31]) none [4, 3], AOper.mk (some 33) (.append 1 (.tmp 27) (.tmp 32)) none [0, 5, 5], AOper.mk (some 2) (.mv (.tmp 33)) none [6, 6, 0, 1, 2, 3, 4, 5, 6]]
def l27 : AFn :=
  (AFn.mk 34 1 (ACode.seq (ACode.reg l27r0) (ACode.seq (ACode.seq (ACode.reg l27r1) (ACode.cond (.tmp 9) (ACode.seq (ACode.reg l27r2) ACode.ret) ACode.skip)) (ACode.seq (ACode.reg l27r3) (ACode.seq (ACode.reg l27r4) (ACode.seq (ACode.seq (ACode.reg l27r5) (ACode.block 0 (ACode.loop (ACode.seq (ACode.reg l27r6) (ACode.seq (ACode.cond (.tmp 14) ACode.skip (ACode.exit 0)) (ACode.seq (ACode.block 1 (ACode.seq (ACode.reg l27r7) (ACode.seq (ACode.reg l27r8) (ACode.reg l27r9)))) (ACode.reg l27r10))))))) (ACode.seq (ACode.reg l27r11) ACode.ret)))))) [ARes.tmp 2])
theorem l27_eq : lowFn Tryd.prog 27 = some l27 := by kernel_rfl
def l28r0 : List AOper :=
  [AOper.mk (some 2) (.box (.tmp 0)) none [], AOper.mk (some 4) (.mv (.const (.slice none 0 0))) none []]
def l28r1 : List AOper :=
  [AOper.mk (some 5) (.load true 3 (.tmp 2)) none [], AOper.mk (some 6) (.call 50 [.tmp 5]) none [0], AOper.mk (some 7) (.un .not (.tmp 6)) none [1], AOper.mk (some 8) (.mv (.tmp 7)) none [2, 1], AOper.mk (some 9) (.load true 3 (.tmp 2)) (some (8, false)) [3], AOper.mk (some 10) (.mv (.tmp 1)) (some (8, false)) [3], AOper.mk (some 11) (.call 58 [.tmp 9, .tmp 10]) (some (8, false)) [4, 5, 3, 3], AOper.mk (some 12) (.un .not (.tmp 11)) (some (8, false)) [6, 3], AOper.mk (some 13) (.pick (.tmp 8) (.const (.bool true)) (.tmp 12)) none [3, 7]]
def l28r2 : List AOper :=
  [AOper.mk (some 4) (.mv (.const (.slice none 0 0))) none []]
def l28r3 : List AOper :=
  [AOper.mk (some 14) (.load true 3 (.tmp 2)) none [], AOper.mk (some 15) (.mv (.tmp 1)) none [], AOper.mk (some 16) (.call 59 [.tmp 14, .tmp 15]) none [0, 1], AOper.mk (some 4) (.mv (.tmp 16)) none [2, 2, 0, 1, 2]]
def l28 : AFn :=
  (AFn.mk 17 2 (ACode.seq (ACode.reg l28r0) (ACode.seq (ACode.seq (ACode.reg l28r1) (ACode.cond (.tmp 13) (ACode.seq (ACode.reg l28r2) ACode.ret) ACode.skip)) (ACode.seq (ACode.reg l28r3) ACode.ret))) [ARes.tmp 4])
theorem l28_eq : lowFn Tryd.prog 28 = some l28 := by kernel_rfl
def l29r0 : List AOper :=
  [AOper.mk (some 2) (.mv (.const (.slice none 0 0))) none []]
def l29r1 : List AOper :=
  [AOper.mk (some 5) (.mv (.tmp 0)) none [], AOper.mk (some 6) (.len (.tmp 5)) none [0], AOper.mk (some 7) (.mkslice 1 [.int .i64 0] (.tmp 6) (.tmp 6)) none [1, 1], AOper.mk (some 3) (.mv (.tmp 7)) none [2, 0, 1, 2]]
def l29r2 : List AOper :=
  [AOper.mk (some 4) (.mv (.const (.int .i64 0))) none []]
def l29r3 : List AOper :=
  [AOper.mk (some 8) (.mv (.tmp 4)) none [], AOper.mk (some 9) (.mv (.tmp 0)) none [], AOper.mk (some 10) (.len (.tmp 9)) none [1], AOper.mk (some 11) (.bin .lss (.tmp 8) (.tmp 10)) none [0, 2]]
def l29r4 : List AOper :=
  [AOper.mk (some 14) (.mv (.tmp 3)) none [], AOper.mk (some 15) (.mv (.tmp 4)) none [], AOper.mk (some 16) (.mv (.tmp 0)) none [], AOper.mk (some 17) (.mv (.tmp 4)) none [], AOper.mk (some 18) (.idxA 1 (.tmp 16) (.tmp 17)) none [2, 3], AOper.mk (some 19) (.load false 1 (.tmp 18)) none [4], AOper.mk (some 20) (.idxA 1 (.tmp 14) (.tmp 15)) none [0, 1, 0, 1, 2, 3, 4, 5], AOper.mk none (.store 1 (.tmp 20) (.tmp 19)) none [6, 5, 0, 1, 2, 3, 4, 5]]
def l29r5 : List AOper :=
  [AOper.mk (some 12) (.mv (.tmp 4)) none [], AOper.mk (some 13) (.bin .add (.tmp 12) (.const (.int .i64 1))) none [0], AOper.mk (some 4) (.mv (.tmp 13)) none [1, 0, 1]]
def l29r6 : List AOper :=
  [AOper.mk (some 21) (.mv (.tmp 3)) none [], AOper.mk (some 2) (.mv (.tmp 21)) none [0, 0]]
def l29 : AFn :=
  (AFn.mk 22 1 (ACode.seq (ACode.reg l29r0) (ACode.seq (ACode.reg l29r1) (ACode.seq (ACode.seq (ACode.reg l29r2) (ACode.block 0 (ACode.loop (ACode.seq (ACode.seq (ACode.reg l29r3) (ACode.cond (.tmp 11) ACode.skip (ACode.exit 0))) (ACode.seq (ACode.block 1 (ACode.reg l29r4)) (ACode.reg l29r5)))))) (ACode.seq (ACode.reg l29r6) ACode.ret)))) [ARes.tmp 2])
theorem l29_eq : lowFn Tryd.prog 29 = some l29 := by kernel_rfl
def l30r0 : List AOper :=
  [AOper.mk (some 2) (.box (.tmp 0)) none [], AOper.mk (some 4) (.mv (.const (.slice none 0 0))) none []]
def l30r1 : List AOper :=
  [AOper.mk (some 5) (.load true 3 (.tmp 2)) none [], AOper.mk (some 6) (.mv (.tmp 1)) none [], AOper.mk (some 7) (.call 60 [.tmp 5, .tmp 6]) none [0, 1], AOper.mk (some 8) (.un .not (.tmp 7)) none [2]]
def l30r2 : List AOper :=
  [AOper.mk (some 4) (.mv (.const (.slice none 0 0))) none []]
def l30r3 : List AOper :=
  [AOper.mk (some 9) (.load true 3 (.tmp 2)) none [], AOper.mk (some 10) (.mv (.tmp 1)) none [], AOper.mk (some 11) (.call 61 [.tmp 9, .tmp 10]) none [0, 1], AOper.mk (some 4) (.mv (.tmp 11)) none [2, 2, 0, 1, 2]]
def l30 : AFn :=
  (AFn.mk 12 2 (ACode.seq (ACode.reg l30r0) (ACode.seq (ACode.seq (ACode.reg l30r1) (ACode.cond (.tmp 8) (ACode.seq (ACode.reg l30r2) ACode.ret) ACode.skip)) (ACode.seq (ACode.reg l30r3) ACode.ret))) [ARes.tmp 4])
theorem l30_eq : lowFn Tryd.prog 30 = some l30 := by kernel_rfl
def l31r0 : List AOper :=
  [AOper.mk (some 2) (.box (.tmp 0)) none [], AOper.mk (some 4) (.mv (.const (.slice none 0 0))) none [], AOper.mk (some 5) (.mv (.const (.bool false))) none [1]]
def l31r1 : List AOper :=
  [AOper.mk (some 6) (.load true 3 (.tmp 2)) none [], AOper.mk (some 7) (.call 50 [.tmp 6]) none [0], AOper.mk (some 8) (.un .not (.tmp 7)) none [1], AOper.mk (some 9) (.mv (.tmp 8)) none [2, 1], AOper.mk (some 10) (.mv (.tmp 1)) (some (9, false)) [3], AOper.mk (some 11) (.len (.tmp 10)) (some (9, false)) [4, 3], AOper.mk (some 12) (.load true 3 (.tmp 2)) (some (9, false)) [3], AOper.mk (some 13) (.call 24 [.tmp 12]) (some (9, false)) [6, 3, 3], AOper.mk (some 14) (.bin .neq (.tmp 11) (.tmp 13)) (some (9, false)) [5, 7, 3], AOper.mk (some 15) (.pick (.tmp 9) (.const (.bool true)) (.tmp 14)) none [3, 8], AOper.mk (some 16) (.mv (.tmp 15)) none [9, 7], AOper.mk (some 17) (.mv (.tmp 1)) (some (16, false)) [10], AOper.mk (some 18) (.call 62 [.tmp 17, .const (.int .i64 0), .const (.int .i64 255)]) (some (16, false)) [11, 10, 10], AOper.mk (some 19) (.un .not (.tmp 18)) (some (16, false)) [12, 10], AOper.mk (some 20) (.pick (.tmp 16) (.const (.bool true)) (.tmp 19)) none [10, 13]]
def l31r2 : List AOper :=
  [AOper.mk (some 4) (.mv (.const (.slice none 0 0))) none [], AOper.mk (some 5) (.mv (.const (.bool false))) none [0, 0]]
def l31r3 : List AOper :=
  [AOper.mk (some 21) (.load true 3 (.tmp 2)) none [], AOper.mk (some 22) (.mv (.tmp 1)) none [], AOper.mk (some 23) (.call 63 [.tmp 21, .tmp 22]) none [0, 1], AOper.mk (some 4) (.mv (.tmp 23)) none [2, 2, 0, 1, 2], AOper.mk (some 5) (.mv (.const (.bool true))) none [3, 0, 1, 2, 3]]
def l31 : AFn :=
  (AFn.mk 24 2 (ACode.seq (ACode.reg l31r0) (ACode.seq (ACode.seq (ACode.reg l31r1) (ACode.cond (.tmp 20) (ACode.seq (ACode.reg l31r2) ACode.ret) ACode.skip)) (ACode.seq (ACode.reg l31r3) ACode.ret))) [ARes.tmp 4, ARes.tmp 5])
theorem l31_eq : lowFn Tryd.prog 31 = some l31 := by kernel_rfl
def l32r0 : List AOper :=
  [AOper.mk (some 2) (.box (.tmp 0)) none [], AOper.mk (some 4) (.mv (.const (.slice none 0 0))) none [], AOper.mk (some 5) (.mv (.const (.bool false))) none [1]]
def l32r1 : List AOper :=
  [AOper.mk (some 6) (.load true 3 (.tmp 2)) none [], AOper.mk (some 7) (.call 16 [.tmp 6]) none [0], AOper.mk (some 8) (.un .not (.tmp 7)) none [1], AOper.mk (some 9) (.mv (.tmp 8)) none [2, 1], AOper.mk (some 10) (.mv (.tmp 1)) (some (9, false)) [3], AOper.mk (some 11) (.len (.tmp 10)) (some (9, false)) [4, 3], AOper.mk (some 12) (.load true 3 (.tmp 2)) (some (9, false)) [3], AOper.mk (some 13) (.call 54 [.tmp 12]) (some (9, false)) [6, 3, 3], AOper.mk (some 14) (.bin .neq (.tmp 11) (.tmp 13)) (some (9, false)) [5, 7, 3], AOper.mk (some 15) (.pick (.tmp 9) (.const (.bool true)) (.tmp 14)) none [3, 8], AOper.mk (some 16) (.mv (.tmp 15)) none [9, 7], AOper.mk (some 17) (.mv (.tmp 1)) (some (16, false)) [10], AOper.mk (some 18) (.call 64 [.tmp 17]) (some (16, false)) [11, 10, 10], AOper.mk (some 19) (.un .not (.tmp 18)) (some (16, false)) [12, 10], AOper.mk (some 20) (.pick (.tmp 16) (.const (.bool true)) (.tmp 19)) none [10, 13]]
def l32r2 : List AOper :=
  [AOper.mk (some 4) (.mv (.const (.slice none 0 0))) none [], AOper.mk (some 5) (.mv (.const (.bool false))) none [0, 0]]
def l32r3 : List AOper :=
  [AOper.mk (some 21) (.load true 3 (.tmp 2)) none [], AOper.mk (some 22) (.mv (.tmp 1)) none [], AOper.mk (some 23) (.call 65 [.tmp 21, .tmp 22]) none [0, 1], AOper.mk (some 4) (.mv (.tmp 23)) none [2, 2, 0, 1, 2], AOper.mk (some 5) (.mv (.const (.bool true))) none [3, 0, 1, 2, 3]]
def l32 : AFn :=
  (AFn.mk 24 2 (ACode.seq (ACode.reg l32r0) (ACode.seq (ACode.seq (ACode.reg l32r1) (ACode.cond (.tmp 20) (ACode.seq (ACode.reg l32r2) ACode.ret) ACode.skip)) (ACode.seq (ACode.reg l32r3) ACode.ret))) [ARes.tmp 4, ARes.tmp 5])
theorem l32_eq : lowFn Tryd.prog 32 = some l32 := by kernel_rfl
def l49r0 : List AOper :=
  [AOper.mk (some 4) (.mv (.const (.int .i64 0))) none []]
def l49r1 : List AOper :=
  [AOper.mk (some 5) (.mv (.tmp 1)) none [], AOper.mk (some 6) (.mv (.tmp 0)) none [], AOper.mk (some 7) (.len (.tmp 6)) none [1], AOper.mk (some 8) (.bin .sub (.tmp 5) (.tmp 7)) none [0, 2], AOper.mk (some 1) (.mv (.tmp 8)) none [3, 0, 1, 2, 3]]
def l49r2 : List AOper :=
  [AOper.mk (some 9) (.mv (.tmp 1)) none [], AOper.mk (some 10) (.bin .lss (.tmp 9) (.const (.int .i64 0))) none [0]]
def l49r3 : List AOper :=
  [AOper.mk (some 4) (.mv (.const (.int .i64 (-1)))) none []]
def l49r4 : List AOper :=
  [AOper.mk (some 11) (.mv (.tmp 1)) none [], AOper.mk (some 4) (.mv (.tmp 11)) none [0, 0]]
def l49 : AFn :=
  (AFn.mk 12 2 (ACode.seq (ACode.reg l49r0) (ACode.seq (ACode.reg l49r1) (ACode.seq (ACode.seq (ACode.reg l49r2) (ACode.cond (.tmp 10) (ACode.seq (ACode.reg l49r3) ACode.ret) ACode.skip)) (ACode.seq (ACode.reg l49r4) ACode.ret)))) [ARes.tmp 4])
theorem l49_eq : lowFn Tryd.prog 49 = some l49 := by kernel_rfl
def l50r0 : List AOper :=
  [AOper.mk (some 1) (.box (.tmp 0)) none [], AOper.mk (some 2) (.mv (.const (.bool false))) none []]
def l50r1 : List AOper :=
  [AOper.mk (some 3) (.mv (.const (.int .i64 0))) none []]
def l50r2 : List AOper :=
  [AOper.mk (some 4) (.mv (.tmp 3)) none [], AOper.mk (some 5) (.fld 0 (.tmp 1)) none [], AOper.mk (some 6) (.load false 1 (.tmp 5)) none [1], AOper.mk (some 7) (.len (.tmp 6)) none [2], AOper.mk (some 8) (.bin .lss (.tmp 4) (.tmp 7)) none [0, 3]]
def l50r3 : List AOper :=
  [AOper.mk (some 11) (.fld 0 (.tmp 1)) none [], AOper.mk (some 12) (.load false 1 (.tmp 11)) none [0], AOper.mk (some 13) (.mv (.tmp 3)) none [], AOper.mk (some 14) (.idxA 1 (.tmp 12) (.tmp 13)) none [1, 2], AOper.mk (some 15) (.load false 1 (.tmp 14)) none [3], AOper.mk (some 16) (.bin .neq (.tmp 15) (.const (.int .i64 1))) none [4], AOper.mk (some 17) (.mv (.tmp 16)) none [5], AOper.mk (some 18) (.fld 0 (.tmp 1)) (some (17, true)) [6], AOper.mk (some 19) (.load false 1 (.tmp 18)) (some (17, true)) [7, 6], AOper.mk (some 20) (.mv (.tmp 3)) (some (17, true)) [6], AOper.mk (some 21) (.idxA 1 (.tmp 19) (.tmp 20)) (some (17, true)) [8, 9, 6], AOper.mk (some 22) (.load false 1 (.tmp 21)) (some (17, true)) [10, 6], AOper.mk (some 23) (.bin .neq (.tmp 22) (.const (.int .i64 2))) (some (17, true)) [11, 6], AOper.mk (some 24) (.pick (.tmp 17) (.tmp 23) (.const (.bool false))) none [6, 12], AOper.mk (some 25) (.mv (.tmp 24)) none [13, 6], AOper.mk (some 26) (.fld 0 (.tmp 1)) (some (25, true)) [14], AOper.mk (some 27) (.load false 1 (.tmp 26)) (some (25, true)) [15, 14], AOper.mk (some 28) (.mv (.tmp 3)) (some (25, true)) [14], AOper.mk (some 29) (.idxA 1 (.tmp 27) (.tmp 28)) (some (25, true)) [16, 17, 14], AOper.mk (some 30) (.load false 1 (.tmp 29)) (some (25, true)) [18, 14], AOper.mk (some 31) (.bin .neq (.tmp 30) (.const (.int .i64 4))) (some (25, true)) [19, 14], AOper.mk (some 32) (.pick (.tmp 25) (.tmp 31) (.const (.bool false))) none [14, 20]]
def l50r4 : List AOper :=
  [AOper.mk (some 2) (.mv (.const (.bool false))) none []]
def l50r5 : List AOper :=
  [AOper.mk (some 9) (.mv (.tmp 3)) none [], AOper.mk (some 10) (.bin .add (.tmp 9) (.const (.int .i64 1))) none [0], AOper.mk (some 3) (.mv (.tmp 10)) none [1, 0, 1]]
def l50r6 : List AOper :=
  [AOper.mk (some 33) (.fld 0 (.tmp 1)) none [], AOper.mk (some 34) (.load false 1 (.tmp 33)) none [0], AOper.mk (some 35) (.len (.tmp 34)) none [1], AOper.mk (some 36) (.call 55 [.tmp 35, .const (.int .i64 1), .const (.int .i64 5)]) none [2], AOper.mk (some 2) (.mv (.tmp 36)) none [3, 3, 0, 1, 2, 3]]
def l50 : AFn :=
  (AFn.mk 37 1 (ACode.seq (ACode.reg l50r0) (ACode.seq (ACode.seq (ACode.reg l50r1) (ACode.block 0 (ACode.loop (ACode.seq (ACode.seq (ACode.reg l50r2) (ACode.cond (.tmp 8) ACode.skip (ACode.exit 0))) (ACode.seq (ACode.block 1 (ACode.seq (ACode.reg l50r3) (ACode.cond (.tmp 32) (ACode.seq (ACode.reg l50r4) ACode.ret) ACode.skip))) (ACode.reg l50r5)))))) (ACode.seq (ACode.reg l50r6) ACode.ret))) [ARes.tmp 2])
theorem l50_eq : lowFn Tryd.prog 50 = some l50 := by kernel_rfl
def l51r0 : List AOper :=
  [AOper.mk (some 2) (.mv (.const (.bool false))) none []]
def l51r1 : List AOper :=
  [AOper.mk (some 5) (.load true 3 (.global 0)) none [], AOper.mk (some 6) (.mv (.const (.int .i64 0))) none []]
def l51r2 : List AOper :=
  [AOper.mk (some 7) (.bin .lss (.tmp 6) (.const (.int .i64 3))) none []]
def l51r3 : List AOper :=
  [AOper.mk (some 8) (.raw (Op.index 84 (.tmp 5) (.tmp 6))) none [], AOper.mk (some 4) (.mv (.tmp 8)) none [0, 0]]
def l51r4 : List AOper :=
  [AOper.mk (some 9) (.mv (.tmp 0)) none [], AOper.mk (some 10) (.mv (.tmp 4)) none [], AOper.mk (some 11) (.bin .eql (.tmp 9) (.tmp 10)) none [0, 1]]
def l51r5 : List AOper :=
  [AOper.mk (some 2) (.mv (.const (.bool true))) none []]
def l51r6 : List AOper :=
  [AOper.mk (some 12) (.bin .add (.tmp 6) (.const (.int .i64 1))) none [], AOper.mk (some 6) (.mv (.tmp 12)) none [0]]
def l51r7 : List AOper :=
  [AOper.mk (some 2) (.mv (.const (.bool false))) none []]
def l51 : AFn :=
  (AFn.mk 13 1 (ACode.seq (ACode.reg l51r0) (ACode.seq (ACode.seq (ACode.reg l51r1) (ACode.block 0 (ACode.loop (ACode.seq (ACode.reg l51r2) (ACode.seq (ACode.cond (.tmp 7) ACode.skip (ACode.exit 0)) (ACode.seq (ACode.block 1 (ACode.seq (ACode.reg l51r3) (ACode.seq (ACode.reg l51r4) (ACode.cond (.tmp 11) (ACode.seq (ACode.reg l51r5) ACode.ret) ACode.skip)))) (ACode.reg l51r6))))))) (ACode.seq (ACode.reg l51r7) ACode.ret))) [ARes.tmp 2])
theorem l51_eq : lowFn Tryd.prog 51 = some l51 := by kernel_rfl
def l52r0 : List AOper :=
  [AOper.mk (some 1) (.box (.tmp 0)) none [], AOper.mk (some 2) (.mv (.const (.slice none 0 0))) none [], AOper.mk (some 3) (.mv (.const (.int .i64 0))) none [1]]
def l52r1 : List AOper :=
  [AOper.mk (some 8) (.bslice 1 [.int .i64 0] [] 0) none [], AOper.mk (some 4) (.mv (.tmp 8)) none [0, 0]]
def l52r2 : List AOper :=
  [AOper.mk (some 5) (.mv (.const (.int .i64 0))) none []]
def l52r3 : List AOper :=
  [AOper.mk (some 6) (.mv (.const (.int .i64 1))) none []]
def l52r4 : List AOper :=
  [AOper.mk (some 7) (.mv (.const (.int .i64 0))) none []]
def l52r5 : List AOper :=
  [AOper.mk (some 9) (.mv (.tmp 7)) none [], AOper.mk (some 10) (.fld 0 (.tmp 1)) none [], AOper.mk (some 11) (.load false 1 (.tmp 10)) none [1], AOper.mk (some 12) (.len (.tmp 11)) none [2], AOper.mk (some 13) (.bin .lss (.tmp 9) (.tmp 12)) none [0, 3]]
def l52r6 : List AOper :=
  [AOper.mk (some 16) (.fld 2 (.tmp 1)) none [], AOper.mk (some 17) (.load false 1 (.tmp 16)) none [0]]
def l52r7 : List AOper :=
  [AOper.mk (some 18) (.mv (.tmp 5)) none [], AOper.mk (some 19) (.fld 0 (.tmp 1)) none [], AOper.mk (some 20) (.load false 1 (.tmp 19)) none [1], AOper.mk (some 21) (.mv (.tmp 7)) none [], AOper.mk (some 22) (.idxA 1 (.tmp 20) (.tmp 21)) none [2, 3], AOper.mk (some 23) (.load false 1 (.tmp 22)) none [4], AOper.mk (some 24) (.call 75 [.tmp 18, .tmp 23]) none [0, 5], AOper.mk (some 5) (.mv (.tmp 24)) none [6, 6, 0, 1, 2, 3, 4, 5, 6]]
def l52r8 : List AOper :=
  [AOper.mk (some 25) (.mv (.tmp 6)) none [], AOper.mk (some 26) (.fld 0 (.tmp 1)) none [], AOper.mk (some 27) (.load false 1 (.tmp 26)) none [1], AOper.mk (some 28) (.mv (.tmp 7)) none [], AOper.mk (some 29) (.idxA 1 (.tmp 27) (.tmp 28)) none [2, 3], AOper.mk (some 30) (.load false 1 (.tmp 29)) none [4], AOper.mk (some 31) (.minmax true (.tmp 25) (.tmp 30)) none [0, 5], AOper.mk (some 6) (.mv (.tmp 31)) none [6, 0, 1, 2, 3, 4, 5, 6]]
def l52r9 : List AOper :=
  [AOper.mk (some 32) (.mv (.tmp 4)) none [], AOper.mk (some 33) (.mv (.tmp 5)) none [], AOper.mk (some 34) (.bslice 1 [.int .i64 0] [(0, .tmp 33)] 1) none [1], AOper.mk (some 35) (.append 1 (.tmp 32) (.tmp 34)) none [0, 2], AOper.mk (some 4) (.mv (.tmp 35)) none [3, 3, 0, 1, 2, 3]]
def l52r10 : List AOper :=
  [AOper.mk (some 36) (.mv (.tmp 5)) none [], AOper.mk (some 37) (.fld 0 (.tmp 1)) none [], AOper.mk (some 38) (.load false 1 (.tmp 37)) none [1], AOper.mk (some 39) (.mv (.tmp 7)) none [], AOper.mk (some 40) (.idxA 1 (.tmp 38) (.tmp 39)) none [2, 3], AOper.mk (some 41) (.load false 1 (.tmp 40)) none [4], AOper.mk (some 42) (.bin .add (.tmp 36) (.tmp 41)) none [0, 5], AOper.mk (some 5) (.mv (.tmp 42)) none [6, 0, 1, 2, 3, 4, 5, 6]]
def l52r11 : List AOper :=
  [AOper.mk (some 14) (.mv (.tmp 7)) none [], AOper.mk (some 15) (.bin .add (.tmp 14) (.const (.int .i64 1))) none [0], AOper.mk (some 7) (.mv (.tmp 15)) none [1, 0, 1]]
def l52r12 : List AOper :=
  [AOper.mk (some 43) (.mv (.tmp 4)) none [], AOper.mk (some 44) (.mv (.tmp 5)) none [], AOper.mk (some 45) (.mv (.tmp 6)) none [], AOper.mk (some 46) (.call 75 [.tmp 44, .tmp 45]) none [1, 2], AOper.mk (some 2) (.mv (.tmp 43)) none [0, 3, 0], AOper.mk (some 3) (.mv (.tmp 46)) none [3, 4, 0, 1, 2, 3, 4]]
def l52 : AFn :=
  (AFn.mk 47 1 (ACode.seq (ACode.reg l52r0) (ACode.seq (ACode.reg l52r1) (ACode.seq (ACode.reg l52r2) (ACode.seq (ACode.reg l52r3) (ACode.seq (ACode.seq (ACode.reg l52r4) (ACode.block 0 (ACode.loop (ACode.seq (ACode.seq (ACode.reg l52r5) (ACode.cond (.tmp 13) ACode.skip (ACode.exit 0))) (ACode.seq (ACode.block 1 (ACode.seq (ACode.seq (ACode.reg l52r6) (ACode.cond (.tmp 17) (ACode.seq (ACode.reg l52r7) (ACode.reg l52r8)) ACode.skip)) (ACode.seq (ACode.reg l52r9) (ACode.reg l52r10)))) (ACode.reg l52r11)))))) (ACode.seq (ACode.reg l52r12) ACode.ret)))))) [ARes.tmp 2, ARes.tmp 3])
theorem l52_eq : lowFn Tryd.prog 52 = some l52 := by kernel_rfl
def l53r0 : List AOper :=
  [AOper.mk (some 1) (.box (.tmp 0)) none [], AOper.mk (some 2) (.mv (.const (.slice none 0 0))) none []]
def l53r1 : List AOper :=
  [AOper.mk (some 7) (.fld 0 (.tmp 1)) none [], AOper.mk (some 8) (.load false 1 (.tmp 7)) none [0], AOper.mk (some 9) (.len (.tmp 8)) none [1], AOper.mk (some 10) (.mkslice 2 [.int .i64 0, .int .i64 0] (.tmp 9) (.tmp 9)) none [2, 2], AOper.mk (some 3) (.mv (.tmp 10)) none [3, 0, 1, 2, 3]]
def l53r2 : List AOper :=
  [AOper.mk (some 4) (.mv (.const (.int .i64 0))) none []]
def l53r3 : List AOper :=
  [AOper.mk (some 11) (.fld 0 (.tmp 1)) none [], AOper.mk (some 12) (.load false 1 (.tmp 11)) none [0], AOper.mk (some 13) (.len (.tmp 12)) none [1], AOper.mk (some 14) (.mv (.const (.int .i64 0))) none []]
def l53r4 : List AOper :=
  [AOper.mk (some 15) (.bin .lss (.tmp 14) (.tmp 13)) none []]
def l53r5 : List AOper :=
  [AOper.mk (some 16) (.mv (.tmp 14)) none [], AOper.mk (some 17) (.idxA 1 (.tmp 12) (.tmp 14)) none [], AOper.mk (some 18) (.load false 1 (.tmp 17)) none [1], AOper.mk (some 5) (.mv (.tmp 16)) none [0, 0, 1, 2], AOper.mk (some 6) (.mv (.tmp 18)) none [2, 3, 0, 1, 2, 3]]
def l53r6 : List AOper :=
  [AOper.mk (some 19) (.mv (.tmp 3)) none [], AOper.mk (some 20) (.mv (.tmp 5)) none [], AOper.mk (some 21) (.load true 3 (.tmp 1)) none [], AOper.mk (some 22) (.mv (.tmp 4)) none [], AOper.mk (some 23) (.mv (.tmp 6)) none [], AOper.mk (some 24) (.call 76 [.tmp 21, .tmp 22, .tmp 23]) none [2, 3, 4], AOper.mk (some 25) (.mv (.tmp 6)) none [], AOper.mk (some 26) (.build [.int .i64 0, .int .i64 0] [(0, 1, .tmp 24), (1, 1, .tmp 25)]) none [5, 6], AOper.mk (some 27) (.idxA 2 (.tmp 19) (.tmp 20)) none [0, 1, 0, 1, 2, 3, 4, 5, 6, 7], AOper.mk none (.store 2 (.tmp 27) (.tmp 26)) none [8, 7, 5, 0, 1, 2, 3, 4, 5, 6, 7]]
def l53r7 : List AOper :=
  [AOper.mk (some 28) (.mv (.tmp 3)) none [], AOper.mk (some 29) (.mv (.tmp 5)) none [], AOper.mk (some 30) (.idxA 2 (.tmp 28) (.tmp 29)) none [0, 1], AOper.mk (some 31) (.load true 2 (.tmp 30)) none [2], AOper.mk (some 32) (.call 57 [.tmp 31]) none [3], AOper.mk (some 4) (.mv (.tmp 32)) none [4, 4, 0, 1, 2, 3, 4]]
def l53r8 : List AOper :=
  [AOper.mk (some 33) (.bin .add (.tmp 14) (.const (.int .i64 1))) none [], AOper.mk (some 14) (.mv (.tmp 33)) none [0]]
def l53r9 : List AOper :=
  [AOper.mk (some 34) (.mv (.tmp 3)) none [], AOper.mk (some 2) (.mv (.tmp 34)) none [0, 0]]
def l53 : AFn :=
  (AFn.mk 35 1 (ACode.seq (ACode.reg l53r0) (ACode.seq (ACode.reg l53r1) (ACode.seq (ACode.reg l53r2) (ACode.seq (ACode.seq (ACode.reg l53r3) (ACode.block 0 (ACode.loop (ACode.seq (ACode.reg l53r4) (ACode.seq (ACode.cond (.tmp 15) ACode.skip (ACode.exit 0)) (ACode.seq (ACode.block 1 (ACode.seq (ACode.reg l53r5) (ACode.seq (ACode.reg l53r6) (ACode.reg l53r7)))) (ACode.reg l53r8))))))) (ACode.seq (ACode.reg l53r9) ACode.ret))))) [ARes.tmp 2])
theorem l53_eq : lowFn Tryd.prog 53 = some l53 := by kernel_rfl
def l54r0 : List AOper :=
  [AOper.mk (some 1) (.box (.tmp 0)) none [], AOper.mk (some 2) (.mv (.const (.int .i64 0))) none []]
def l54r1a : List AOper :=
  [AOper.mk (some 4) (.load true 3 (.tmp 1)) none [], AOper.mk (some 5) (.call 53 [.tmp 4]) none [0], AOper.mk (some 6) (.fld 0 (.tmp 1)) none [], AOper.mk (some 7) (.load false 1 (.tmp 6)) none [2], AOper.mk (some 8) (.len (.tmp 7)) none [3], AOper.mk (some 9) (.bin .sub (.tmp 8) (.const (.int .i64 1))) none [4], AOper.mk (some 10) (.idxA 2 (.tmp 5) (.tmp 9)) none [1, 5], AOper.mk (some 11) (.load true 2 (.tmp 10)) none [6], AOper.mk (some 3) (.alloc [.int .i64 0, .int .i64 0]) none []]
def l54r1b : List AOper :=
  [AOper.mk none (.store 2 (.tmp 3) (.tmp 11)) none [8, 7, 1, 0, 1, 2, 3, 4, 5, 6, 7, 8]]
def l54r1 : List AOper := l54r1a ++ l54r1b
def l54r2a : List AOper :=
  [AOper.mk (some 12) (.load true 3 (.tmp 1)) none [], AOper.mk (some 13) (.load true 2 (.tmp 3)) none [], AOper.mk (some 14) (.call 57 [.tmp 13]) none [1], AOper.mk (some 15) (.fld 0 (.tmp 1)) none [], AOper.mk (some 16) (.load false 1 (.tmp 15)) none [3], AOper.mk (some 17) (.call 77 [.tmp 16]) none [4, 2]]
def l54r2b : List AOper :=
  [AOper.mk (some 18) (.call 76 [.tmp 12, .tmp 14, .tmp 17]) none [0, 2, 5, 5], AOper.mk (some 2) (.mv (.tmp 18)) none [6, 6, 0, 1, 2, 3, 4, 5, 6]]
def l54r2 : List AOper := l54r2a ++ l54r2b
def l54 : AFn :=
  (AFn.mk 19 1 (ACode.seq (ACode.reg l54r0) (ACode.seq (ACode.draw l54r1) (ACode.seq (ACode.draw l54r2) ACode.ret))) [ARes.tmp 2])
theorem l54_eq : lowFn Tryd.prog 54 = some l54 := by kernel_rfl
def l55r0 : List AOper :=
  [AOper.mk (some 6) (.mv (.const (.bool false))) none []]
def l55r1 : List AOper :=
  [AOper.mk (some 7) (.mv (.tmp 1)) none [], AOper.mk (some 8) (.mv (.tmp 0)) none [], AOper.mk (some 9) (.bin .leq (.tmp 7) (.tmp 8)) none [0, 1], AOper.mk (some 10) (.mv (.tmp 9)) none [2], AOper.mk (some 11) (.mv (.tmp 0)) (some (10, true)) [3], AOper.mk (some 12) (.mv (.tmp 2)) (some (10, true)) [3], AOper.mk (some 13) (.bin .leq (.tmp 11) (.tmp 12)) (some (10, true)) [4, 5, 3], AOper.mk (some 14) (.pick (.tmp 10) (.tmp 13) (.const (.bool false))) none [3, 6], AOper.mk (some 6) (.mv (.tmp 14)) none [7, 3, 0, 1, 2, 3, 4, 5, 6, 7]]
def l55 : AFn :=
  (AFn.mk 15 3 (ACode.seq (ACode.reg l55r0) (ACode.seq (ACode.reg l55r1) ACode.ret)) [ARes.tmp 6])
theorem l55_eq : lowFn Tryd.prog 55 = some l55 := by kernel_rfl
def l56r0 : List AOper :=
  [AOper.mk (some 1) (.box (.tmp 0)) none [], AOper.mk (some 2) (.mv (.const (.slice none 0 0))) none []]
def l56r1 : List AOper :=
  [AOper.mk (some 5) (.load true 3 (.tmp 1)) none [], AOper.mk (some 6) (.call 78 [.tmp 5]) none [0], AOper.mk (some 7) (.mkslice 1 [.int .i64 0] (.tmp 6) (.tmp 6)) none [1, 1], AOper.mk (some 3) (.mv (.tmp 7)) none [2, 1, 0, 1, 2]]
def l56r2 : List AOper :=
  [AOper.mk (some 8) (.mv (.tmp 3)) none [], AOper.mk (some 9) (.len (.tmp 8)) none [0], AOper.mk (some 10) (.mv (.const (.int .i64 0))) none []]
def l56r3 : List AOper :=
  [AOper.mk (some 11) (.bin .lss (.tmp 10) (.tmp 9)) none []]
def l56r4 : List AOper :=
  [AOper.mk (some 12) (.mv (.tmp 10)) none [], AOper.mk (some 4) (.mv (.tmp 12)) none [0, 0]]
def l56r5 : List AOper :=
  [AOper.mk (some 13) (.mv (.tmp 3)) none [], AOper.mk (some 14) (.mv (.tmp 4)) none [], AOper.mk (some 15) (.load true 3 (.tmp 1)) none [], AOper.mk (some 16) (.mv (.tmp 4)) none [], AOper.mk (some 17) (.call 79 [.tmp 15, .tmp 16]) none [2, 3], AOper.mk (some 18) (.idxA 1 (.tmp 13) (.tmp 14)) none [0, 1, 0, 1, 2, 3, 4], AOper.mk none (.store 1 (.tmp 18) (.tmp 17)) none [5, 4, 4, 0, 1, 2, 3, 4]]
def l56r6 : List AOper :=
  [AOper.mk (some 19) (.bin .add (.tmp 10) (.const (.int .i64 1))) none [], AOper.mk (some 10) (.mv (.tmp 19)) none [0]]
def l56r7 : List AOper :=
  [AOper.mk (some 20) (.mv (.tmp 3)) none [], AOper.mk (some 2) (.mv (.tmp 20)) none [0, 0]]
def l56 : AFn :=
  (AFn.mk 21 1 (ACode.seq (ACode.reg l56r0) (ACode.seq (ACode.reg l56r1) (ACode.seq (ACode.seq (ACode.reg l56r2) (ACode.block 0 (ACode.loop (ACode.seq (ACode.reg l56r3) (ACode.seq (ACode.cond (.tmp 11) ACode.skip (ACode.exit 0)) (ACode.seq (ACode.block 1 (ACode.seq (ACode.reg l56r4) (ACode.reg l56r5))) (ACode.reg l56r6))))))) (ACode.seq (ACode.reg l56r7) ACode.ret)))) [ARes.tmp 2])
theorem l56_eq : lowFn Tryd.prog 56 = some l56 := by kernel_rfl
def l57r0 : List AOper :=
  [AOper.mk (some 1) (.box (.tmp 0)) none [], AOper.mk (some 2) (.mv (.const (.int .i64 0))) none []]
def l57r1 : List AOper :=
  [AOper.mk (some 3) (.fld 0 (.tmp 1)) none [], AOper.mk (some 4) (.load false 1 (.tmp 3)) none [0], AOper.mk (some 5) (.fld 1 (.tmp 1)) none [], AOper.mk (some 6) (.load false 1 (.tmp 5)) none [2], AOper.mk (some 7) (.bin .add (.tmp 4) (.tmp 6)) none [1, 3], AOper.mk (some 2) (.mv (.tmp 7)) none [4, 0, 1, 2, 3, 4]]
def l57 : AFn :=
  (AFn.mk 8 1 (ACode.seq (ACode.reg l57r0) (ACode.seq (ACode.reg l57r1) ACode.ret)) [ARes.tmp 2])
theorem l57_eq : lowFn Tryd.prog 57 = some l57 := by kernel_rfl
def l58r0 : List AOper :=
  [AOper.mk (some 2) (.box (.tmp 0)) none [], AOper.mk (some 4) (.mv (.const (.bool false))) none []]
def l58r1 : List AOper :=
  [AOper.mk (some 6) (.mv (.tmp 1)) none [], AOper.mk (some 7) (.len (.tmp 6)) none [0], AOper.mk (some 8) (.fld 0 (.tmp 2)) none [], AOper.mk (some 9) (.load false 1 (.tmp 8)) none [2], AOper.mk (some 10) (.len (.tmp 9)) none [3], AOper.mk (some 11) (.bin .neq (.tmp 7) (.tmp 10)) none [1, 4]]
def l58r2 : List AOper :=
  [AOper.mk (some 4) (.mv (.const (.bool false))) none []]
def l58r3 : List AOper :=
  [AOper.mk (some 5) (.mv (.const (.int .i64 0))) none []]
def l58r4 : List AOper :=
  [AOper.mk (some 12) (.mv (.tmp 5)) none [], AOper.mk (some 13) (.mv (.tmp 1)) none [], AOper.mk (some 14) (.len (.tmp 13)) none [1], AOper.mk (some 15) (.bin .lss (.tmp 12) (.tmp 14)) none [0, 2]]
def l58r5a : List AOper :=
  [AOper.mk (some 18) (.mv (.tmp 1)) none [], AOper.mk (some 19) (.mv (.tmp 5)) none [], AOper.mk (some 20) (.idxA 1 (.tmp 18) (.tmp 19)) none [0, 1], AOper.mk (some 21) (.load false 1 (.tmp 20)) none [2], AOper.mk (some 22) (.fld 0 (.tmp 2)) none [], AOper.mk (some 23) (.load false 1 (.tmp 22)) none [4], AOper.mk (some 24) (.mv (.tmp 5)) none [], AOper.mk (some 25) (.idxA 1 (.tmp 23) (.tmp 24)) none [5, 6], AOper.mk (some 26) (.load false 1 (.tmp 25)) none [7], AOper.mk (some 27) (.call 80 [.tmp 26]) none [8], AOper.mk (some 28) (.bin .sub (.tmp 27) (.const (.int .i64 1))) none [9]]
def l58r5b : List AOper :=
  [AOper.mk (some 29) (.call 55 [.tmp 21, .const (.int .i64 0), .tmp 28]) none [3, 10, 9], AOper.mk (some 30) (.un .not (.tmp 29)) none [11]]
def l58r5 : List AOper := l58r5a ++ l58r5b
def l58r6 : List AOper :=
  [AOper.mk (some 4) (.mv (.const (.bool false))) none []]
def l58r7 : List AOper :=
  [AOper.mk (some 16) (.mv (.tmp 5)) none [], AOper.mk (some 17) (.bin .add (.tmp 16) (.const (.int .i64 1))) none [0], AOper.mk (some 5) (.mv (.tmp 17)) none [1, 0, 1]]
def l58r8 : List AOper :=
  [AOper.mk (some 4) (.mv (.const (.bool true))) none []]
def l58 : AFn :=
  (AFn.mk 31 2 (ACode.seq (ACode.reg l58r0) (ACode.seq (ACode.seq (ACode.reg l58r1) (ACode.cond (.tmp 11) (ACode.seq (ACode.reg l58r2) ACode.ret) ACode.skip)) (ACode.seq (ACode.seq (ACode.reg l58r3) (ACode.block 0 (ACode.loop (ACode.seq (ACode.seq (ACode.reg l58r4) (ACode.cond (.tmp 15) ACode.skip (ACode.exit 0))) (ACode.seq (ACode.block 1 (ACode.seq (ACode.draw l58r5) (ACode.cond (.tmp 30) (ACode.seq (ACode.reg l58r6) ACode.ret) ACode.skip))) (ACode.reg l58r7)))))) (ACode.seq (ACode.reg l58r8) ACode.ret)))) [ARes.tmp 4])
theorem l58_eq : lowFn Tryd.prog 58 = some l58 := by kernel_rfl
def l59r0 : List AOper :=
  [AOper.mk (some 2) (.box (.tmp 0)) none [], AOper.mk (some 4) (.mv (.const (.slice none 0 0))) none []]
def l59r1 : List AOper :=
  [AOper.mk (some 12) (.load true 3 (.tmp 2)) none [], AOper.mk (some 13) (.call 52 [.tmp 12]) none [0], AOper.mk (some 11) (.mv (.tmp 13)) none [1], AOper.mk (some 14) (.extract (.tmp 11) 0) none [2], AOper.mk (some 15) (.extract (.tmp 11) 1) none [2], AOper.mk (some 5) (.mv (.tmp 14)) none [3, 1, 0, 1, 2, 3], AOper.mk (some 6) (.mv (.tmp 15)) none [4, 5, 0, 1, 2, 3, 4, 5]]
def l59r2 : List AOper :=
  [AOper.mk (some 16) (.mv (.tmp 6)) none [], AOper.mk (some 17) (.mkslice 1 [.int .i64 0] (.tmp 16) (.tmp 16)) none [0, 0], AOper.mk (some 7) (.mv (.tmp 17)) none [1, 0, 1]]
def l59r3 : List AOper :=
  [AOper.mk (some 8) (.mv (.const (.int .i64 0))) none []]
def l59r4 : List AOper :=
  [AOper.mk (some 18) (.mv (.tmp 8)) none [], AOper.mk (some 19) (.mv (.tmp 1)) none [], AOper.mk (some 20) (.len (.tmp 19)) none [1], AOper.mk (some 21) (.bin .lss (.tmp 18) (.tmp 20)) none [0, 2]]
def l59r5a : List AOper :=
  [AOper.mk (some 24) (.mv (.tmp 1)) none [], AOper.mk (some 25) (.mv (.tmp 8)) none [], AOper.mk (some 26) (.idxA 1 (.tmp 24) (.tmp 25)) none [0, 1], AOper.mk (some 27) (.load false 1 (.tmp 26)) none [2], AOper.mk (some 28) (.fld 0 (.tmp 2)) none [], AOper.mk (some 29) (.load false 1 (.tmp 28)) none [4], AOper.mk (some 30) (.mv (.tmp 8)) none [], AOper.mk (some 31) (.idxA 1 (.tmp 29) (.tmp 30)) none [5, 6], AOper.mk (some 32) (.load false 1 (.tmp 31)) none [7], AOper.mk (some 33) (.fld 1 (.tmp 2)) none [], AOper.mk (some 34) (.load false 1 (.tmp 33)) none [9]]
def l59r5b : List AOper :=
  [AOper.mk (some 35) (.call 81 [.tmp 27, .tmp 32, .tmp 34]) none [3, 8, 10], AOper.mk (some 9) (.mv (.tmp 35)) none [11, 11, 0, 1, 2, 3, 4, 5, 6, 7, 8, 9, 10, 11]]
def l59r5 : List AOper := l59r5a ++ l59r5b
def l59r6 : List AOper :=
  [AOper.mk (some 10) (.mv (.const (.int .i64 0))) none []]
def l59r7 : List AOper :=
  [AOper.mk (some 36) (.mv (.tmp 10)) none [], AOper.mk (some 37) (.mv (.tmp 9)) none [], AOper.mk (some 38) (.len (.tmp 37)) none [1], AOper.mk (some 39) (.bin .lss (.tmp 36) (.tmp 38)) none [0, 2]]
def l59r8a : List AOper :=
  [AOper.mk (some 42) (.mv (.tmp 7)) none [], AOper.mk (some 43) (.mv (.tmp 5)) none [], AOper.mk (some 44) (.mv (.tmp 8)) none [], AOper.mk (some 45) (.idxA 1 (.tmp 43) (.tmp 44)) none [1, 2], AOper.mk (some 46) (.load false 1 (.tmp 45)) none [3], AOper.mk (some 47) (.mv (.tmp 10)) none [], AOper.mk (some 48) (.bin .add (.tmp 46) (.tmp 47)) none [4, 5], AOper.mk (some 49) (.mv (.tmp 9)) none [], AOper.mk (some 50) (.mv (.tmp 10)) none [], AOper.mk (some 51) (.idxA 1 (.tmp 49) (.tmp 50)) none [7, 8], AOper.mk (some 52) (.load false 1 (.tmp 51)) none [9]]
def l59r8b : List AOper :=
  [AOper.mk (some 53) (.idxA 1 (.tmp 42) (.tmp 48)) none [0, 6, 0, 1, 2, 3, 4, 5, 6, 7, 8, 9, 10], AOper.mk none (.store 1 (.tmp 53) (.tmp 52)) none [11, 10, 0, 1, 2, 3, 4, 5, 6, 7, 8, 9, 10]]
def l59r8 : List AOper := l59r8a ++ l59r8b
def l59r9 : List AOper :=
  [AOper.mk (some 40) (.mv (.tmp 10)) none [], AOper.mk (some 41) (.bin .add (.tmp 40) (.const (.int .i64 1))) none [0], AOper.mk (some 10) (.mv (.tmp 41)) none [1, 0, 1]]
def l59r10 : List AOper :=
  [AOper.mk (some 22) (.mv (.tmp 8)) none [], AOper.mk (some 23) (.bin .add (.tmp 22) (.const (.int .i64 1))) none [0], AOper.mk (some 8) (.mv (.tmp 23)) none [1, 0, 1]]
def l59r11 : List AOper :=
  [AOper.mk (some 54) (.mv (.tmp 7)) none [], AOper.mk (some 4) (.mv (.tmp 54)) none [0, 0]]
def l59 : AFn :=
  (AFn.mk 55 2 (ACode.seq (ACode.reg l59r0) (ACode.seq (ACode.reg l59r1) (ACode.seq (ACode.reg l59r2) (ACode.seq (ACode.seq (ACode.reg l59r3) (ACode.block 0 (ACode.loop (ACode.seq (ACode.seq (ACode.reg l59r4) (ACode.cond (.tmp 21) ACode.skip (ACode.exit 0))) (ACode.seq (ACode.block 1 (ACode.seq (ACode.draw l59r5) (ACode.seq (ACode.reg l59r6) (ACode.block 2 (ACode.loop (ACode.seq (ACode.seq (ACode.reg l59r7) (ACode.cond (.tmp 39) ACode.skip (ACode.exit 2))) (ACode.seq (ACode.block 3 (ACode.draw l59r8)) (ACode.reg l59r9)))))))) (ACode.reg l59r10)))))) (ACode.seq (ACode.reg l59r11) ACode.ret))))) [ARes.tmp 4])
theorem l59_eq : lowFn Tryd.prog 59 = some l59 := by kernel_rfl
def l60r0 : List AOper :=
  [AOper.mk (some 2) (.box (.tmp 0)) none [], AOper.mk (some 4) (.mv (.const (.bool false))) none []]
def l60r1 : List AOper :=
  [AOper.mk (some 7) (.load true 3 (.tmp 2)) none [], AOper.mk (some 8) (.call 16 [.tmp 7]) none [0], AOper.mk (some 9) (.un .not (.tmp 8)) none [1], AOper.mk (some 10) (.mv (.tmp 9)) none [2, 1], AOper.mk (some 11) (.mv (.tmp 1)) (some (10, false)) [3], AOper.mk (some 12) (.len (.tmp 11)) (some (10, false)) [4, 3], AOper.mk (some 13) (.fld 0 (.tmp 2)) (some (10, false)) [3], AOper.mk (some 14) (.load false 1 (.tmp 13)) (some (10, false)) [6, 3], AOper.mk (some 15) (.len (.tmp 14)) (some (10, false)) [7, 3], AOper.mk (some 16) (.bin .neq (.tmp 12) (.tmp 15)) (some (10, false)) [5, 8, 3], AOper.mk (some 17) (.pick (.tmp 10) (.const (.bool true)) (.tmp 16)) none [3, 9]]
def l60r2 : List AOper :=
  [AOper.mk (some 4) (.mv (.const (.bool false))) none []]
def l60r3 : List AOper :=
  [AOper.mk (some 18) (.mv (.tmp 1)) none [], AOper.mk (some 19) (.len (.tmp 18)) none [0], AOper.mk (some 20) (.mv (.const (.int .i64 0))) none []]
def l60r4 : List AOper :=
  [AOper.mk (some 21) (.bin .lss (.tmp 20) (.tmp 19)) none []]
def l60r5 : List AOper :=
  [AOper.mk (some 22) (.mv (.tmp 20)) none [], AOper.mk (some 23) (.idxA 1 (.tmp 18) (.tmp 20)) none [], AOper.mk (some 24) (.load false 1 (.tmp 23)) none [1], AOper.mk (some 5) (.mv (.tmp 22)) none [0, 0, 1, 2], AOper.mk (some 6) (.mv (.tmp 24)) none [2, 3, 0, 1, 2, 3]]
def l60r6 : List AOper :=
  [AOper.mk (some 25) (.mv (.tmp 6)) none [], AOper.mk (some 26) (.fld 0 (.tmp 2)) none [], AOper.mk (some 27) (.load false 1 (.tmp 26)) none [1], AOper.mk (some 28) (.mv (.tmp 5)) none [], AOper.mk (some 29) (.idxA 1 (.tmp 27) (.tmp 28)) none [2, 3], AOper.mk (some 30) (.load false 1 (.tmp 29)) none [4], AOper.mk (some 31) (.call 82 [.tmp 30]) none [5], AOper.mk (some 32) (.call 70 [.tmp 25, .tmp 31]) none [0, 6, 6], AOper.mk (some 33) (.un .not (.tmp 32)) none [7]]
def l60r7 : List AOper :=
  [AOper.mk (some 4) (.mv (.const (.bool false))) none []]
def l60r8 : List AOper :=
  [AOper.mk (some 34) (.bin .add (.tmp 20) (.const (.int .i64 1))) none [], AOper.mk (some 20) (.mv (.tmp 34)) none [0]]
def l60r9 : List AOper :=
  [AOper.mk (some 4) (.mv (.const (.bool true))) none []]
def l60 : AFn :=
  (AFn.mk 35 2 (ACode.seq (ACode.reg l60r0) (ACode.seq (ACode.seq (ACode.reg l60r1) (ACode.cond (.tmp 17) (ACode.seq (ACode.reg l60r2) ACode.ret) ACode.skip)) (ACode.seq (ACode.seq (ACode.reg l60r3) (ACode.block 0 (ACode.loop (ACode.seq (ACode.reg l60r4) (ACode.seq (ACode.cond (.tmp 21) ACode.skip (ACode.exit 0)) (ACode.seq (ACode.block 1 (ACode.seq (ACode.reg l60r5) (ACode.seq (ACode.reg l60r6) (ACode.cond (.tmp 33) (ACode.seq (ACode.reg l60r7) ACode.ret) ACode.skip)))) (ACode.reg l60r8))))))) (ACode.seq (ACode.reg l60r9) ACode.ret)))) [ARes.tmp 4])
theorem l60_eq : lowFn Tryd.prog 60 = some l60 := by kernel_rfl
def l61r0 : List AOper :=
  [AOper.mk (some 2) (.box (.tmp 0)) none [], AOper.mk (some 4) (.mv (.const (.slice none 0 0))) none []]
def l61r1a : List AOper :=
  [AOper.mk (some 9) (.load true 3 (.tmp 2)) none [], AOper.mk (some 10) (.call 54 [.tmp 9]) none [0], AOper.mk (some 11) (.mkslice 1 [.int .i64 0] (.tmp 10) (.tmp 10)) none [1, 1], AOper.mk (some 12) (.load true 3 (.tmp 2)) none [], AOper.mk (some 13) (.call 71 [.tmp 12]) none [3, 1], AOper.mk (some 6) (.alloc [.nilFunc]) none []]
def l61r1b : List AOper :=
  [AOper.mk (some 5) (.mv (.tmp 11)) none [2, 4, 0, 1, 2, 5], AOper.mk none (.store 1 (.tmp 6) (.tmp 13)) none [5, 4, 6, 0, 1, 2, 3, 4, 5, 6]]
def l61r1 : List AOper := l61r1a ++ l61r1b
def l61r2 : List AOper :=
  [AOper.mk (some 14) (.load true 3 (.tmp 2)) none [], AOper.mk (some 15) (.call 53 [.tmp 14]) none [0], AOper.mk (some 16) (.len (.tmp 15)) none [1], AOper.mk (some 17) (.mv (.const (.int .i64 0))) none []]
def l61r3 : List AOper :=
  [AOper.mk (some 18) (.bin .lss (.tmp 17) (.tmp 16)) none []]
def l61r4 : List AOper :=
  [AOper.mk (some 19) (.mv (.tmp 17)) none [], AOper.mk (some 20) (.idxA 2 (.tmp 15) (.tmp 17)) none [], AOper.mk (some 21) (.load true 2 (.tmp 20)) none [1], AOper.mk (some 8) (.alloc [.int .i64 0, .int .i64 0]) none [], AOper.mk (some 7) (.mv (.tmp 19)) none [0, 0, 1, 2, 3], AOper.mk none (.store 2 (.tmp 8) (.tmp 21)) none [3, 2, 4, 0, 1, 2, 3, 4]]
def l61r5a : List AOper :=
  [AOper.mk (some 22) (.load true 1 (.tmp 6)) none [], AOper.mk (some 23) (.mv (.tmp 5)) none [], AOper.mk (some 24) (.load true 2 (.tmp 8)) none [], AOper.mk (some 25) (.mv (.tmp 1)) none [], AOper.mk (some 26) (.mv (.tmp 7)) none [], AOper.mk (some 27) (.idxA 1 (.tmp 25) (.tmp 26)) none [3, 4], AOper.mk (some 28) (.load false 1 (.tmp 27)) none [5]]
def l61r5b : List AOper :=
  [AOper.mk (some 29) (.call 83 [.tmp 22, .tmp 23, .tmp 24, .tmp 28]) none [0, 1, 2, 6]]
def l61r5 : List AOper := l61r5a ++ l61r5b
def l61r6 : List AOper :=
  [AOper.mk (some 30) (.bin .add (.tmp 17) (.const (.int .i64 1))) none [], AOper.mk (some 17) (.mv (.tmp 30)) none [0]]
def l61r7 : List AOper :=
  [AOper.mk (some 31) (.mv (.tmp 5)) none [], AOper.mk (some 4) (.mv (.tmp 31)) none [0, 0]]
def l61 : AFn :=
  (AFn.mk 32 2 (ACode.seq (ACode.reg l61r0) (ACode.seq (ACode.draw l61r1) (ACode.seq (ACode.seq (ACode.reg l61r2) (ACode.block 0 (ACode.loop (ACode.seq (ACode.reg l61r3) (ACode.seq (ACode.cond (.tmp 18) ACode.skip (ACode.exit 0)) (ACode.seq (ACode.block 1 (ACode.seq (ACode.reg l61r4) (ACode.draw l61r5))) (ACode.reg l61r6))))))) (ACode.seq (ACode.reg l61r7) ACode.ret)))) [ARes.tmp 4])
theorem l61_eq : lowFn Tryd.prog 61 = some l61 := by kernel_rfl
def l62r0 : List AOper :=
  [AOper.mk (some 6) (.mv (.const (.bool false))) none []]
def l62r1 : List AOper :=
  [AOper.mk (some 7) (.mv (.const (.int .i64 0))) none []]
def l62r2 : List AOper :=
  [AOper.mk (some 8) (.mv (.tmp 7)) none [], AOper.mk (some 9) (.mv (.tmp 0)) none [], AOper.mk (some 10) (.len (.tmp 9)) none [1], AOper.mk (some 11) (.bin .lss (.tmp 8) (.tmp 10)) none [0, 2]]
def l62r3 : List AOper :=
  [AOper.mk (some 14) (.mv (.tmp 0)) none [], AOper.mk (some 15) (.mv (.tmp 7)) none [], AOper.mk (some 16) (.idxA 1 (.tmp 14) (.tmp 15)) none [0, 1], AOper.mk (some 17) (.load false 1 (.tmp 16)) none [2], AOper.mk (some 18) (.mv (.tmp 1)) none [], AOper.mk (some 19) (.mv (.tmp 2)) none [], AOper.mk (some 20) (.call 55 [.tmp 17, .tmp 18, .tmp 19]) none [3, 4, 5], AOper.mk (some 21) (.un .not (.tmp 20)) none [6]]
def l62r4 : List AOper :=
  [AOper.mk (some 6) (.mv (.const (.bool false))) none []]
def l62r5 : List AOper :=
  [AOper.mk (some 12) (.mv (.tmp 7)) none [], AOper.mk (some 13) (.bin .add (.tmp 12) (.const (.int .i64 1))) none [0], AOper.mk (some 7) (.mv (.tmp 13)) none [1, 0, 1]]
def l62r6 : List AOper :=
  [AOper.mk (some 6) (.mv (.const (.bool true))) none []]
def l62 : AFn :=
  (AFn.mk 22 3 (ACode.seq (ACode.reg l62r0) (ACode.seq (ACode.seq (ACode.reg l62r1) (ACode.block 0 (ACode.loop (ACode.seq (ACode.seq (ACode.reg l62r2) (ACode.cond (.tmp 11) ACode.skip (ACode.exit 0))) (ACode.seq (ACode.block 1 (ACode.seq (ACode.reg l62r3) (ACode.cond (.tmp 21) (ACode.seq (ACode.reg l62r4) ACode.ret) ACode.skip))) (ACode.reg l62r5)))))) (ACode.seq (ACode.reg l62r6) ACode.ret))) [ARes.tmp 6])
theorem l62_eq : lowFn Tryd.prog 62 = some l62 := by kernel_rfl
def l63r0 : List AOper :=
  [AOper.mk (some 2) (.box (.tmp 0)) none [], AOper.mk (some 4) (.mv (.const (.slice none 0 0))) none []]
def l63r1 : List AOper :=
  [AOper.mk (some 10) (.load true 3 (.tmp 2)) none [], AOper.mk (some 11) (.call 52 [.tmp 10]) none [0], AOper.mk (some 9) (.mv (.tmp 11)) none [1], AOper.mk (some 12) (.extract (.tmp 9) 0) none [2], AOper.mk (some 13) (.extract (.tmp 9) 1) none [2], AOper.mk (some 5) (.mv (.tmp 12)) none [3, 1, 0, 1, 2, 3], AOper.mk (some 6) (.mv (.tmp 13)) none [4, 5, 0, 1, 2, 3, 4, 5]]
def l63r2 : List AOper :=
  [AOper.mk (some 14) (.bslice 1 [.int .i64 0] [] 0) none [], AOper.mk (some 7) (.mv (.tmp 14)) none [0, 0]]
def l63r3 : List AOper :=
  [AOper.mk (some 8) (.mv (.const (.int .i64 0))) none []]
def l63r4 : List AOper :=
  [AOper.mk (some 15) (.mv (.tmp 8)) none [], AOper.mk (some 16) (.mv (.tmp 5)) none [], AOper.mk (some 17) (.len (.tmp 16)) none [1], AOper.mk (some 18) (.bin .lss (.tmp 15) (.tmp 17)) none [0, 2]]
def l63r5a : List AOper :=
  [AOper.mk (some 21) (.mv (.tmp 7)) none [], AOper.mk (some 22) (.mv (.tmp 1)) none [], AOper.mk (some 23) (.mv (.tmp 5)) none [], AOper.mk (some 24) (.mv (.tmp 8)) none [], AOper.mk (some 25) (.idxA 1 (.tmp 23) (.tmp 24)) none [2, 3], AOper.mk (some 26) (.load false 1 (.tmp 25)) none [4], AOper.mk (some 27) (.mv (.tmp 5)) none [], AOper.mk (some 28) (.mv (.tmp 8)) none [], AOper.mk (some 29) (.idxA 1 (.tmp 27) (.tmp 28)) none [6, 7], AOper.mk (some 30) (.load false 1 (.tmp 29)) none [8], AOper.mk (some 31) (.fld 0 (.tmp 2)) none [], AOper.mk (some 32) (.load false 1 (.tmp 31)) none [10], AOper.mk (some 33) (.mv (.tmp 8)) none [], AOper.mk (some 34) (.idxA 1 (.tmp 32) (.tmp 33)) none [11, 12], AOper.mk (some 35) (.load false 1 (.tmp 34)) none [13], AOper.mk (some 36) (.bin .add (.tmp 30) (.tmp 35)) none [9, 14], AOper.mk (some 37) (.slice 1 (.tmp 22) (some (.tmp 26)) (some (.tmp 36))) none [1, 5, 15], AOper.mk (some 38) (.fld 1 (.tmp 2)) none [], AOper.mk (some 39) (.load false 1 (.tmp 38)) none [17], AOper.mk (some 40) (.call 84 [.tmp 37, .tmp 39]) none [16, 18], AOper.mk (some 41) (.bslice 1 [.int .i64 0] [(0, .tmp 40)] 1) none [19]]
def l63r5b : List AOper :=
  [AOper.mk (some 42) (.append 1 (.tmp 21) (.tmp 41)) none [0, 20, 19], AOper.mk (some 7) (.mv (.tmp 42)) none [21, 21, 0, 1, 2, 3, 4, 5, 6, 7, 8, 9, 10, 11, 12, 13, 14, 15, 16, 17, 18, 19, 20, 21]]
def l63r5 : List AOper := l63r5a ++ l63r5b
def l63r6 : List AOper :=
  [AOper.mk (some 19) (.mv (.tmp 8)) none [], AOper.mk (some 20) (.bin .add (.tmp 19) (.const (.int .i64 1))) none [0], AOper.mk (some 8) (.mv (.tmp 20)) none [1, 0, 1]]
def l63r7 : List AOper :=
  [AOper.mk (some 43) (.mv (.tmp 7)) none [], AOper.mk (some 4) (.mv (.tmp 43)) none [0, 0]]
def l63 : AFn :=
  (AFn.mk 44 2 (ACode.seq (ACode.reg l63r0) (ACode.seq (ACode.reg l63r1) (ACode.seq (ACode.reg l63r2) (ACode.seq (ACode.seq (ACode.reg l63r3) (ACode.block 0 (ACode.loop (ACode.seq (ACode.seq (ACode.reg l63r4) (ACode.cond (.tmp 18) ACode.skip (ACode.exit 0))) (ACode.seq (ACode.block 1 (ACode.draw l63r5)) (ACode.reg l63r6)))))) (ACode.seq (ACode.reg l63r7) ACode.ret))))) [ARes.tmp 4])
theorem l63_eq : lowFn Tryd.prog 63 = some l63 := by kernel_rfl
def l64r0 : List AOper :=
  [AOper.mk (some 2) (.mv (.const (.bool false))) none []]
def l64r1 : List AOper :=
  [AOper.mk (some 5) (.mv (.tmp 0)) none [], AOper.mk (some 6) (.len (.tmp 5)) none [0], AOper.mk (some 7) (.mv (.const (.int .i64 0))) none []]
def l64r2 : List AOper :=
  [AOper.mk (some 8) (.bin .lss (.tmp 7) (.tmp 6)) none []]
def l64r3 : List AOper :=
  [AOper.mk (some 9) (.idxA 1 (.tmp 5) (.tmp 7)) none [], AOper.mk (some 10) (.load false 1 (.tmp 9)) none [0], AOper.mk (some 4) (.mv (.tmp 10)) none [1, 0, 1]]
def l64r4 : List AOper :=
  [AOper.mk (some 11) (.mv (.tmp 4)) none [], AOper.mk (some 12) (.call 70 [.tmp 11, .const (.int .i64 255)]) none [0], AOper.mk (some 13) (.un .not (.tmp 12)) none [1]]
def l64r5 : List AOper :=
  [AOper.mk (some 2) (.mv (.const (.bool false))) none []]
def l64r6 : List AOper :=
  [AOper.mk (some 14) (.bin .add (.tmp 7) (.const (.int .i64 1))) none [], AOper.mk (some 7) (.mv (.tmp 14)) none [0]]
def l64r7 : List AOper :=
  [AOper.mk (some 2) (.mv (.const (.bool true))) none []]
def l64 : AFn :=
  (AFn.mk 15 1 (ACode.seq (ACode.reg l64r0) (ACode.seq (ACode.seq (ACode.reg l64r1) (ACode.block 0 (ACode.loop (ACode.seq (ACode.reg l64r2) (ACode.seq (ACode.cond (.tmp 8) ACode.skip (ACode.exit 0)) (ACode.seq (ACode.block 1 (ACode.seq (ACode.reg l64r3) (ACode.seq (ACode.reg l64r4) (ACode.cond (.tmp 13) (ACode.seq (ACode.reg l64r5) ACode.ret) ACode.skip)))) (ACode.reg l64r6))))))) (ACode.seq (ACode.reg l64r7) ACode.ret))) [ARes.tmp 2])
theorem l64_eq : lowFn Tryd.prog 64 = some l64 := by kernel_rfl
def l65r0 : List AOper :=
  [AOper.mk (some 2) (.box (.tmp 0)) none [], AOper.mk (some 4) (.mv (.const (.slice none 0 0))) none []]
def l65r1a : List AOper :=
  [AOper.mk (some 9) (.fld 0 (.tmp 2)) none [], AOper.mk (some 10) (.load false 1 (.tmp 9)) none [0], AOper.mk (some 11) (.len (.tmp 10)) none [1], AOper.mk (some 12) (.mkslice 1 [.int .i64 0] (.tmp 11) (.tmp 11)) none [2, 2], AOper.mk (some 13) (.load true 3 (.tmp 2)) none [], AOper.mk (some 14) (.call 71 [.tmp 13]) none [4], AOper.mk (some 6) (.alloc [.nilFunc]) none []]
def l65r1b : List AOper :=
  [AOper.mk (some 5) (.mv (.tmp 12)) none [3, 5, 0, 1, 2, 3, 6], AOper.mk none (.store 1 (.tmp 6) (.tmp 14)) none [6, 5, 7, 0, 1, 2, 3, 4, 5, 6, 7]]
def l65r1 : List AOper := l65r1a ++ l65r1b
def l65r2 : List AOper :=
  [AOper.mk (some 15) (.load true 3 (.tmp 2)) none [], AOper.mk (some 16) (.call 53 [.tmp 15]) none [0], AOper.mk (some 17) (.len (.tmp 16)) none [1], AOper.mk (some 18) (.mv (.const (.int .i64 0))) none []]
def l65r3 : List AOper :=
  [AOper.mk (some 19) (.bin .lss (.tmp 18) (.tmp 17)) none []]
def l65r4 : List AOper :=
  [AOper.mk (some 20) (.mv (.tmp 18)) none [], AOper.mk (some 21) (.idxA 2 (.tmp 16) (.tmp 18)) none [], AOper.mk (some 22) (.load true 2 (.tmp 21)) none [1], AOper.mk (some 8) (.alloc [.int .i64 0, .int .i64 0]) none [], AOper.mk (some 7) (.mv (.tmp 20)) none [0, 0, 1, 2, 3], AOper.mk none (.store 2 (.tmp 8) (.tmp 22)) none [3, 2, 4, 0, 1, 2, 3, 4]]
def l65r5 : List AOper :=
  [AOper.mk (some 23) (.mv (.tmp 5)) none [], AOper.mk (some 24) (.mv (.tmp 7)) none [], AOper.mk (some 25) (.load true 1 (.tmp 6)) none [], AOper.mk (some 26) (.mv (.tmp 1)) none [], AOper.mk (some 27) (.load true 2 (.tmp 8)) none [], AOper.mk (some 28) (.call 85 [.tmp 25, .tmp 26, .tmp 27]) none [2, 3, 4], AOper.mk (some 29) (.idxA 1 (.tmp 23) (.tmp 24)) none [0, 1, 0, 1, 2, 3, 4, 5], AOper.mk none (.store 1 (.tmp 29) (.tmp 28)) none [6, 5, 5, 0, 1, 2, 3, 4, 5]]
def l65r6 : List AOper :=
  [AOper.mk (some 30) (.bin .add (.tmp 18) (.const (.int .i64 1))) none [], AOper.mk (some 18) (.mv (.tmp 30)) none [0]]
def l65r7 : List AOper :=
  [AOper.mk (some 31) (.mv (.tmp 5)) none [], AOper.mk (some 4) (.mv (.tmp 31)) none [0, 0]]
def l65 : AFn :=
  (AFn.mk 32 2 (ACode.seq (ACode.reg l65r0) (ACode.seq (ACode.draw l65r1) (ACode.seq (ACode.seq (ACode.reg l65r2) (ACode.block 0 (ACode.loop (ACode.seq (ACode.reg l65r3) (ACode.seq (ACode.cond (.tmp 19) ACode.skip (ACode.exit 0)) (ACode.seq (ACode.block 1 (ACode.seq (ACode.reg l65r4) (ACode.reg l65r5))) (ACode.reg l65r6))))))) (ACode.seq (ACode.reg l65r7) ACode.ret)))) [ARes.tmp 4])
theorem l65_eq : lowFn Tryd.prog 65 = some l65 := by kernel_rfl
def l70r0 : List AOper :=
  [AOper.mk (some 4) (.mv (.const (.bool false))) none []]
def l70r1 : List AOper :=
  [AOper.mk (some 5) (.mv (.tmp 0)) none [], AOper.mk (some 6) (.bin .leq (.const (.int .i64 0)) (.tmp 5)) none [0], AOper.mk (some 7) (.mv (.tmp 6)) none [1], AOper.mk (some 8) (.mv (.tmp 0)) (some (7, true)) [2], AOper.mk (some 9) (.mv (.tmp 1)) (some (7, true)) [2], AOper.mk (some 10) (.bin .leq (.tmp 8) (.tmp 9)) (some (7, true)) [3, 4, 2], AOper.mk (some 11) (.pick (.tmp 7) (.tmp 10) (.const (.bool false))) none [2, 5], AOper.mk (some 4) (.mv (.tmp 11)) none [6, 2, 0, 1, 2, 3, 4, 5, 6]]
def l70 : AFn :=
  (AFn.mk 12 2 (ACode.seq (ACode.reg l70r0) (ACode.seq (ACode.reg l70r1) ACode.ret)) [ARes.tmp 4])
theorem l70_eq : lowFn Tryd.prog 70 = some l70 := by kernel_rfl
def l71r0 : List AOper :=
  [AOper.mk (some 1) (.box (.tmp 0)) none [], AOper.mk (some 2) (.alloc [.nilFunc]) none []]
def l71r1 : List AOper :=
  [AOper.mk (some 3) (.fld 1 (.tmp 1)) none [], AOper.mk (some 4) (.load false 1 (.tmp 3)) none [0]]
def l71r2 : List AOper :=
  [AOper.mk (some 5) (.build [.nilFunc] [(0, 1, .func 90)]) none [], AOper.mk none (.store 1 (.tmp 2) (.tmp 5)) none [0, 0]]
def l71r3 : List AOper :=
  [AOper.mk (some 6) (.build [.nilFunc] [(0, 1, .func 91)]) none [], AOper.mk none (.store 1 (.tmp 2) (.tmp 6)) none [0, 0]]
def l71 : AFn :=
  (AFn.mk 7 1 (ACode.seq (ACode.reg l71r0) (ACode.seq (ACode.seq (ACode.reg l71r1) (ACode.cond (.tmp 4) (ACode.seq (ACode.reg l71r2) ACode.ret) ACode.skip)) (ACode.seq (ACode.reg l71r3) ACode.ret))) [ARes.cell 2 true 1])
theorem l71_eq : lowFn Tryd.prog 71 = some l71 := by kernel_rfl
def l72r0 : List AOper :=
  [AOper.mk (some 3) (.box (.tmp 0)) none [], AOper.mk (some 4) (.box (.tmp 1)) none [], AOper.mk (some 6) (.mv (.const (.int .i64 0))) none []]
def l72r1a : List AOper :=
  [AOper.mk (some 7) (.fld 0 (.tmp 4)) none [], AOper.mk (some 8) (.load false 1 (.tmp 7)) none [0], AOper.mk (some 9) (.fld 0 (.tmp 3)) none [], AOper.mk (some 10) (.load false 1 (.tmp 9)) none [2], AOper.mk (some 11) (.fld 1 (.tmp 4)) none [], AOper.mk (some 12) (.load false 1 (.tmp 11)) none [4], AOper.mk (some 13) (.mv (.tmp 2)) none [], AOper.mk (some 14) (.raw (Op.call (Call.mk (Callee.value (.tmp 10)) (Array.mk [.tmp 12, .tmp 13]) (Array.mk [3, 3])))) none [3, 5, 6]]
def l72r1b : List AOper :=
  [AOper.mk (some 15) (.bin .add (.tmp 8) (.tmp 14)) none [1, 7], AOper.mk (some 6) (.mv (.tmp 15)) none [8, 7, 0, 1, 2, 3, 4, 5, 6, 7, 8]]
def l72r1 : List AOper := l72r1a ++ l72r1b
def l72 : AFn :=
  (AFn.mk 16 3 (ACode.seq (ACode.reg l72r0) (ACode.seq (ACode.draw l72r1) ACode.ret)) [ARes.tmp 6])
theorem l72_eq : lowFn Tryd.prog 72 = some l72 := by kernel_rfl
def l75r0 : List AOper :=
  [AOper.mk (some 4) (.mv (.const (.int .i64 0))) none []]
def l75r1 : List AOper :=
  [AOper.mk (some 5) (.mv (.tmp 0)) none [], AOper.mk (some 6) (.mv (.tmp 1)) none [], AOper.mk (some 7) (.bin .add (.tmp 5) (.tmp 6)) none [0, 1], AOper.mk (some 8) (.bin .sub (.tmp 7) (.const (.int .i64 1))) none [2], AOper.mk (some 9) (.mv (.tmp 1)) none [], AOper.mk (some 10) (.bin .quo (.tmp 8) (.tmp 9)) none [3, 4], AOper.mk (some 11) (.mv (.tmp 1)) none [], AOper.mk (some 12) (.bin .mul (.tmp 10) (.tmp 11)) none [5, 6], AOper.mk (some 4) (.mv (.tmp 12)) none [7, 0, 1, 2, 3, 4, 5, 6, 7]]
def l75 : AFn :=
  (AFn.mk 13 2 (ACode.seq (ACode.reg l75r0) (ACode.seq (ACode.reg l75r1) ACode.ret)) [ARes.tmp 4])
theorem l75_eq : lowFn Tryd.prog 75 = some l75 := by kernel_rfl
def l76r0 : List AOper :=
  [AOper.mk (some 3) (.box (.tmp 0)) none [], AOper.mk (some 6) (.mv (.const (.int .i64 0))) none []]
def l76r1 : List AOper :=
  [AOper.mk (some 7) (.fld 2 (.tmp 3)) none [], AOper.mk (some 8) (.load false 1 (.tmp 7)) none [0], AOper.mk (some 9) (.un .not (.tmp 8)) none [1]]
def l76r2 : List AOper :=
  [AOper.mk (some 10) (.mv (.tmp 1)) none [], AOper.mk (some 6) (.mv (.tmp 10)) none [0, 0]]
def l76r3 : List AOper :=
  [AOper.mk (some 11) (.mv (.tmp 1)) none [], AOper.mk (some 12) (.mv (.tmp 2)) none [], AOper.mk (some 13) (.bin .add (.tmp 11) (.tmp 12)) none [0, 1], AOper.mk (some 14) (.bin .sub (.tmp 13) (.const (.int .i64 1))) none [2], AOper.mk (some 15) (.mv (.tmp 2)) none [], AOper.mk (some 16) (.bin .quo (.tmp 14) (.tmp 15)) none [3, 4], AOper.mk (some 17) (.mv (.tmp 2)) none [], AOper.mk (some 18) (.bin .mul (.tmp 16) (.tmp 17)) none [5, 6], AOper.mk (some 6) (.mv (.tmp 18)) none [7, 0, 1, 2, 3, 4, 5, 6, 7]]
def l76 : AFn :=
  (AFn.mk 19 3 (ACode.seq (ACode.reg l76r0) (ACode.seq (ACode.seq (ACode.reg l76r1) (ACode.cond (.tmp 9) (ACode.seq (ACode.reg l76r2) ACode.ret) ACode.skip)) (ACode.seq (ACode.reg l76r3) ACode.ret))) [ARes.tmp 6])
theorem l76_eq : lowFn Tryd.prog 76 = some l76 := by kernel_rfl
def l77r0 : List AOper :=
  [AOper.mk (some 2) (.mv (.const (.int .i64 0))) none []]
def l77r1 : List AOper :=
  [AOper.mk (some 5) (.mv (.tmp 0)) none [], AOper.mk (some 6) (.len (.tmp 5)) none [0], AOper.mk (some 7) (.bin .lss (.tmp 6) (.const (.int .i64 1))) none [1]]
def l77r2 : List AOper :=
  [AOper.mk (some 8) (.raw (Op.makeInterface 9 (.const (.string (ByteArray.mk (Array.mk [(115 : UInt8), (108 : UInt8), (105 : UInt8), (99 : UInt8), (101 : UInt8), (115 : UInt8), (46 : UInt8), (77 : UInt8), (97 : UInt8), (120 : UInt8), (58 : UInt8), (32 : UInt8), (101 : UInt8), (109 : UInt8), (112 : UInt8), (116 : UInt8), (121 : UInt8), (32 : UInt8), (108 : UInt8), (105 : UInt8), (115 : UInt8), (116 : UInt8)])))))) none [], AOper.mk none (.raw (Op.panic (.tmp 8))) none [0]]
def l77r3 : List AOper :=
  [AOper.mk (some 9) (.mv (.tmp 0)) none [], AOper.mk (some 10) (.idxA 1 (.tmp 9) (.const (.int .i64 0))) none [0], AOper.mk (some 11) (.load false 1 (.tmp 10)) none [1], AOper.mk (some 3) (.mv (.tmp 11)) none [2, 0, 1, 2]]
def l77r4 : List AOper :=
  [AOper.mk (some 4) (.mv (.const (.int .i64 1))) none []]
def l77r5 : List AOper :=
  [AOper.mk (some 12) (.mv (.tmp 4)) none [], AOper.mk (some 13) (.mv (.tmp 0)) none [], AOper.mk (some 14) (.len (.tmp 13)) none [1], AOper.mk (some 15) (.bin .lss (.tmp 12) (.tmp 14)) none [0, 2]]
def l77r6 : List AOper :=
  [AOper.mk (some 18) (.mv (.tmp 3)) none [], AOper.mk (some 19) (.mv (.tmp 0)) none [], AOper.mk (some 20) (.mv (.tmp 4)) none [], AOper.mk (some 21) (.idxA 1 (.tmp 19) (.tmp 20)) none [1, 2], AOper.mk (some 22) (.load false 1 (.tmp 21)) none [3], AOper.mk (some 23) (.minmax true (.tmp 18) (.tmp 22)) none [0, 4], AOper.mk (some 3) (.mv (.tmp 23)) none [5, 0, 1, 2, 3, 4, 5]]
def l77r7 : List AOper :=
  [AOper.mk (some 16) (.mv (.tmp 4)) none [], AOper.mk (some 17) (.bin .add (.tmp 16) (.const (.int .i64 1))) none [0], AOper.mk (some 4) (.mv (.tmp 17)) none [1, 0, 1]]
def l77r8 : List AOper :=
  [AOper.mk (some 24) (.mv (.tmp 3)) none [], AOper.mk (some 2) (.mv (.tmp 24)) none [0, 0]]
def l77 : AFn :=
  (AFn.mk 25 1 (ACode.seq (ACode.reg l77r0) (ACode.seq (ACode.seq (ACode.reg l77r1) (ACode.cond (.tmp 7) (ACode.reg l77r2) ACode.skip)) (ACode.seq (ACode.reg l77r3) (ACode.seq (ACode.seq (ACode.reg l77r4) (ACode.block 0 (ACode.loop (ACode.seq (ACode.seq (ACode.reg l77r5) (ACode.cond (.tmp 15) ACode.skip (ACode.exit 0))) (ACode.seq (ACode.block 1 (ACode.reg l77r6)) (ACode.reg l77r7)))))) (ACode.seq (ACode.reg l77r8) ACode.ret))))) [ARes.tmp 2])
theorem l77_eq : lowFn Tryd.prog 77 = some l77 := by kernel_rfl
def l78r0 : List AOper :=
  [AOper.mk (some 1) (.box (.tmp 0)) none [], AOper.mk (some 2) (.mv (.const (.int .i64 0))) none []]
def l78r1a : List AOper :=
  [AOper.mk (some 5) (.fld 1 (.tmp 1)) none [], AOper.mk (some 6) (.load false 1 (.tmp 5)) none [0], AOper.mk (some 7) (.fld 0 (.tmp 1)) none [], AOper.mk (some 8) (.load false 1 (.tmp 7)) none [2], AOper.mk (some 9) (.bin .sub (.tmp 6) (.tmp 8)) none [1, 3], AOper.mk (some 10) (.fld 2 (.tmp 1)) none [], AOper.mk (some 11) (.load false 1 (.tmp 10)) none [5], AOper.mk (some 3) (.mv (.tmp 9)) none [4, 0, 1, 2, 3, 4]]
def l78r1b : List AOper :=
  [AOper.mk (some 4) (.mv (.tmp 11)) none [6, 7, 0, 1, 2, 3, 4, 5, 6, 7]]
def l78r1 : List AOper := l78r1a ++ l78r1b
def l78r2 : List AOper :=
  [AOper.mk (some 12) (.mv (.tmp 4)) none [], AOper.mk (some 13) (.bin .lss (.tmp 12) (.const (.int .i64 0))) none [0]]
def l78r3 : List AOper :=
  [AOper.mk (some 14) (.mv (.tmp 3)) none [], AOper.mk (some 15) (.un .neg (.tmp 14)) none [0], AOper.mk (some 16) (.mv (.tmp 4)) none [], AOper.mk (some 17) (.un .neg (.tmp 16)) none [2], AOper.mk (some 3) (.mv (.tmp 15)) none [1, 0, 1], AOper.mk (some 4) (.mv (.tmp 17)) none [3, 4, 0, 1, 2, 3, 4]]
def l78r4 : List AOper :=
  [AOper.mk (some 18) (.mv (.tmp 3)) none [], AOper.mk (some 19) (.bin .leq (.tmp 18) (.const (.int .i64 0))) none [0]]
def l78r5 : List AOper :=
  [AOper.mk (some 2) (.mv (.const (.int .i64 0))) none []]
def l78r6 : List AOper :=
  [AOper.mk (some 20) (.mv (.tmp 3)) none [], AOper.mk (some 21) (.mv (.tmp 4)) none [], AOper.mk (some 22) (.bin .add (.tmp 20) (.tmp 21)) none [0, 1], AOper.mk (some 23) (.bin .sub (.tmp 22) (.const (.int .i64 1))) none [2], AOper.mk (some 24) (.mv (.tmp 4)) none [], AOper.mk (some 25) (.bin .quo (.tmp 23) (.tmp 24)) none [3, 4], AOper.mk (some 2) (.mv (.tmp 25)) none [5, 0, 1, 2, 3, 4, 5]]
def l78 : AFn :=
  (AFn.mk 26 1 (ACode.seq (ACode.reg l78r0) (ACode.seq (ACode.draw l78r1) (ACode.seq (ACode.seq (ACode.reg l78r2) (ACode.cond (.tmp 13) (ACode.reg l78r3) ACode.skip)) (ACode.seq (ACode.seq (ACode.reg l78r4) (ACode.cond (.tmp 19) (ACode.seq (ACode.reg l78r5) ACode.ret) ACode.skip)) (ACode.seq (ACode.reg l78r6) ACode.ret))))) [ARes.tmp 2])
theorem l78_eq : lowFn Tryd.prog 78 = some l78 := by kernel_rfl
def l79r0 : List AOper :=
  [AOper.mk (some 2) (.box (.tmp 0)) none [], AOper.mk (some 4) (.mv (.const (.int .i64 0))) none []]
def l79r1 : List AOper :=
  [AOper.mk (some 5) (.fld 0 (.tmp 2)) none [], AOper.mk (some 6) (.load false 1 (.tmp 5)) none [0], AOper.mk (some 7) (.mv (.tmp 1)) none [], AOper.mk (some 8) (.fld 2 (.tmp 2)) none [], AOper.mk (some 9) (.load false 1 (.tmp 8)) none [3], AOper.mk (some 10) (.bin .mul (.tmp 7) (.tmp 9)) none [2, 4], AOper.mk (some 11) (.bin .add (.tmp 6) (.tmp 10)) none [1, 5], AOper.mk (some 4) (.mv (.tmp 11)) none [6, 0, 1, 2, 3, 4, 5, 6]]
def l79 : AFn :=
  (AFn.mk 12 2 (ACode.seq (ACode.reg l79r0) (ACode.seq (ACode.reg l79r1) ACode.ret)) [ARes.tmp 4])
theorem l79_eq : lowFn Tryd.prog 79 = some l79 := by kernel_rfl
def l80r0 : List AOper :=
  [AOper.mk (some 2) (.mv (.const (.int .i64 0))) none []]
def l80r1 : List AOper :=
  [AOper.mk (some 3) (.mv (.const (.int .i64 1))) none []]
def l80r2 : List AOper :=
  [AOper.mk (some 4) (.mv (.const (.int .i64 0))) none []]
def l80r3 : List AOper :=
  [AOper.mk (some 5) (.mv (.tmp 4)) none [], AOper.mk (some 6) (.mv (.tmp 0)) none [], AOper.mk (some 7) (.bin .lss (.tmp 5) (.tmp 6)) none [0, 1]]
def l80r4 : List AOper :=
  [AOper.mk (some 10) (.mv (.tmp 3)) none [], AOper.mk (some 11) (.bin .mul (.tmp 10) (.const (.int .i64 256))) none [0], AOper.mk (some 3) (.mv (.tmp 11)) none [1, 0, 1]]
def l80r5 : List AOper :=
  [AOper.mk (some 8) (.mv (.tmp 4)) none [], AOper.mk (some 9) (.bin .add (.tmp 8) (.const (.int .i64 1))) none [0], AOper.mk (some 4) (.mv (.tmp 9)) none [1, 0, 1]]
def l80r6 : List AOper :=
  [AOper.mk (some 12) (.mv (.tmp 3)) none [], AOper.mk (some 2) (.mv (.tmp 12)) none [0, 0]]
def l80 : AFn :=
  (AFn.mk 13 1 (ACode.seq (ACode.reg l80r0) (ACode.seq (ACode.reg l80r1) (ACode.seq (ACode.seq (ACode.reg l80r2) (ACode.block 0 (ACode.loop (ACode.seq (ACode.seq (ACode.reg l80r3) (ACode.cond (.tmp 7) ACode.skip (ACode.exit 0))) (ACode.seq (ACode.block 1 (ACode.reg l80r4)) (ACode.reg l80r5)))))) (ACode.seq (ACode.reg l80r6) ACode.ret)))) [ARes.tmp 2])
theorem l80_eq : lowFn Tryd.prog 80 = some l80 := by kernel_rfl
def l81r0 : List AOper :=
  [AOper.mk (some 6) (.mv (.const (.slice none 0 0))) none []]
def l81r1 : List AOper :=
  [AOper.mk (some 9) (.bslice 1 [.int .i64 0] [] 0) none [], AOper.mk (some 7) (.mv (.tmp 9)) none [0, 0]]
def l81r2 : List AOper :=
  [AOper.mk (some 8) (.mv (.const (.int .i64 0))) none []]
def l81r3 : List AOper :=
  [AOper.mk (some 10) (.mv (.tmp 8)) none [], AOper.mk (some 11) (.mv (.tmp 1)) none [], AOper.mk (some 12) (.bin .lss (.tmp 10) (.tmp 11)) none [0, 1]]
def l81r4 : List AOper :=
  [AOper.mk (some 15) (.mv (.tmp 7)) none [], AOper.mk (some 16) (.mv (.tmp 0)) none [], AOper.mk (some 17) (.bin .rem (.tmp 16) (.const (.int .i64 256))) none [1], AOper.mk (some 18) (.bslice 1 [.int .i64 0] [(0, .tmp 17)] 1) none [2], AOper.mk (some 19) (.append 1 (.tmp 15) (.tmp 18)) none [0, 3], AOper.mk (some 7) (.mv (.tmp 19)) none [4, 4, 0, 1, 2, 3, 4]]
def l81r5 : List AOper :=
  [AOper.mk (some 20) (.mv (.tmp 0)) none [], AOper.mk (some 21) (.bin .quo (.tmp 20) (.const (.int .i64 256))) none [0], AOper.mk (some 0) (.mv (.tmp 21)) none [1, 0, 1]]
def l81r6 : List AOper :=
  [AOper.mk (some 13) (.mv (.tmp 8)) none [], AOper.mk (some 14) (.bin .add (.tmp 13) (.const (.int .i64 1))) none [0], AOper.mk (some 8) (.mv (.tmp 14)) none [1, 0, 1]]
def l81r7 : List AOper :=
  [AOper.mk (some 22) (.mv (.tmp 2)) none []]
def l81r8 : List AOper :=
  [AOper.mk (some 23) (.mv (.tmp 7)) none [], AOper.mk (some 24) (.call 97 [.tmp 23]) none [0], AOper.mk (some 6) (.mv (.tmp 24)) none [1, 1, 0, 1]]
def l81r9 : List AOper :=
  [AOper.mk (some 25) (.mv (.tmp 7)) none [], AOper.mk (some 6) (.mv (.tmp 25)) none [0, 0]]
def l81 : AFn :=
  (AFn.mk 26 3 (ACode.seq (ACode.reg l81r0) (ACode.seq (ACode.reg l81r1) (ACode.seq (ACode.seq (ACode.reg l81r2) (ACode.block 0 (ACode.loop (ACode.seq (ACode.seq (ACode.reg l81r3) (ACode.cond (.tmp 12) ACode.skip (ACode.exit 0))) (ACode.seq (ACode.block 1 (ACode.seq (ACode.reg l81r4) (ACode.reg l81r5))) (ACode.reg l81r6)))))) (ACode.seq (ACode.seq (ACode.reg l81r7) (ACode.cond (.tmp 22) (ACode.seq (ACode.reg l81r8) ACode.ret) ACode.skip)) (ACode.seq (ACode.reg l81r9) ACode.ret))))) [ARes.tmp 6])
theorem l81_eq : lowFn Tryd.prog 81 = some l81 := by kernel_rfl
def l82r0 : List AOper :=
  [AOper.mk (some 2) (.mv (.const (.int .i64 0))) none []]
def l82r1 : List AOper :=
  [AOper.mk (some 3) (.mv (.const (.int .i64 1))) none []]
def l82r2 : List AOper :=
  [AOper.mk (some 4) (.mv (.tmp 0)) none [], AOper.mk (some 5) (.mv (.const (.int .i64 0))) none []]
def l82r3 : List AOper :=
  [AOper.mk (some 6) (.bin .lss (.tmp 5) (.tmp 4)) none []]
def l82r4 : List AOper :=
  [AOper.mk (some 7) (.mv (.tmp 3)) none [], AOper.mk (some 8) (.bin .mul (.tmp 7) (.const (.int .i64 256))) none [0], AOper.mk (some 3) (.mv (.tmp 8)) none [1, 0, 1]]
def l82r5 : List AOper :=
  [AOper.mk (some 9) (.bin .add (.tmp 5) (.const (.int .i64 1))) none [], AOper.mk (some 5) (.mv (.tmp 9)) none [0]]
def l82r6 : List AOper :=
  [AOper.mk (some 10) (.mv (.tmp 3)) none [], AOper.mk (some 11) (.bin .sub (.tmp 10) (.const (.int .i64 1))) none [0], AOper.mk (some 2) (.mv (.tmp 11)) none [1, 0, 1]]
def l82 : AFn :=
  (AFn.mk 12 1 (ACode.seq (ACode.reg l82r0) (ACode.seq (ACode.reg l82r1) (ACode.seq (ACode.seq (ACode.reg l82r2) (ACode.block 0 (ACode.loop (ACode.seq (ACode.reg l82r3) (ACode.seq (ACode.cond (.tmp 6) ACode.skip (ACode.exit 0)) (ACode.seq (ACode.block 1 (ACode.reg l82r4)) (ACode.reg l82r5))))))) (ACode.seq (ACode.reg l82r6) ACode.ret)))) [ARes.tmp 2])
theorem l82_eq : lowFn Tryd.prog 82 = some l82 := by kernel_rfl
def l83r0 : List AOper :=
  [AOper.mk (some 4) (.box (.tmp 0)) none [], AOper.mk (some 6) (.box (.tmp 2)) none []]
def l83r1 : List AOper :=
  [AOper.mk (some 9) (.fld 1 (.tmp 6)) none [], AOper.mk (some 10) (.load false 1 (.tmp 9)) none [0], AOper.mk (some 11) (.mv (.const (.int .i64 0))) none []]
def l83r2 : List AOper :=
  [AOper.mk (some 12) (.bin .lss (.tmp 11) (.tmp 10)) none []]
def l83r3 : List AOper :=
  [AOper.mk (some 13) (.mv (.tmp 11)) none [], AOper.mk (some 8) (.mv (.tmp 13)) none [0, 0]]
def l83r4 : List AOper :=
  [AOper.mk (some 14) (.mv (.tmp 1)) none [], AOper.mk (some 15) (.load true 1 (.tmp 4)) none [], AOper.mk (some 16) (.load true 2 (.tmp 6)) none [], AOper.mk (some 17) (.mv (.tmp 8)) none [], AOper.mk (some 18) (.call 72 [.tmp 15, .tmp 16, .tmp 17]) none [1, 2, 3], AOper.mk (some 19) (.mv (.tmp 3)) none [], AOper.mk (some 20) (.bin .rem (.tmp 19) (.const (.int .i64 256))) none [5], AOper.mk (some 21) (.idxA 1 (.tmp 14) (.tmp 18)) none [0, 4, 0, 1, 2, 3, 4, 5, 6], AOper.mk none (.store 1 (.tmp 21) (.tmp 20)) none [7, 6, 4, 0, 1, 2, 3, 4, 5, 6]]
def l83r5 : List AOper :=
  [AOper.mk (some 22) (.mv (.tmp 3)) none [], AOper.mk (some 23) (.bin .quo (.tmp 22) (.const (.int .i64 256))) none [0], AOper.mk (some 3) (.mv (.tmp 23)) none [1, 0, 1]]
def l83r6 : List AOper :=
  [AOper.mk (some 24) (.bin .add (.tmp 11) (.const (.int .i64 1))) none [], AOper.mk (some 11) (.mv (.tmp 24)) none [0]]
def l83 : AFn :=
  (AFn.mk 25 4 (ACode.seq (ACode.reg l83r0) (ACode.seq (ACode.reg l83r1) (ACode.block 0 (ACode.loop (ACode.seq (ACode.reg l83r2) (ACode.seq (ACode.cond (.tmp 12) ACode.skip (ACode.exit 0)) (ACode.seq (ACode.block 1 (ACode.seq (ACode.reg l83r3) (ACode.seq (ACode.reg l83r4) (ACode.reg l83r5)))) (ACode.reg l83r6)))))))) [])
theorem l83_eq : lowFn Tryd.prog 83 = some l83 := by kernel_rfl
def l84r0 : List AOper :=
  [AOper.mk (some 4) (.mv (.const (.int .i64 0))) none []]
def l84r1 : List AOper :=
  [AOper.mk (some 7) (.mv (.tmp 1)) none [], AOper.mk (some 8) (.un .not (.tmp 7)) none [0]]
def l84r2 : List AOper :=
  [AOper.mk (some 9) (.mv (.tmp 0)) none [], AOper.mk (some 10) (.call 97 [.tmp 9]) none [0], AOper.mk (some 0) (.mv (.tmp 10)) none [1, 1, 0, 1]]
def l84r3 : List AOper :=
  [AOper.mk (some 5) (.mv (.const (.int .i64 0))) none []]
def l84r4 : List AOper :=
  [AOper.mk (some 6) (.mv (.const (.int .i64 0))) none []]
def l84r5 : List AOper :=
  [AOper.mk (some 11) (.mv (.tmp 6)) none [], AOper.mk (some 12) (.mv (.tmp 0)) none [], AOper.mk (some 13) (.len (.tmp 12)) none [1], AOper.mk (some 14) (.bin .lss (.tmp 11) (.tmp 13)) none [0, 2]]
def l84r6 : List AOper :=
  [AOper.mk (some 17) (.mv (.tmp 5)) none [], AOper.mk (some 18) (.bin .mul (.const (.int .i64 256)) (.tmp 17)) none [0], AOper.mk (some 19) (.mv (.tmp 0)) none [], AOper.mk (some 20) (.mv (.tmp 6)) none [], AOper.mk (some 21) (.idxA 1 (.tmp 19) (.tmp 20)) none [2, 3], AOper.mk (some 22) (.load false 1 (.tmp 21)) none [4], AOper.mk (some 23) (.bin .add (.tmp 18) (.tmp 22)) none [1, 5], AOper.mk (some 5) (.mv (.tmp 23)) none [6, 0, 1, 2, 3, 4, 5, 6]]
def l84r7 : List AOper :=
  [AOper.mk (some 15) (.mv (.tmp 6)) none [], AOper.mk (some 16) (.bin .add (.tmp 15) (.const (.int .i64 1))) none [0], AOper.mk (some 6) (.mv (.tmp 16)) none [1, 0, 1]]
def l84r8 : List AOper :=
  [AOper.mk (some 24) (.mv (.tmp 5)) none [], AOper.mk (some 4) (.mv (.tmp 24)) none [0, 0]]
def l84 : AFn :=
  (AFn.mk 25 2 (ACode.seq (ACode.reg l84r0) (ACode.seq (ACode.seq (ACode.reg l84r1) (ACode.cond (.tmp 8) (ACode.reg l84r2) ACode.skip)) (ACode.seq (ACode.reg l84r3) (ACode.seq (ACode.seq (ACode.reg l84r4) (ACode.block 0 (ACode.loop (ACode.seq (ACode.seq (ACode.reg l84r5) (ACode.cond (.tmp 14) ACode.skip (ACode.exit 0))) (ACode.seq (ACode.block 1 (ACode.reg l84r6)) (ACode.reg l84r7)))))) (ACode.seq (ACode.reg l84r8) ACode.ret))))) [ARes.tmp 4])
theorem l84_eq : lowFn Tryd.prog 84 = some l84 := by kernel_rfl
def l85r0 : List AOper :=
  [AOper.mk (some 3) (.box (.tmp 0)) none [], AOper.mk (some 5) (.box (.tmp 2)) none [], AOper.mk (some 6) (.mv (.const (.int .i64 0))) none []]
def l85r1 : List AOper :=
  [AOper.mk (some 7) (.mv (.const (.int .i64 0))) none []]
def l85r2 : List AOper :=
  [AOper.mk (some 9) (.fld 1 (.tmp 5)) none [], AOper.mk (some 10) (.load false 1 (.tmp 9)) none [0], AOper.mk (some 11) (.bin .sub (.tmp 10) (.const (.int .i64 1))) none [1], AOper.mk (some 8) (.mv (.tmp 11)) none [2, 0, 1, 2]]
def l85r3 : List AOper :=
  [AOper.mk (some 12) (.mv (.tmp 8)) none [], AOper.mk (some 13) (.bin .geq (.tmp 12) (.const (.int .i64 0))) none [0]]
def l85r4 : List AOper :=
  [AOper.mk (some 16) (.mv (.tmp 7)) none [], AOper.mk (some 17) (.bin .mul (.tmp 16) (.const (.int .i64 256))) none [0], AOper.mk (some 18) (.mv (.tmp 1)) none [], AOper.mk (some 19) (.load true 1 (.tmp 3)) none [], AOper.mk (some 20) (.load true 2 (.tmp 5)) none [], AOper.mk (some 21) (.mv (.tmp 8)) none [], AOper.mk (some 22) (.call 72 [.tmp 19, .tmp 20, .tmp 21]) none [3, 4, 5], AOper.mk (some 23) (.idxA 1 (.tmp 18) (.tmp 22)) none [2, 6], AOper.mk (some 24) (.load false 1 (.tmp 23)) none [7], AOper.mk (some 25) (.bin .add (.tmp 17) (.tmp 24)) none [1, 8], AOper.mk (some 7) (.mv (.tmp 25)) none [9, 6, 0, 1, 2, 3, 4, 5, 6, 7, 8, 9]]
def l85r5 : List AOper :=
  [AOper.mk (some 14) (.mv (.tmp 8)) none [], AOper.mk (some 15) (.bin .sub (.tmp 14) (.const (.int .i64 1))) none [0], AOper.mk (some 8) (.mv (.tmp 15)) none [1, 0, 1]]
def l85r6 : List AOper :=
  [AOper.mk (some 26) (.mv (.tmp 7)) none [], AOper.mk (some 6) (.mv (.tmp 26)) none [0, 0]]
def l85 : AFn :=
  (AFn.mk 27 3 (ACode.seq (ACode.reg l85r0) (ACode.seq (ACode.reg l85r1) (ACode.seq (ACode.seq (ACode.reg l85r2) (ACode.block 0 (ACode.loop (ACode.seq (ACode.seq (ACode.reg l85r3) (ACode.cond (.tmp 13) ACode.skip (ACode.exit 0))) (ACode.seq (ACode.block 1 (ACode.reg l85r4)) (ACode.reg l85r5)))))) (ACode.seq (ACode.reg l85r6) ACode.ret)))) [ARes.tmp 6])
theorem l85_eq : lowFn Tryd.prog 85 = some l85 := by kernel_rfl
def l97r0 : List AOper :=
  [AOper.mk (some 2) (.mv (.const (.slice none 0 0))) none []]
def l97r1 : List AOper :=
  [AOper.mk (some 5) (.bslice 1 [.int .i64 0] [] 0) none [], AOper.mk (some 3) (.mv (.tmp 5)) none [0, 0]]
def l97r2 : List AOper :=
  [AOper.mk (some 6) (.mv (.tmp 0)) none [], AOper.mk (some 7) (.len (.tmp 6)) none [0], AOper.mk (some 8) (.bin .sub (.tmp 7) (.const (.int .i64 1))) none [1], AOper.mk (some 4) (.mv (.tmp 8)) none [2, 0, 1, 2]]
def l97r3 : List AOper :=
  [AOper.mk (some 9) (.mv (.tmp 4)) none [], AOper.mk (some 10) (.bin .geq (.tmp 9) (.const (.int .i64 0))) none [0]]
def l97r4 : List AOper :=
  [AOper.mk (some 13) (.mv (.tmp 3)) none [], AOper.mk (some 14) (.mv (.tmp 0)) none [], AOper.mk (some 15) (.mv (.tmp 4)) none [], AOper.mk (some 16) (.idxA 1 (.tmp 14) (.tmp 15)) none [1, 2], AOper.mk (some 17) (.load false 1 (.tmp 16)) none [3], AOper.mk (some 18) (.bslice 1 [.int .i64 0] [(0, .tmp 17)] 1) none [4], AOper.mk (some 19) (.append 1 (.tmp 13) (.tmp 18)) none [0, 5], AOper.mk (some 3) (.mv (.tmp 19)) none [6, 6, 0, 1, 2, 3, 4, 5, 6]]
def l97r5 : List AOper :=
  [AOper.mk (some 11) (.mv (.tmp 4)) none [], AOper.mk (some 12) (.bin .sub (.tmp 11) (.const (.int .i64 1))) none [0], AOper.mk (some 4) (.mv (.tmp 12)) none [1, 0, 1]]
def l97r6 : List AOper :=
  [AOper.mk (some 20) (.mv (.tmp 3)) none [], AOper.mk (some 2) (.mv (.tmp 20)) none [0, 0]]
def l97 : AFn :=
  (AFn.mk 21 1 (ACode.seq (ACode.reg l97r0) (ACode.seq (ACode.reg l97r1) (ACode.seq (ACode.seq (ACode.reg l97r2) (ACode.block 0 (ACode.loop (ACode.seq (ACode.seq (ACode.reg l97r3) (ACode.cond (.tmp 10) ACode.skip (ACode.exit 0))) (ACode.seq (ACode.block 1 (ACode.reg l97r4)) (ACode.reg l97r5)))))) (ACode.seq (ACode.reg l97r6) ACode.ret)))) [ARes.tmp 2])
theorem l97_eq : lowFn Tryd.prog 97 = some l97 := by kernel_rfl
end Go.Proofs.YtekojnkaikbeaaaDoor
