import Derived.Test.YtbhkcmiphmaefaaCW3
import Derived.Test.YtbhkcmiphmaefaaProg
import Derived.KernelRfl
set_option maxRecDepth 100000
namespace Go.Proofs.Ytbhkcmiphmaefaa
open Vw Go
def l8r0 : List AOper :=
  [AOper.mk (some 1) (.box (.tmp 0)) none [], AOper.mk (some 2) (.mv (.const (.bool false))) none []]
def l8r1 : List AOper :=
  [AOper.mk (some 3) (.mv (.const (.int .i64 1048576))) none []]
def l8r2 : List AOper :=
  [AOper.mk (some 11) (.load true 3 (.tmp 1)) none [], AOper.mk (some 12) (.mv (.tmp 3)) none [], AOper.mk (some 13) (.call 9 [.tmp 11, .tmp 12]) none [0, 1], AOper.mk (some 3) (.mv (.tmp 13)) none [2, 2, 0, 1, 2]]
def l8r3 : List AOper :=
  [AOper.mk (some 14) (.mv (.tmp 3)) none [], AOper.mk (some 15) (.bin .lss (.tmp 14) (.const (.int .i64 0))) none [0]]
def l8r4 : List AOper :=
  [AOper.mk (some 2) (.mv (.const (.bool true))) none []]
def l8r5 : List AOper :=
  [AOper.mk (some 16) (.load true 3 (.tmp 1)) none [], AOper.mk (some 17) (.call 11 [.tmp 16]) none [0], AOper.mk (some 18) (.call 28 [.tmp 17]) none [1, 1], AOper.mk (some 4) (.alloc [.int .i64 0, .slice none 0 0, .slice none 0 0]) none [], AOper.mk none (.store 3 (.tmp 4) (.tmp 18)) none [3, 2, 2, 0, 1, 2, 3]]
def l8r6 : List AOper :=
  [AOper.mk (some 19) (.load true 3 (.tmp 1)) none [], AOper.mk (some 20) (.call 11 [.tmp 19]) none [0], AOper.mk (some 5) (.alloc [.int .i64 0, .slice none 0 0, .slice none 0 0]) none [], AOper.mk none (.store 3 (.tmp 5) (.tmp 20)) none [2, 1, 1, 0, 1, 2]]
def l8r7 : List AOper :=
  [AOper.mk (some 21) (.load true 3 (.tmp 5)) none [], AOper.mk (some 22) (.call 29 [.tmp 21]) none [0], AOper.mk (some 6) (.alloc [.int .i64 0, .slice none 0 0, .slice none 0 0]) none [], AOper.mk none (.store 3 (.tmp 6) (.tmp 22)) none [2, 1, 1, 0, 1, 2]]
def l8r8 : List AOper :=
  [AOper.mk (some 23) (.load true 3 (.tmp 6)) none [], AOper.mk (some 24) (.load true 3 (.tmp 4)) none [], AOper.mk (some 25) (.call 13 [.tmp 23, .tmp 24]) none [0, 1], AOper.mk (some 26) (.un .not (.tmp 25)) none [2]]
def l8r9 : List AOper :=
  [AOper.mk (some 2) (.mv (.const (.bool false))) none []]
def l8r10a : List AOper :=
  [AOper.mk (some 27) (.load true 3 (.tmp 5)) none [], AOper.mk (some 28) (.load true 3 (.tmp 1)) none [], AOper.mk (some 29) (.call 11 [.tmp 28]) none [1]]
def l8r10b : List AOper :=
  [AOper.mk (some 30) (.call 13 [.tmp 27, .tmp 29]) none [0, 2, 2], AOper.mk (some 31) (.un .not (.tmp 30)) none [3]]
def l8r10 : List AOper := l8r10a ++ l8r10b
def l8r11 : List AOper :=
  [AOper.mk (some 2) (.mv (.const (.bool false))) none []]
def l8r12 : List AOper :=
  [AOper.mk (some 7) (.mv (.const (.int .i64 1))) none []]
def l8r13 : List AOper :=
  [AOper.mk (some 32) (.load true 3 (.tmp 5)) none [], AOper.mk (some 33) (.mv (.tmp 7)) none [], AOper.mk (some 34) (.call 14 [.tmp 32, .tmp 33]) none [0, 1], AOper.mk (some 7) (.mv (.tmp 34)) none [2, 2, 0, 1, 2]]
def l8r14 : List AOper :=
  [AOper.mk (some 35) (.mv (.tmp 7)) none [], AOper.mk (some 36) (.bin .lss (.tmp 35) (.const (.int .i64 0))) none [0], AOper.mk (some 37) (.mv (.tmp 36)) none [1], AOper.mk (some 38) (.load true 3 (.tmp 6)) (some (37, false)) [2], AOper.mk (some 39) (.load true 3 (.tmp 4)) (some (37, false)) [2], AOper.mk (some 40) (.call 13 [.tmp 38, .tmp 39]) (some (37, false)) [3, 4, 2, 2], AOper.mk (some 41) (.un .not (.tmp 40)) (some (37, false)) [5, 2], AOper.mk (some 42) (.pick (.tmp 37) (.const (.bool true)) (.tmp 41)) none [2, 6]]
def l8r15 : List AOper :=
  [AOper.mk (some 2) (.mv (.const (.bool false))) none []]
def l8r16 : List AOper :=
  [AOper.mk (some 8) (.mv (.const (.int .i64 1))) none []]
def l8r17 : List AOper :=
  [AOper.mk (some 43) (.load true 3 (.tmp 6)) none [], AOper.mk (some 44) (.mv (.tmp 8)) none [], AOper.mk (some 45) (.call 14 [.tmp 43, .tmp 44]) none [0, 1], AOper.mk (some 8) (.mv (.tmp 45)) none [2, 2, 0, 1, 2]]
def l8r18 : List AOper :=
  [AOper.mk (some 9) (.mv (.const (.int .i64 1))) none []]
def l8r19 : List AOper :=
  [AOper.mk (some 46) (.load true 3 (.tmp 6)) none [], AOper.mk (some 47) (.mv (.tmp 9)) none [], AOper.mk (some 48) (.call 15 [.tmp 46, .tmp 47]) none [0, 1], AOper.mk (some 9) (.mv (.tmp 48)) none [2, 2, 0, 1, 2]]
def l8r20 : List AOper :=
  [AOper.mk (some 49) (.mv (.tmp 9)) none [], AOper.mk (some 50) (.bin .lss (.tmp 49) (.const (.int .i64 0))) none [0]]
def l8r21 : List AOper :=
  [AOper.mk (some 2) (.mv (.const (.bool false))) none []]
def l8r22 : List AOper :=
  [AOper.mk (some 51) (.mv (.tmp 9)) none [], AOper.mk (some 52) (.mv (.tmp 8)) none [], AOper.mk (some 53) (.bin .neq (.tmp 51) (.tmp 52)) none [0, 1]]
def l8r23 : List AOper :=
  [AOper.mk (some 2) (.mv (.const (.bool false))) none []]
def l8r24 : List AOper :=
  [AOper.mk (some 54) (.load true 3 (.tmp 1)) none [], AOper.mk (some 55) (.call 11 [.tmp 54]) none [0], AOper.mk (some 56) (.call 29 [.tmp 55]) none [1, 1], AOper.mk (some 10) (.alloc [.int .i64 0, .slice none 0 0, .slice none 0 0]) none [], AOper.mk none (.store 3 (.tmp 10) (.tmp 56)) none [3, 2, 2, 0, 1, 2, 3]]
def l8r25 : List AOper :=
  [AOper.mk (some 57) (.load true 3 (.tmp 10)) none [], AOper.mk (some 58) (.load true 3 (.tmp 4)) none [], AOper.mk (some 59) (.call 13 [.tmp 57, .tmp 58]) none [0, 1], AOper.mk (some 60) (.un .not (.tmp 59)) none [2]]
def l8r26 : List AOper :=
  [AOper.mk (some 2) (.mv (.const (.bool false))) none []]
def l8r27 : List AOper :=
  [AOper.mk (some 9) (.mv (.const (.int .i64 1))) none []]
def l8r28 : List AOper :=
  [AOper.mk (some 61) (.load true 3 (.tmp 6)) none [], AOper.mk (some 62) (.mv (.tmp 9)) none [], AOper.mk (some 63) (.call 15 [.tmp 61, .tmp 62]) none [0, 1], AOper.mk (some 9) (.mv (.tmp 63)) none [2, 2, 0, 1, 2]]
def l8r29 : List AOper :=
  [AOper.mk (some 64) (.mv (.tmp 9)) none [], AOper.mk (some 65) (.bin .lss (.tmp 64) (.const (.int .i64 0))) none [0]]
def l8r30 : List AOper :=
  [AOper.mk (some 2) (.mv (.const (.bool false))) none []]
def l8r31 : List AOper :=
  [AOper.mk (some 66) (.mv (.tmp 9)) none [], AOper.mk (some 67) (.mv (.tmp 8)) none [], AOper.mk (some 68) (.bin .neq (.tmp 66) (.tmp 67)) none [0, 1]]
def l8r32 : List AOper :=
  [AOper.mk (some 2) (.mv (.const (.bool false))) none []]
def l8r33 : List AOper :=
  [AOper.mk (some 2) (.mv (.const (.bool true))) none []]
def l8 : AFn :=
  (AFn.mk 69 1 (ACode.seq (ACode.reg l8r0) (ACode.seq (ACode.reg l8r1) (ACode.seq (ACode.reg l8r2) (ACode.seq (ACode.seq (ACode.reg l8r3) (ACode.cond (.tmp 15) (ACode.seq (ACode.reg l8r4) ACode.ret) ACode.skip)) (ACode.seq (ACode.reg l8r5) (ACode.seq (ACode.reg l8r6) (ACode.seq (ACode.reg l8r7) (ACode.seq (ACode.seq (ACode.reg l8r8) (ACode.cond (.tmp 26) (ACode.seq (ACode.reg l8r9) ACode.ret) ACode.skip)) (ACode.seq (ACode.seq (ACode.draw l8r10) (ACode.cond (.tmp 31) (ACode.seq (ACode.reg l8r11) ACode.ret) ACode.skip)) (ACode.seq (ACode.reg l8r12) (ACode.seq (ACode.reg l8r13) (ACode.seq (ACode.seq (ACode.reg l8r14) (ACode.cond (.tmp 42) (ACode.seq (ACode.reg l8r15) ACode.ret) ACode.skip)) (ACode.seq (ACode.reg l8r16) (ACode.seq (ACode.reg l8r17) (ACode.seq (ACode.reg l8r18) (ACode.seq (ACode.reg l8r19) (ACode.seq (ACode.seq (ACode.reg l8r20) (ACode.cond (.tmp 50) (ACode.seq (ACode.reg l8r21) ACode.ret) ACode.skip)) (ACode.seq (ACode.seq (ACode.reg l8r22) (ACode.cond (.tmp 53) (ACode.seq (ACode.reg l8r23) ACode.ret) ACode.skip)) (ACode.seq (ACode.reg l8r24) (ACode.seq (ACode.seq (ACode.reg l8r25) (ACode.cond (.tmp 60) (ACode.seq (ACode.reg l8r26) ACode.ret) ACode.skip)) (ACode.seq (ACode.reg l8r27) (ACode.seq (ACode.reg l8r28) (ACode.seq (ACode.seq (ACode.reg l8r29) (ACode.cond (.tmp 65) (ACode.seq (ACode.reg l8r30) ACode.ret) ACode.skip)) (ACode.seq (ACode.seq (ACode.reg l8r31) (ACode.cond (.tmp 68) (ACode.seq (ACode.reg l8r32) ACode.ret) ACode.skip)) (ACode.seq (ACode.reg l8r33) ACode.ret))))))))))))))))))))))))) [ARes.tmp 2])
theorem l8_eq : lowFn Try.prog 8 = some l8 := by kernel_rfl
def l9r0 : List AOper :=
  [AOper.mk (some 2) (.box (.tmp 0)) none [], AOper.mk (some 4) (.mv (.const (.int .i64 0))) none []]
def l9r1 : List AOper :=
  [AOper.mk (some 5) (.fld 1 (.tmp 2)) none [], AOper.mk (some 6) (.load false 1 (.tmp 5)) none [0], AOper.mk (some 7) (.mv (.tmp 1)) none [], AOper.mk (some 8) (.call 30 [.tmp 6, .tmp 7]) none [1, 2], AOper.mk (some 1) (.mv (.tmp 8)) none [3, 3, 0, 1, 2, 3]]
def l9r2 : List AOper :=
  [AOper.mk (some 9) (.mv (.tmp 1)) none [], AOper.mk (some 10) (.bin .lss (.tmp 9) (.const (.int .i64 0))) none [0]]
def l9r3 : List AOper :=
  [AOper.mk (some 4) (.mv (.const (.int .i64 (-1)))) none []]
def l9r4 : List AOper :=
  [AOper.mk (some 11) (.fld 2 (.tmp 2)) none [], AOper.mk (some 12) (.load false 1 (.tmp 11)) none [0], AOper.mk (some 13) (.mv (.tmp 1)) none [], AOper.mk (some 14) (.call 30 [.tmp 12, .tmp 13]) none [1, 2], AOper.mk (some 1) (.mv (.tmp 14)) none [3, 3, 0, 1, 2, 3]]
def l9r5 : List AOper :=
  [AOper.mk (some 15) (.mv (.tmp 1)) none [], AOper.mk (some 16) (.bin .lss (.tmp 15) (.const (.int .i64 0))) none [0]]
def l9r6 : List AOper :=
  [AOper.mk (some 4) (.mv (.const (.int .i64 (-1)))) none []]
def l9r7 : List AOper :=
  [AOper.mk (some 17) (.mv (.tmp 1)) none [], AOper.mk (some 4) (.mv (.tmp 17)) none [0, 0]]
def l9 : AFn :=
  (AFn.mk 18 2 (ACode.seq (ACode.reg l9r0) (ACode.seq (ACode.reg l9r1) (ACode.seq (ACode.seq (ACode.reg l9r2) (ACode.cond (.tmp 10) (ACode.seq (ACode.reg l9r3) ACode.ret) ACode.skip)) (ACode.seq (ACode.reg l9r4) (ACode.seq (ACode.seq (ACode.reg l9r5) (ACode.cond (.tmp 16) (ACode.seq (ACode.reg l9r6) ACode.ret) ACode.skip)) (ACode.seq (ACode.reg l9r7) ACode.ret)))))) [ARes.tmp 4])
theorem l9_eq : lowFn Try.prog 9 = some l9 := by kernel_rfl
def l11r0 : List AOper :=
  [AOper.mk (some 1) (.box (.tmp 0)) none [], AOper.mk (some 2) (.alloc [.int .i64 0, .slice none 0 0, .slice none 0 0]) none []]
def l11r1 : List AOper :=
  [AOper.mk (some 3) (.alloc [.int .i64 0, .slice none 0 0, .slice none 0 0]) none []]
def l11r2 : List AOper :=
  [AOper.mk (some 4) (.fld 0 (.tmp 1)) none [], AOper.mk (some 5) (.load false 1 (.tmp 4)) none [0], AOper.mk (some 6) (.fld 0 (.tmp 3)) none [0, 1], AOper.mk none (.store 1 (.tmp 6) (.tmp 5)) none [2, 1, 0, 1]]
def l11r3 : List AOper :=
  [AOper.mk (some 7) (.fld 1 (.tmp 1)) none [], AOper.mk (some 8) (.load false 1 (.tmp 7)) none [0], AOper.mk (some 9) (.call 17 [.tmp 8]) none [1], AOper.mk (some 10) (.fld 1 (.tmp 3)) none [0, 1, 2], AOper.mk none (.store 1 (.tmp 10) (.tmp 9)) none [3, 2, 2, 0, 1, 2]]
def l11r4 : List AOper :=
  [AOper.mk (some 11) (.fld 2 (.tmp 1)) none [], AOper.mk (some 12) (.load false 1 (.tmp 11)) none [0], AOper.mk (some 13) (.call 17 [.tmp 12]) none [1], AOper.mk (some 14) (.fld 2 (.tmp 3)) none [0, 1, 2], AOper.mk none (.store 1 (.tmp 14) (.tmp 13)) none [3, 2, 2, 0, 1, 2]]
def l11r5 : List AOper :=
  [AOper.mk (some 15) (.load true 3 (.tmp 3)) none [], AOper.mk none (.store 3 (.tmp 2) (.tmp 15)) none [0, 0]]
def l11 : AFn :=
  (AFn.mk 16 1 (ACode.seq (ACode.reg l11r0) (ACode.seq (ACode.reg l11r1) (ACode.seq (ACode.reg l11r2) (ACode.seq (ACode.reg l11r3) (ACode.seq (ACode.reg l11r4) (ACode.seq (ACode.reg l11r5) ACode.ret)))))) [ARes.cell 2 true 3])
theorem l11_eq : lowFn Try.prog 11 = some l11 := by kernel_rfl
def l13r0 : List AOper :=
  [AOper.mk (some 2) (.box (.tmp 0)) none [], AOper.mk (some 3) (.box (.tmp 1)) none [], AOper.mk (some 4) (.mv (.const (.bool false))) none []]
def l13r1 : List AOper :=
  [AOper.mk (some 5) (.fld 0 (.tmp 2)) none [], AOper.mk (some 6) (.load false 1 (.tmp 5)) none [0], AOper.mk (some 7) (.fld 0 (.tmp 3)) none [], AOper.mk (some 8) (.load false 1 (.tmp 7)) none [2], AOper.mk (some 9) (.bin .neq (.tmp 6) (.tmp 8)) none [1, 3]]
def l13r2 : List AOper :=
  [AOper.mk (some 4) (.mv (.const (.bool false))) none []]
def l13r3 : List AOper :=
  [AOper.mk (some 10) (.fld 1 (.tmp 2)) none [], AOper.mk (some 11) (.load false 1 (.tmp 10)) none [0], AOper.mk (some 12) (.fld 1 (.tmp 3)) none [], AOper.mk (some 13) (.load false 1 (.tmp 12)) none [2], AOper.mk (some 14) (.call 19 [.tmp 11, .tmp 13]) none [1, 3], AOper.mk (some 15) (.un .not (.tmp 14)) none [4]]
def l13r4 : List AOper :=
  [AOper.mk (some 4) (.mv (.const (.bool false))) none []]
def l13r5 : List AOper :=
  [AOper.mk (some 16) (.fld 2 (.tmp 2)) none [], AOper.mk (some 17) (.load false 1 (.tmp 16)) none [0], AOper.mk (some 18) (.fld 2 (.tmp 3)) none [], AOper.mk (some 19) (.load false 1 (.tmp 18)) none [2], AOper.mk (some 20) (.call 19 [.tmp 17, .tmp 19]) none [1, 3], AOper.mk (some 21) (.un .not (.tmp 20)) none [4]]
def l13r6 : List AOper :=
  [AOper.mk (some 4) (.mv (.const (.bool false))) none []]
def l13r7 : List AOper :=
  [AOper.mk (some 4) (.mv (.const (.bool true))) none []]
def l13 : AFn :=
  (AFn.mk 22 2 (ACode.seq (ACode.reg l13r0) (ACode.seq (ACode.seq (ACode.reg l13r1) (ACode.cond (.tmp 9) (ACode.seq (ACode.reg l13r2) ACode.ret) ACode.skip)) (ACode.seq (ACode.seq (ACode.reg l13r3) (ACode.cond (.tmp 15) (ACode.seq (ACode.reg l13r4) ACode.ret) ACode.skip)) (ACode.seq (ACode.seq (ACode.reg l13r5) (ACode.cond (.tmp 21) (ACode.seq (ACode.reg l13r6) ACode.ret) ACode.skip)) (ACode.seq (ACode.reg l13r7) ACode.ret))))) [ARes.tmp 4])
theorem l13_eq : lowFn Try.prog 13 = some l13 := by kernel_rfl
def l14r0 : List AOper :=
  [AOper.mk (some 2) (.box (.tmp 0)) none [], AOper.mk (some 4) (.mv (.const (.int .i64 0))) none []]
def l14r1 : List AOper :=
  [AOper.mk (some 5) (.fld 1 (.tmp 2)) none [], AOper.mk (some 6) (.load false 1 (.tmp 5)) none [0], AOper.mk (some 7) (.mv (.tmp 1)) none [], AOper.mk (some 8) (.call 20 [.tmp 6, .tmp 7]) none [1, 2], AOper.mk (some 1) (.mv (.tmp 8)) none [3, 3, 0, 1, 2, 3]]
def l14r2 : List AOper :=
  [AOper.mk (some 9) (.fld 2 (.tmp 2)) none [], AOper.mk (some 10) (.load false 1 (.tmp 9)) none [0], AOper.mk (some 11) (.mv (.tmp 1)) none [], AOper.mk (some 12) (.call 20 [.tmp 10, .tmp 11]) none [1, 2], AOper.mk (some 1) (.mv (.tmp 12)) none [3, 3, 0, 1, 2, 3]]
def l14r3 : List AOper :=
  [AOper.mk (some 13) (.mv (.tmp 1)) none [], AOper.mk (some 4) (.mv (.tmp 13)) none [0, 0]]
def l14 : AFn :=
  (AFn.mk 14 2 (ACode.seq (ACode.reg l14r0) (ACode.seq (ACode.reg l14r1) (ACode.seq (ACode.reg l14r2) (ACode.seq (ACode.reg l14r3) ACode.ret)))) [ARes.tmp 4])
theorem l14_eq : lowFn Try.prog 14 = some l14 := by kernel_rfl
def l15r0 : List AOper :=
  [AOper.mk (some 2) (.box (.tmp 0)) none [], AOper.mk (some 4) (.mv (.const (.int .i64 0))) none []]
def l15r1 : List AOper :=
  [AOper.mk (some 5) (.fld 1 (.tmp 2)) none [], AOper.mk (some 6) (.load false 1 (.tmp 5)) none [0], AOper.mk (some 7) (.mv (.tmp 1)) none [], AOper.mk (some 8) (.call 21 [.tmp 6, .tmp 7]) none [1, 2], AOper.mk (some 1) (.mv (.tmp 8)) none [3, 3, 0, 1, 2, 3]]
def l15r2 : List AOper :=
  [AOper.mk (some 9) (.mv (.tmp 1)) none [], AOper.mk (some 10) (.bin .lss (.tmp 9) (.const (.int .i64 0))) none [0]]
def l15r3 : List AOper :=
  [AOper.mk (some 4) (.mv (.const (.int .i64 (-1)))) none []]
def l15r4 : List AOper :=
  [AOper.mk (some 11) (.fld 2 (.tmp 2)) none [], AOper.mk (some 12) (.load false 1 (.tmp 11)) none [0], AOper.mk (some 13) (.mv (.tmp 1)) none [], AOper.mk (some 14) (.call 21 [.tmp 12, .tmp 13]) none [1, 2], AOper.mk (some 1) (.mv (.tmp 14)) none [3, 3, 0, 1, 2, 3]]
def l15r5 : List AOper :=
  [AOper.mk (some 15) (.mv (.tmp 1)) none [], AOper.mk (some 16) (.bin .lss (.tmp 15) (.const (.int .i64 0))) none [0]]
def l15r6 : List AOper :=
  [AOper.mk (some 4) (.mv (.const (.int .i64 (-1)))) none []]
def l15r7 : List AOper :=
  [AOper.mk (some 17) (.mv (.tmp 1)) none [], AOper.mk (some 4) (.mv (.tmp 17)) none [0, 0]]
def l15 : AFn :=
  (AFn.mk 18 2 (ACode.seq (ACode.reg l15r0) (ACode.seq (ACode.reg l15r1) (ACode.seq (ACode.seq (ACode.reg l15r2) (ACode.cond (.tmp 10) (ACode.seq (ACode.reg l15r3) ACode.ret) ACode.skip)) (ACode.seq (ACode.reg l15r4) (ACode.seq (ACode.seq (ACode.reg l15r5) (ACode.cond (.tmp 16) (ACode.seq (ACode.reg l15r6) ACode.ret) ACode.skip)) (ACode.seq (ACode.reg l15r7) ACode.ret)))))) [ARes.tmp 4])
theorem l15_eq : lowFn Try.prog 15 = some l15 := by kernel_rfl
def l17r0 : List AOper :=
  [AOper.mk (some 2) (.mv (.const (.slice none 0 0))) none []]
def l17r1 : List AOper :=
  [AOper.mk (some 5) (.mv (.tmp 0)) none [], AOper.mk (some 6) (.len (.tmp 5)) none [0], AOper.mk (some 7) (.mkslice 1 [.int .i64 0] (.tmp 6) (.tmp 6)) none [1, 1], AOper.mk (some 3) (.mv (.tmp 7)) none [2, 0, 1, 2]]
def l17r2 : List AOper :=
  [AOper.mk (some 4) (.mv (.const (.int .i64 0))) none []]
def l17r3 : List AOper :=
  [AOper.mk (some 8) (.mv (.tmp 4)) none [], AOper.mk (some 9) (.mv (.tmp 0)) none [], AOper.mk (some 10) (.len (.tmp 9)) none [1], AOper.mk (some 11) (.bin .lss (.tmp 8) (.tmp 10)) none [0, 2]]
def l17r4 : List AOper :=
  [AOper.mk (some 14) (.mv (.tmp 3)) none [], AOper.mk (some 15) (.mv (.tmp 4)) none [], AOper.mk (some 16) (.mv (.tmp 0)) none [], AOper.mk (some 17) (.mv (.tmp 4)) none [], AOper.mk (some 18) (.idxA 1 (.tmp 16) (.tmp 17)) none [2, 3], AOper.mk (some 19) (.load false 1 (.tmp 18)) none [4], AOper.mk (some 20) (.idxA 1 (.tmp 14) (.tmp 15)) none [0, 1, 0, 1, 2, 3, 4, 5], AOper.mk none (.store 1 (.tmp 20) (.tmp 19)) none [6, 5, 0, 1, 2, 3, 4, 5]]
def l17r5 : List AOper :=
  [AOper.mk (some 12) (.mv (.tmp 4)) none [], AOper.mk (some 13) (.bin .add (.tmp 12) (.const (.int .i64 1))) none [0], AOper.mk (some 4) (.mv (.tmp 13)) none [1, 0, 1]]
def l17r6 : List AOper :=
  [AOper.mk (some 21) (.mv (.tmp 3)) none [], AOper.mk (some 2) (.mv (.tmp 21)) none [0, 0]]
def l17 : AFn :=
  (AFn.mk 22 1 (ACode.seq (ACode.reg l17r0) (ACode.seq (ACode.reg l17r1) (ACode.seq (ACode.seq (ACode.reg l17r2) (ACode.block 0 (ACode.loop (ACode.seq (ACode.seq (ACode.reg l17r3) (ACode.cond (.tmp 11) ACode.skip (ACode.exit 0))) (ACode.seq (ACode.block 1 (ACode.reg l17r4)) (ACode.reg l17r5)))))) (ACode.seq (ACode.reg l17r6) ACode.ret)))) [ARes.tmp 2])
theorem l17_eq : lowFn Try.prog 17 = some l17 := by kernel_rfl
def l19r0 : List AOper :=
  [AOper.mk (some 4) (.mv (.const (.bool false))) none []]
def l19r1 : List AOper :=
  [AOper.mk (some 6) (.mv (.tmp 0)) none [], AOper.mk (some 7) (.len (.tmp 6)) none [0], AOper.mk (some 8) (.mv (.tmp 1)) none [], AOper.mk (some 9) (.len (.tmp 8)) none [2], AOper.mk (some 10) (.bin .neq (.tmp 7) (.tmp 9)) none [1, 3]]
def l19r2 : List AOper :=
  [AOper.mk (some 4) (.mv (.const (.bool false))) none []]
def l19r3 : List AOper :=
  [AOper.mk (some 5) (.mv (.const (.int .i64 0))) none []]
def l19r4 : List AOper :=
  [AOper.mk (some 11) (.mv (.tmp 5)) none [], AOper.mk (some 12) (.mv (.tmp 0)) none [], AOper.mk (some 13) (.len (.tmp 12)) none [1], AOper.mk (some 14) (.bin .lss (.tmp 11) (.tmp 13)) none [0, 2]]
def l19r5a : List AOper :=
  [AOper.mk (some 17) (.mv (.tmp 0)) none [], AOper.mk (some 18) (.mv (.tmp 5)) none [], AOper.mk (some 19) (.idxA 1 (.tmp 17) (.tmp 18)) none [0, 1], AOper.mk (some 20) (.load false 1 (.tmp 19)) none [2], AOper.mk (some 21) (.mv (.tmp 1)) none [], AOper.mk (some 22) (.mv (.tmp 5)) none [], AOper.mk (some 23) (.idxA 1 (.tmp 21) (.tmp 22)) none [4, 5], AOper.mk (some 24) (.load false 1 (.tmp 23)) none [6]]
def l19r5b : List AOper :=
  [AOper.mk (some 25) (.bin .neq (.tmp 20) (.tmp 24)) none [3, 7]]
def l19r5 : List AOper := l19r5a ++ l19r5b
def l19r6 : List AOper :=
  [AOper.mk (some 4) (.mv (.const (.bool false))) none []]
def l19r7 : List AOper :=
  [AOper.mk (some 15) (.mv (.tmp 5)) none [], AOper.mk (some 16) (.bin .add (.tmp 15) (.const (.int .i64 1))) none [0], AOper.mk (some 5) (.mv (.tmp 16)) none [1, 0, 1]]
def l19r8 : List AOper :=
  [AOper.mk (some 4) (.mv (.const (.bool true))) none []]
def l19 : AFn :=
  (AFn.mk 26 2 (ACode.seq (ACode.reg l19r0) (ACode.seq (ACode.seq (ACode.reg l19r1) (ACode.cond (.tmp 10) (ACode.seq (ACode.reg l19r2) ACode.ret) ACode.skip)) (ACode.seq (ACode.seq (ACode.reg l19r3) (ACode.block 0 (ACode.loop (ACode.seq (ACode.seq (ACode.reg l19r4) (ACode.cond (.tmp 14) ACode.skip (ACode.exit 0))) (ACode.seq (ACode.block 1 (ACode.seq (ACode.draw l19r5) (ACode.cond (.tmp 25) (ACode.seq (ACode.reg l19r6) ACode.ret) ACode.skip))) (ACode.reg l19r7)))))) (ACode.seq (ACode.reg l19r8) ACode.ret)))) [ARes.tmp 4])
theorem l19_eq : lowFn Try.prog 19 = some l19 := by kernel_rfl
def l20r0 : List AOper :=
  [AOper.mk (some 4) (.mv (.const (.int .i64 0))) none []]
def l20r1 : List AOper :=
  [AOper.mk (some 5) (.mv (.const (.int .i64 0))) none []]
def l20r2 : List AOper :=
  [AOper.mk (some 6) (.mv (.tmp 5)) none [], AOper.mk (some 7) (.mv (.tmp 0)) none [], AOper.mk (some 8) (.len (.tmp 7)) none [1], AOper.mk (some 9) (.bin .lss (.tmp 6) (.tmp 8)) none [0, 2]]
def l20r3 : List AOper :=
  [AOper.mk (some 12) (.mv (.tmp 0)) none [], AOper.mk (some 13) (.mv (.tmp 5)) none [], AOper.mk (some 14) (.mv (.tmp 1)) none [], AOper.mk (some 15) (.idxA 1 (.tmp 12) (.tmp 13)) none [0, 1, 0, 1, 2], AOper.mk none (.store 1 (.tmp 15) (.tmp 14)) none [3, 2, 0, 1, 2]]
def l20r4 : List AOper :=
  [AOper.mk (some 16) (.mv (.tmp 1)) none [], AOper.mk (some 17) (.bin .add (.tmp 16) (.const (.int .i64 1))) none [0], AOper.mk (some 1) (.mv (.tmp 17)) none [1, 0, 1]]
def l20r5 : List AOper :=
  [AOper.mk (some 10) (.mv (.tmp 5)) none [], AOper.mk (some 11) (.bin .add (.tmp 10) (.const (.int .i64 1))) none [0], AOper.mk (some 5) (.mv (.tmp 11)) none [1, 0, 1]]
def l20r6 : List AOper :=
  [AOper.mk (some 18) (.mv (.tmp 1)) none [], AOper.mk (some 4) (.mv (.tmp 18)) none [0, 0]]
def l20 : AFn :=
  (AFn.mk 19 2 (ACode.seq (ACode.reg l20r0) (ACode.seq (ACode.seq (ACode.reg l20r1) (ACode.block 0 (ACode.loop (ACode.seq (ACode.seq (ACode.reg l20r2) (ACode.cond (.tmp 9) ACode.skip (ACode.exit 0))) (ACode.seq (ACode.block 1 (ACode.seq (ACode.reg l20r3) (ACode.reg l20r4))) (ACode.reg l20r5)))))) (ACode.seq (ACode.reg l20r6) ACode.ret))) [ARes.tmp 4])
theorem l20_eq : lowFn Try.prog 20 = some l20 := by kernel_rfl
def l21r0 : List AOper :=
  [AOper.mk (some 4) (.mv (.const (.int .i64 0))) none []]
def l21r1 : List AOper :=
  [AOper.mk (some 5) (.mv (.const (.int .i64 0))) none []]
def l21r2 : List AOper :=
  [AOper.mk (some 6) (.mv (.tmp 5)) none [], AOper.mk (some 7) (.mv (.tmp 0)) none [], AOper.mk (some 8) (.len (.tmp 7)) none [1], AOper.mk (some 9) (.bin .lss (.tmp 6) (.tmp 8)) none [0, 2]]
def l21r3 : List AOper :=
  [AOper.mk (some 12) (.mv (.tmp 0)) none [], AOper.mk (some 13) (.mv (.tmp 5)) none [], AOper.mk (some 14) (.idxA 1 (.tmp 12) (.tmp 13)) none [0, 1], AOper.mk (some 15) (.load false 1 (.tmp 14)) none [2], AOper.mk (some 16) (.mv (.tmp 1)) none [], AOper.mk (some 17) (.bin .neq (.tmp 15) (.tmp 16)) none [3, 4]]
def l21r4 : List AOper :=
  [AOper.mk (some 4) (.mv (.const (.int .i64 (-1)))) none []]
def l21r5 : List AOper :=
  [AOper.mk (some 18) (.mv (.tmp 1)) none [], AOper.mk (some 19) (.bin .add (.tmp 18) (.const (.int .i64 1))) none [0], AOper.mk (some 1) (.mv (.tmp 19)) none [1, 0, 1]]
def l21r6 : List AOper :=
  [AOper.mk (some 10) (.mv (.tmp 5)) none [], AOper.mk (some 11) (.bin .add (.tmp 10) (.const (.int .i64 1))) none [0], AOper.mk (some 5) (.mv (.tmp 11)) none [1, 0, 1]]
def l21r7 : List AOper :=
  [AOper.mk (some 20) (.mv (.tmp 1)) none [], AOper.mk (some 4) (.mv (.tmp 20)) none [0, 0]]
def l21 : AFn :=
  (AFn.mk 21 2 (ACode.seq (ACode.reg l21r0) (ACode.seq (ACode.seq (ACode.reg l21r1) (ACode.block 0 (ACode.loop (ACode.seq (ACode.seq (ACode.reg l21r2) (ACode.cond (.tmp 9) ACode.skip (ACode.exit 0))) (ACode.seq (ACode.block 1 (ACode.seq (ACode.seq (ACode.reg l21r3) (ACode.cond (.tmp 17) (ACode.seq (ACode.reg l21r4) ACode.ret) ACode.skip)) (ACode.reg l21r5))) (ACode.reg l21r6)))))) (ACode.seq (ACode.reg l21r7) ACode.ret))) [ARes.tmp 4])
theorem l21_eq : lowFn Try.prog 21 = some l21 := by kernel_rfl
def l28r0 : List AOper :=
  [AOper.mk (some 1) (.box (.tmp 0)) none [], AOper.mk (some 2) (.alloc [.int .i64 0, .slice none 0 0, .slice none 0 0]) none []]
def l28r1 : List AOper :=
  [AOper.mk (some 5) (.load true 3 (.tmp 1)) none [], AOper.mk (some 6) (.call 31 [.tmp 5]) none [0], AOper.mk (some 7) (.un .not (.tmp 6)) none [1]]
def l28r2 : List AOper :=
  [AOper.mk (some 8) (.build [.int .i64 0, .slice none 0 0, .slice none 0 0] []) none [], AOper.mk none (.store 3 (.tmp 2) (.tmp 8)) none [0, 0]]
def l28r3 : List AOper :=
  [AOper.mk (some 9) (.fld 0 (.tmp 1)) none [], AOper.mk (some 10) (.load false 1 (.tmp 9)) none [0], AOper.mk (some 11) (.bslice 1 [.int .i64 0] [] 0) none [], AOper.mk (some 12) (.bslice 1 [.int .i64 0] [] 0) none [], AOper.mk (some 13) (.build [.int .i64 0, .slice none 0 0, .slice none 0 0] [(0, 1, .tmp 10), (1, 1, .tmp 11), (2, 1, .tmp 12)]) none [1, 2, 3], AOper.mk (some 3) (.alloc [.int .i64 0, .slice none 0 0, .slice none 0 0]) none [], AOper.mk none (.store 3 (.tmp 3) (.tmp 13)) none [5, 4, 0, 1, 2, 3, 4, 5]]
def l28r4 : List AOper :=
  [AOper.mk (some 4) (.mv (.const (.int .i64 0))) none []]
def l28r5 : List AOper :=
  [AOper.mk (some 14) (.mv (.tmp 4)) none [], AOper.mk (some 15) (.fld 1 (.tmp 1)) none [], AOper.mk (some 16) (.load false 1 (.tmp 15)) none [1], AOper.mk (some 17) (.len (.tmp 16)) none [2], AOper.mk (some 18) (.bin .lss (.tmp 14) (.tmp 17)) none [0, 3]]
def l28r6 : List AOper :=
  [AOper.mk (some 21) (.fld 1 (.tmp 1)) none [], AOper.mk (some 22) (.load false 1 (.tmp 21)) none [0], AOper.mk (some 23) (.mv (.tmp 4)) none [], AOper.mk (some 24) (.idxA 1 (.tmp 22) (.tmp 23)) none [1, 2], AOper.mk (some 25) (.load false 1 (.tmp 24)) none [3], AOper.mk (some 26) (.bin .neq (.tmp 25) (.const (.int .i64 1))) none [4]]
def l28r7a : List AOper :=
  [AOper.mk (some 27) (.fld 1 (.tmp 3)) none [], AOper.mk (some 28) (.load false 1 (.tmp 27)) none [0], AOper.mk (some 29) (.fld 1 (.tmp 1)) none [], AOper.mk (some 30) (.load false 1 (.tmp 29)) none [2], AOper.mk (some 31) (.mv (.tmp 4)) none [], AOper.mk (some 32) (.idxA 1 (.tmp 30) (.tmp 31)) none [3, 4], AOper.mk (some 33) (.load false 1 (.tmp 32)) none [5], AOper.mk (some 34) (.bslice 1 [.int .i64 0] [(0, .tmp 33)] 1) none [6]]
def l28r7b : List AOper :=
  [AOper.mk (some 35) (.append 1 (.tmp 28) (.tmp 34)) none [1, 7], AOper.mk (some 36) (.fld 1 (.tmp 3)) none [0, 1, 2, 3, 4, 5, 6, 7, 8], AOper.mk none (.store 1 (.tmp 36) (.tmp 35)) none [9, 8, 8, 0, 1, 2, 3, 4, 5, 6, 7, 8]]
def l28r7 : List AOper := l28r7a ++ l28r7b
def l28r8a : List AOper :=
  [AOper.mk (some 37) (.fld 2 (.tmp 3)) none [], AOper.mk (some 38) (.load false 1 (.tmp 37)) none [0], AOper.mk (some 39) (.fld 2 (.tmp 1)) none [], AOper.mk (some 40) (.load false 1 (.tmp 39)) none [2], AOper.mk (some 41) (.mv (.tmp 4)) none [], AOper.mk (some 42) (.idxA 1 (.tmp 40) (.tmp 41)) none [3, 4], AOper.mk (some 43) (.load false 1 (.tmp 42)) none [5], AOper.mk (some 44) (.bslice 1 [.int .i64 0] [(0, .tmp 43)] 1) none [6]]
def l28r8b : List AOper :=
  [AOper.mk (some 45) (.append 1 (.tmp 38) (.tmp 44)) none [1, 7], AOper.mk (some 46) (.fld 2 (.tmp 3)) none [0, 1, 2, 3, 4, 5, 6, 7, 8], AOper.mk none (.store 1 (.tmp 46) (.tmp 45)) none [9, 8, 8, 0, 1, 2, 3, 4, 5, 6, 7, 8]]
def l28r8 : List AOper := l28r8a ++ l28r8b
def l28r9 : List AOper :=
  [AOper.mk (some 19) (.mv (.tmp 4)) none [], AOper.mk (some 20) (.bin .add (.tmp 19) (.const (.int .i64 1))) none [0], AOper.mk (some 4) (.mv (.tmp 20)) none [1, 0, 1]]
def l28r10 : List AOper :=
  [AOper.mk (some 47) (.load true 3 (.tmp 3)) none [], AOper.mk none (.store 3 (.tmp 2) (.tmp 47)) none [0, 0]]
def l28 : AFn :=
  (AFn.mk 48 1 (ACode.seq (ACode.reg l28r0) (ACode.seq (ACode.seq (ACode.reg l28r1) (ACode.cond (.tmp 7) (ACode.seq (ACode.reg l28r2) ACode.ret) ACode.skip)) (ACode.seq (ACode.reg l28r3) (ACode.seq (ACode.seq (ACode.reg l28r4) (ACode.block 0 (ACode.loop (ACode.seq (ACode.seq (ACode.reg l28r5) (ACode.cond (.tmp 18) ACode.skip (ACode.exit 0))) (ACode.seq (ACode.block 1 (ACode.seq (ACode.reg l28r6) (ACode.cond (.tmp 26) (ACode.seq (ACode.draw l28r7) (ACode.draw l28r8)) ACode.skip))) (ACode.reg l28r9)))))) (ACode.seq (ACode.reg l28r10) ACode.ret))))) [ARes.cell 2 true 3])
theorem l28_eq : lowFn Try.prog 28 = some l28 := by kernel_rfl
def l29r0 : List AOper :=
  [AOper.mk (some 1) (.box (.tmp 0)) none [], AOper.mk (some 2) (.alloc [.int .i64 0, .slice none 0 0, .slice none 0 0]) none []]
def l29r1 : List AOper :=
  [AOper.mk (some 4) (.load true 3 (.tmp 1)) none [], AOper.mk (some 5) (.call 35 [.tmp 4]) none [0], AOper.mk (some 6) (.un .not (.tmp 5)) none [1]]
def l29r2 : List AOper :=
  [AOper.mk (some 7) (.build [.int .i64 0, .slice none 0 0, .slice none 0 0] []) none [], AOper.mk none (.store 3 (.tmp 2) (.tmp 7)) none [0, 0]]
def l29r3 : List AOper :=
  [AOper.mk (some 8) (.load true 3 (.tmp 1)) none [], AOper.mk (some 9) (.call 37 [.tmp 8]) none [0], AOper.mk (some 3) (.alloc [.int .i64 0, .slice none 0 0, .slice none 0 0, .int .i64 0, .int .i64 0, .int .i64 0, .int .i64 0, .slice none 0 0]) none [], AOper.mk none (.store 8 (.tmp 3) (.tmp 9)) none [2, 1, 1, 0, 1, 2]]
def l29r4 : List AOper :=
  [AOper.mk (some 10) (.fld 7 (.tmp 3)) none [], AOper.mk (some 11) (.load false 1 (.tmp 10)) none [0], AOper.mk (some 12) (.call 57 [.tmp 11, .func 58]) none [1], AOper.mk (some 13) (.fld 7 (.tmp 3)) none [0, 1, 2], AOper.mk none (.store 1 (.tmp 13) (.tmp 12)) none [3, 2, 2, 0, 1, 2]]
def l29r5 : List AOper :=
  [AOper.mk (some 14) (.load true 8 (.tmp 3)) none [], AOper.mk (some 15) (.call 39 [.tmp 14]) none [0], AOper.mk none (.store 3 (.tmp 2) (.tmp 15)) none [1, 1, 0, 1]]
def l29 : AFn :=
  (AFn.mk 16 1 (ACode.seq (ACode.reg l29r0) (ACode.seq (ACode.seq (ACode.reg l29r1) (ACode.cond (.tmp 6) (ACode.seq (ACode.reg l29r2) ACode.ret) ACode.skip)) (ACode.seq (ACode.reg l29r3) (ACode.seq (ACode.reg l29r4) (ACode.seq (ACode.reg l29r5) ACode.ret))))) [ARes.cell 2 true 3])
theorem l29_eq : lowFn Try.prog 29 = some l29 := by kernel_rfl
def l30r0 : List AOper :=
  [AOper.mk (some 4) (.mv (.const (.int .i64 0))) none []]
def l30r1 : List AOper :=
  [AOper.mk (some 5) (.mv (.tmp 1)) none [], AOper.mk (some 6) (.mv (.tmp 0)) none [], AOper.mk (some 7) (.len (.tmp 6)) none [1], AOper.mk (some 8) (.bin .sub (.tmp 5) (.tmp 7)) none [0, 2], AOper.mk (some 1) (.mv (.tmp 8)) none [3, 0, 1, 2, 3]]
def l30r2 : List AOper :=
  [AOper.mk (some 9) (.mv (.tmp 1)) none [], AOper.mk (some 10) (.bin .lss (.tmp 9) (.const (.int .i64 0))) none [0]]
def l30r3 : List AOper :=
  [AOper.mk (some 4) (.mv (.const (.int .i64 (-1)))) none []]
def l30r4 : List AOper :=
  [AOper.mk (some 11) (.mv (.tmp 1)) none [], AOper.mk (some 4) (.mv (.tmp 11)) none [0, 0]]
def l30 : AFn :=
  (AFn.mk 12 2 (ACode.seq (ACode.reg l30r0) (ACode.seq (ACode.reg l30r1) (ACode.seq (ACode.seq (ACode.reg l30r2) (ACode.cond (.tmp 10) (ACode.seq (ACode.reg l30r3) ACode.ret) ACode.skip)) (ACode.seq (ACode.reg l30r4) ACode.ret)))) [ARes.tmp 4])
theorem l30_eq : lowFn Try.prog 30 = some l30 := by kernel_rfl
def l31r0 : List AOper :=
  [AOper.mk (some 1) (.box (.tmp 0)) none [], AOper.mk (some 2) (.mv (.const (.bool false))) none []]
def l31r1 : List AOper :=
  [AOper.mk (some 3) (.fld 1 (.tmp 1)) none [], AOper.mk (some 4) (.load false 1 (.tmp 3)) none [0], AOper.mk (some 5) (.call 40 [.tmp 4]) none [1], AOper.mk (some 6) (.mv (.tmp 5)) none [2, 2], AOper.mk (some 7) (.fld 2 (.tmp 1)) (some (6, true)) [3], AOper.mk (some 8) (.load false 1 (.tmp 7)) (some (6, true)) [4, 3], AOper.mk (some 9) (.len (.tmp 8)) (some (6, true)) [5, 3], AOper.mk (some 10) (.fld 1 (.tmp 1)) (some (6, true)) [3], AOper.mk (some 11) (.load false 1 (.tmp 10)) (some (6, true)) [7, 3], AOper.mk (some 12) (.len (.tmp 11)) (some (6, true)) [8, 3], AOper.mk (some 13) (.bin .eql (.tmp 9) (.tmp 12)) (some (6, true)) [6, 9, 3], AOper.mk (some 14) (.pick (.tmp 6) (.tmp 13) (.const (.bool false))) none [3, 10], AOper.mk (some 15) (.mv (.tmp 14)) none [11, 3], AOper.mk (some 16) (.fld 2 (.tmp 1)) (some (15, true)) [12], AOper.mk (some 17) (.load false 1 (.tmp 16)) (some (15, true)) [13, 12], AOper.mk (some 18) (.call 59 [.tmp 17, .const (.int .i64 (-60)), .const (.int .i64 60)]) (some (15, true)) [14, 12, 12], AOper.mk (some 19) (.pick (.tmp 15) (.tmp 18) (.const (.bool false))) none [12, 15], AOper.mk (some 20) (.mv (.tmp 19)) none [16, 15], AOper.mk (some 21) (.fld 0 (.tmp 1)) (some (20, true)) [17], AOper.mk (some 22) (.load false 1 (.tmp 21)) (some (20, true)) [18, 17], AOper.mk (some 23) (.call 32 [.tmp 22, .const (.int .i64 0), .const (.int .i64 60)]) (some (20, true)) [19, 17, 17], AOper.mk (some 24) (.pick (.tmp 20) (.tmp 23) (.const (.bool false))) none [17, 20], AOper.mk (some 25) (.mv (.tmp 24)) none [21, 20], AOper.mk (some 26) (.fld 1 (.tmp 1)) (some (25, true)) [22], AOper.mk (some 27) (.load false 1 (.tmp 26)) (some (25, true)) [23, 22], AOper.mk (some 28) (.call 60 [.tmp 27]) (some (25, true)) [24, 22, 22], AOper.mk (some 29) (.bin .eql (.tmp 28) (.const (.int .i64 0))) (some (25, true)) [25, 22], AOper.mk (some 30) (.mv (.tmp 29)) (some (25, true)) [26, 25, 22], AOper.mk (some 31) (.load true 3 (.tmp 1)) (some (30, false)) [27], AOper.mk (some 32) (.call 61 [.tmp 31]) (some (30, false)) [28, 27, 27], AOper.mk (some 33) (.call 59 [.tmp 32, .const (.int .i64 0), .const (.int .i64 59)]) (some (30, false)) [29, 29, 27], AOper.mk (some 34) (.pick (.tmp 30) (.const (.bool true)) (.tmp 33)) (some (25, true)) [27, 30, 22], AOper.mk (some 35) (.pick (.tmp 25) (.tmp 34) (.const (.bool false))) none [22, 31], AOper.mk (some 2) (.mv (.tmp 35)) none [32, 30, 0, 1, 2, 3, 4, 5, 6, 7, 8, 9, 10, 11, 12, 13, 14, 15, 16, 17, 18, 19, 20, 21, 22, 23, 24, 25, 26, 27, 28, 29, 30, 31, 32]]
def l31 : AFn :=
  (AFn.mk 36 1 (ACode.seq (ACode.reg l31r0) (ACode.seq (ACode.reg l31r1) ACode.ret)) [ARes.tmp 2])
theorem l31_eq : lowFn Try.prog 31 = some l31 := by kernel_rfl
def l32r0 : List AOper :=
  [AOper.mk (some 6) (.mv (.const (.bool false))) none []]
def l32r1 : List AOper :=
  [AOper.mk (some 7) (.mv (.tmp 1)) none [], AOper.mk (some 8) (.mv (.tmp 0)) none [], AOper.mk (some 9) (.bin .leq (.tmp 7) (.tmp 8)) none [0, 1], AOper.mk (some 10) (.mv (.tmp 9)) none [2], AOper.mk (some 11) (.mv (.tmp 0)) (some (10, true)) [3], AOper.mk (some 12) (.mv (.tmp 2)) (some (10, true)) [3], AOper.mk (some 13) (.bin .leq (.tmp 11) (.tmp 12)) (some (10, true)) [4, 5, 3], AOper.mk (some 14) (.pick (.tmp 10) (.tmp 13) (.const (.bool false))) none [3, 6], AOper.mk (some 6) (.mv (.tmp 14)) none [7, 3, 0, 1, 2, 3, 4, 5, 6, 7]]
def l32 : AFn :=
  (AFn.mk 15 3 (ACode.seq (ACode.reg l32r0) (ACode.seq (ACode.reg l32r1) ACode.ret)) [ARes.tmp 6])
theorem l32_eq : lowFn Try.prog 32 = some l32 := by kernel_rfl
def l35r0 : List AOper :=
  [AOper.mk (some 1) (.box (.tmp 0)) none [], AOper.mk (some 2) (.mv (.const (.bool false))) none []]
def l35r1 : List AOper :=
  [AOper.mk (some 5) (.fld 1 (.tmp 1)) none [], AOper.mk (some 6) (.load false 1 (.tmp 5)) none [0], AOper.mk (some 7) (.call 42 [.tmp 6]) none [1], AOper.mk (some 8) (.un .not (.tmp 7)) none [2], AOper.mk (some 9) (.mv (.tmp 8)) none [3, 2], AOper.mk (some 10) (.fld 2 (.tmp 1)) (some (9, false)) [4], AOper.mk (some 11) (.load false 1 (.tmp 10)) (some (9, false)) [5, 4], AOper.mk (some 12) (.fld 1 (.tmp 1)) (some (9, false)) [4], AOper.mk (some 13) (.load false 1 (.tmp 12)) (some (9, false)) [7, 4], AOper.mk (some 14) (.len (.tmp 13)) (some (9, false)) [8, 4], AOper.mk (some 15) (.call 63 [.tmp 11, .tmp 14]) (some (9, false)) [6, 9, 4, 4], AOper.mk (some 16) (.un .not (.tmp 15)) (some (9, false)) [10, 4], AOper.mk (some 17) (.pick (.tmp 9) (.const (.bool true)) (.tmp 16)) none [4, 11], AOper.mk (some 18) (.mv (.tmp 17)) none [12, 10], AOper.mk (some 19) (.fld 0 (.tmp 1)) (some (18, false)) [13], AOper.mk (some 20) (.load false 1 (.tmp 19)) (some (18, false)) [14, 13], AOper.mk (some 21) (.call 36 [.tmp 20, .const (.int .i64 60)]) (some (18, false)) [15, 13, 13], AOper.mk (some 22) (.un .not (.tmp 21)) (some (18, false)) [16, 13], AOper.mk (some 23) (.pick (.tmp 18) (.const (.bool true)) (.tmp 22)) none [13, 17]]
def l35r2 : List AOper :=
  [AOper.mk (some 2) (.mv (.const (.bool false))) none []]
def l35r3 : List AOper :=
  [AOper.mk (some 25) (.load true 3 (.tmp 1)) none [], AOper.mk (some 26) (.call 64 [.tmp 25]) none [0], AOper.mk (some 24) (.mv (.tmp 26)) none [1], AOper.mk (some 27) (.extract (.tmp 24) 0) none [2], AOper.mk (some 28) (.extract (.tmp 24) 1) none [2], AOper.mk (some 3) (.mv (.tmp 27)) none [3, 1, 0, 1, 2, 3], AOper.mk (some 4) (.mv (.tmp 28)) none [4, 5, 0, 1, 2, 3, 4, 5]]
def l35r4 : List AOper :=
  [AOper.mk (some 29) (.load true 3 (.tmp 1)) none [], AOper.mk (some 30) (.call 65 [.tmp 29]) none [0], AOper.mk (some 31) (.bin .eql (.tmp 30) (.const (.int .i64 0))) none [1], AOper.mk (some 32) (.mv (.tmp 31)) none [2, 1], AOper.mk (some 33) (.mv (.tmp 3)) (some (32, false)) [3], AOper.mk (some 34) (.bin .geq (.tmp 33) (.const (.int .i64 0))) (some (32, false)) [4, 3], AOper.mk (some 35) (.mv (.tmp 34)) (some (32, false)) [5, 3, 3], AOper.mk (some 36) (.mv (.tmp 4)) (some (35, true)) [6], AOper.mk (some 37) (.bin .lss (.tmp 36) (.const (.int .i64 60))) (some (35, true)) [7, 6], AOper.mk (some 38) (.pick (.tmp 35) (.tmp 37) (.const (.bool false))) (some (32, false)) [6, 8, 3], AOper.mk (some 39) (.pick (.tmp 32) (.const (.bool true)) (.tmp 38)) none [3, 9], AOper.mk (some 2) (.mv (.tmp 39)) none [10, 6, 0, 1, 2, 3, 4, 5, 6, 7, 8, 9, 10]]
def l35 : AFn :=
  (AFn.mk 40 1 (ACode.seq (ACode.reg l35r0) (ACode.seq (ACode.seq (ACode.reg l35r1) (ACode.cond (.tmp 23) (ACode.seq (ACode.reg l35r2) ACode.ret) ACode.skip)) (ACode.seq (ACode.reg l35r3) (ACode.seq (ACode.reg l35r4) ACode.ret)))) [ARes.tmp 2])
theorem l35_eq : lowFn Try.prog 35 = some l35 := by kernel_rfl
def l36r0 : List AOper :=
  [AOper.mk (some 4) (.mv (.const (.bool false))) none []]
def l36r1 : List AOper :=
  [AOper.mk (some 5) (.mv (.tmp 0)) none [], AOper.mk (some 6) (.bin .leq (.const (.int .i64 0)) (.tmp 5)) none [0], AOper.mk (some 7) (.mv (.tmp 6)) none [1], AOper.mk (some 8) (.mv (.tmp 0)) (some (7, true)) [2], AOper.mk (some 9) (.mv (.tmp 1)) (some (7, true)) [2], AOper.mk (some 10) (.bin .leq (.tmp 8) (.tmp 9)) (some (7, true)) [3, 4, 2], AOper.mk (some 11) (.pick (.tmp 7) (.tmp 10) (.const (.bool false))) none [2, 5], AOper.mk (some 4) (.mv (.tmp 11)) none [6, 2, 0, 1, 2, 3, 4, 5, 6]]
def l36 : AFn :=
  (AFn.mk 12 2 (ACode.seq (ACode.reg l36r0) (ACode.seq (ACode.reg l36r1) ACode.ret)) [ARes.tmp 4])
theorem l36_eq : lowFn Try.prog 36 = some l36 := by kernel_rfl
def l37r0 : List AOper :=
  [AOper.mk (some 1) (.box (.tmp 0)) none [], AOper.mk (some 2) (.alloc [.int .i64 0, .slice none 0 0, .slice none 0 0, .int .i64 0, .int .i64 0, .int .i64 0, .int .i64 0, .slice none 0 0]) none []]
def l37r1 : List AOper :=
  [AOper.mk (some 6) (.load true 3 (.tmp 1)) none [], AOper.mk (some 7) (.build [.int .i64 0, .slice none 0 0, .slice none 0 0, .int .i64 0, .int .i64 0, .int .i64 0, .int .i64 0, .slice none 0 0] [(0, 3, .tmp 6)]) none [0], AOper.mk (some 3) (.alloc [.int .i64 0, .slice none 0 0, .slice none 0 0, .int .i64 0, .int .i64 0, .int .i64 0, .int .i64 0, .slice none 0 0]) none [], AOper.mk none (.store 8 (.tmp 3) (.tmp 7)) none [2, 1, 0, 1, 2]]
def l37r2 : List AOper :=
  [AOper.mk (some 8) (.fld 1 (.tmp 1)) none [], AOper.mk (some 9) (.load false 1 (.tmp 8)) none [0], AOper.mk (some 10) (.len (.tmp 9)) none [1], AOper.mk (some 11) (.mv (.const (.int .i64 0))) none []]
def l37r3 : List AOper :=
  [AOper.mk (some 12) (.bin .lss (.tmp 11) (.tmp 10)) none []]
def l37r4 : List AOper :=
  [AOper.mk (some 13) (.mv (.tmp 11)) none [], AOper.mk (some 14) (.idxA 1 (.tmp 9) (.tmp 11)) none [], AOper.mk (some 15) (.load false 1 (.tmp 14)) none [1], AOper.mk (some 4) (.mv (.tmp 13)) none [0, 0, 1, 2], AOper.mk (some 5) (.mv (.tmp 15)) none [2, 3, 0, 1, 2, 3]]
def l37r5a : List AOper :=
  [AOper.mk (some 16) (.fld 7 (.tmp 3)) none [], AOper.mk (some 17) (.load false 1 (.tmp 16)) none [0], AOper.mk (some 18) (.mv (.tmp 5)) none [], AOper.mk (some 19) (.fld 2 (.tmp 1)) none [], AOper.mk (some 20) (.load false 1 (.tmp 19)) none [3], AOper.mk (some 21) (.mv (.tmp 4)) none [], AOper.mk (some 22) (.idxA 1 (.tmp 20) (.tmp 21)) none [4, 5], AOper.mk (some 23) (.load false 1 (.tmp 22)) none [6], AOper.mk (some 24) (.build [.int .i64 0, .int .i64 0] [(0, 1, .tmp 18), (1, 1, .tmp 23)]) none [2, 7], AOper.mk (some 25) (.bslice 2 [.int .i64 0, .int .i64 0] [(0, .tmp 24)] 1) none [8]]
def l37r5b : List AOper :=
  [AOper.mk (some 26) (.append 2 (.tmp 17) (.tmp 25)) none [1, 9], AOper.mk (some 27) (.fld 7 (.tmp 3)) none [0, 1, 2, 3, 4, 5, 6, 7, 8, 9, 10], AOper.mk none (.store 1 (.tmp 27) (.tmp 26)) none [11, 10, 10, 0, 1, 2, 3, 4, 5, 6, 7, 8, 9, 10]]
def l37r5 : List AOper := l37r5a ++ l37r5b
def l37r6 : List AOper :=
  [AOper.mk (some 28) (.bin .add (.tmp 11) (.const (.int .i64 1))) none [], AOper.mk (some 11) (.mv (.tmp 28)) none [0]]
def l37r7 : List AOper :=
  [AOper.mk (some 29) (.load true 8 (.tmp 3)) none [], AOper.mk none (.store 8 (.tmp 2) (.tmp 29)) none [0, 0]]
def l37 : AFn :=
  (AFn.mk 30 1 (ACode.seq (ACode.reg l37r0) (ACode.seq (ACode.reg l37r1) (ACode.seq (ACode.seq (ACode.reg l37r2) (ACode.block 0 (ACode.loop (ACode.seq (ACode.reg l37r3) (ACode.seq (ACode.cond (.tmp 12) ACode.skip (ACode.exit 0)) (ACode.seq (ACode.block 1 (ACode.seq (ACode.reg l37r4) (ACode.draw l37r5))) (ACode.reg l37r6))))))) (ACode.seq (ACode.reg l37r7) ACode.ret)))) [ARes.cell 2 true 8])
theorem l37_eq : lowFn Try.prog 37 = some l37 := by kernel_rfl
def l39r0 : List AOper :=
  [AOper.mk (some 1) (.box (.tmp 0)) none [], AOper.mk (some 2) (.alloc [.int .i64 0, .slice none 0 0, .slice none 0 0]) none []]
def l39r1 : List AOper :=
  [AOper.mk (some 6) (.fld 0 (.tmp 1)) none [], AOper.mk (some 7) (.load true 3 (.tmp 6)) none [0], AOper.mk (some 8) (.fld 3 (.tmp 1)) none [], AOper.mk (some 9) (.load true 4 (.tmp 8)) none [2], AOper.mk (some 10) (.call 68 [.tmp 7, .tmp 9]) none [1, 3], AOper.mk (some 11) (.build [.int .i64 0, .slice none 0 0, .slice none 0 0] [(0, 1, .tmp 10)]) none [4], AOper.mk (some 3) (.alloc [.int .i64 0, .slice none 0 0, .slice none 0 0]) none [], AOper.mk none (.store 3 (.tmp 3) (.tmp 11)) none [6, 5, 4, 0, 1, 2, 3, 4, 5, 6]]
def l39r2 : List AOper :=
  [AOper.mk (some 12) (.fld 7 (.tmp 1)) none [], AOper.mk (some 13) (.load false 1 (.tmp 12)) none [0], AOper.mk (some 14) (.len (.tmp 13)) none [1], AOper.mk (some 15) (.mv (.const (.int .i64 0))) none []]
def l39r3 : List AOper :=
  [AOper.mk (some 16) (.bin .lss (.tmp 15) (.tmp 14)) none []]
def l39r4 : List AOper :=
  [AOper.mk (some 17) (.idxA 2 (.tmp 13) (.tmp 15)) none [], AOper.mk (some 18) (.load true 2 (.tmp 17)) none [0], AOper.mk (some 5) (.alloc [.int .i64 0, .int .i64 0]) none [], AOper.mk none (.store 2 (.tmp 5) (.tmp 18)) none [2, 1, 0, 1, 2]]
def l39r5 : List AOper :=
  [AOper.mk (some 19) (.fld 1 (.tmp 3)) none [], AOper.mk (some 20) (.load false 1 (.tmp 19)) none [0], AOper.mk (some 21) (.fld 0 (.tmp 5)) none [], AOper.mk (some 22) (.load false 1 (.tmp 21)) none [2], AOper.mk (some 23) (.bslice 1 [.int .i64 0] [(0, .tmp 22)] 1) none [3], AOper.mk (some 24) (.append 1 (.tmp 20) (.tmp 23)) none [1, 4], AOper.mk (some 25) (.fld 1 (.tmp 3)) none [0, 1, 2, 3, 4, 5], AOper.mk none (.store 1 (.tmp 25) (.tmp 24)) none [6, 5, 5, 0, 1, 2, 3, 4, 5]]
def l39r6 : List AOper :=
  [AOper.mk (some 26) (.fld 2 (.tmp 3)) none [], AOper.mk (some 27) (.load false 1 (.tmp 26)) none [0], AOper.mk (some 28) (.fld 1 (.tmp 5)) none [], AOper.mk (some 29) (.load false 1 (.tmp 28)) none [2], AOper.mk (some 30) (.bslice 1 [.int .i64 0] [(0, .tmp 29)] 1) none [3], AOper.mk (some 31) (.append 1 (.tmp 27) (.tmp 30)) none [1, 4], AOper.mk (some 32) (.fld 2 (.tmp 3)) none [0, 1, 2, 3, 4, 5], AOper.mk none (.store 1 (.tmp 32) (.tmp 31)) none [6, 5, 5, 0, 1, 2, 3, 4, 5]]
def l39r7 : List AOper :=
  [AOper.mk (some 33) (.bin .add (.tmp 15) (.const (.int .i64 1))) none [], AOper.mk (some 15) (.mv (.tmp 33)) none [0]]
def l39r8 : List AOper :=
  [AOper.mk (some 34) (.load true 3 (.tmp 3)) none [], AOper.mk none (.store 3 (.tmp 2) (.tmp 34)) none [0, 0]]
def l39 : AFn :=
  (AFn.mk 35 1 (ACode.seq (ACode.reg l39r0) (ACode.seq (ACode.reg l39r1) (ACode.seq (ACode.seq (ACode.reg l39r2) (ACode.block 0 (ACode.loop (ACode.seq (ACode.reg l39r3) (ACode.seq (ACode.cond (.tmp 16) ACode.skip (ACode.exit 0)) (ACode.seq (ACode.block 1 (ACode.seq (ACode.reg l39r4) (ACode.seq (ACode.reg l39r5) (ACode.reg l39r6)))) (ACode.reg l39r7))))))) (ACode.seq (ACode.reg l39r8) ACode.ret)))) [ARes.cell 2 true 3])
theorem l39_eq : lowFn Try.prog 39 = some l39 := by kernel_rfl
def l40r0 : List AOper :=
  [AOper.mk (some 2) (.mv (.const (.bool false))) none []]
def l40r1 : List AOper :=
  [AOper.mk (some 3) (.mv (.tmp 0)) none [], AOper.mk (some 4) (.len (.tmp 3)) none [0], AOper.mk (some 5) (.bin .leq (.tmp 4) (.const (.int .i64 4))) none [1], AOper.mk (some 6) (.mv (.tmp 5)) none [2], AOper.mk (some 7) (.mv (.tmp 0)) (some (6, true)) [3], AOper.mk (some 8) (.call 59 [.tmp 7, .const (.int .i64 0), .const (.int .i64 60)]) (some (6, true)) [4, 3, 3], AOper.mk (some 9) (.pick (.tmp 6) (.tmp 8) (.const (.bool false))) none [3, 5], AOper.mk (some 10) (.mv (.tmp 9)) none [6, 5], AOper.mk (some 11) (.mv (.tmp 0)) (some (10, true)) [7], AOper.mk (some 12) (.call 60 [.tmp 11]) (some (10, true)) [8, 7, 7], AOper.mk (some 13) (.bin .leq (.tmp 12) (.const (.int .i64 60))) (some (10, true)) [9, 7], AOper.mk (some 14) (.pick (.tmp 10) (.tmp 13) (.const (.bool false))) none [7, 10], AOper.mk (some 2) (.mv (.tmp 14)) none [11, 9, 0, 1, 2, 3, 4, 5, 6, 7, 8, 9, 10, 11]]
def l40 : AFn :=
  (AFn.mk 15 1 (ACode.seq (ACode.reg l40r0) (ACode.seq (ACode.reg l40r1) ACode.ret)) [ARes.tmp 2])
theorem l40_eq : lowFn Try.prog 40 = some l40 := by kernel_rfl
def l42r0 : List AOper :=
  [AOper.mk (some 2) (.mv (.const (.bool false))) none []]
def l42r1 : List AOper :=
  [AOper.mk (some 5) (.mv (.tmp 0)) none [], AOper.mk (some 6) (.len (.tmp 5)) none [0], AOper.mk (some 7) (.bin .gtr (.tmp 6) (.const (.int .i64 4))) none [1]]
def l42r2 : List AOper :=
  [AOper.mk (some 2) (.mv (.const (.bool false))) none []]
def l42r3 : List AOper :=
  [AOper.mk (some 8) (.mv (.tmp 0)) none [], AOper.mk (some 9) (.len (.tmp 8)) none [0], AOper.mk (some 10) (.mv (.const (.int .i64 0))) none []]
def l42r4 : List AOper :=
  [AOper.mk (some 11) (.bin .lss (.tmp 10) (.tmp 9)) none []]
def l42r5 : List AOper :=
  [AOper.mk (some 12) (.idxA 1 (.tmp 8) (.tmp 10)) none [], AOper.mk (some 13) (.load false 1 (.tmp 12)) none [0], AOper.mk (some 4) (.mv (.tmp 13)) none [1, 0, 1]]
def l42r6 : List AOper :=
  [AOper.mk (some 14) (.mv (.tmp 4)) none [], AOper.mk (some 15) (.call 36 [.tmp 14, .const (.int .i64 60)]) none [0], AOper.mk (some 16) (.un .not (.tmp 15)) none [1]]
def l42r7 : List AOper :=
  [AOper.mk (some 2) (.mv (.const (.bool false))) none []]
def l42r8 : List AOper :=
  [AOper.mk (some 17) (.bin .add (.tmp 10) (.const (.int .i64 1))) none [], AOper.mk (some 10) (.mv (.tmp 17)) none [0]]
def l42r9 : List AOper :=
  [AOper.mk (some 18) (.mv (.tmp 0)) none [], AOper.mk (some 19) (.call 69 [.tmp 18]) none [0], AOper.mk (some 20) (.bin .leq (.tmp 19) (.const (.int .i64 60))) none [1], AOper.mk (some 2) (.mv (.tmp 20)) none [2, 1, 0, 1, 2]]
def l42 : AFn :=
  (AFn.mk 21 1 (ACode.seq (ACode.reg l42r0) (ACode.seq (ACode.seq (ACode.reg l42r1) (ACode.cond (.tmp 7) (ACode.seq (ACode.reg l42r2) ACode.ret) ACode.skip)) (ACode.seq (ACode.seq (ACode.reg l42r3) (ACode.block 0 (ACode.loop (ACode.seq (ACode.reg l42r4) (ACode.seq (ACode.cond (.tmp 11) ACode.skip (ACode.exit 0)) (ACode.seq (ACode.block 1 (ACode.seq (ACode.reg l42r5) (ACode.seq (ACode.reg l42r6) (ACode.cond (.tmp 16) (ACode.seq (ACode.reg l42r7) ACode.ret) ACode.skip)))) (ACode.reg l42r8))))))) (ACode.seq (ACode.reg l42r9) ACode.ret)))) [ARes.tmp 2])
theorem l42_eq : lowFn Try.prog 42 = some l42 := by kernel_rfl
def l57r0 : List AOper :=
  [AOper.mk (some 4) (.mv (.const (.slice none 0 0))) none []]
def l57r1 : List AOper :=
  [AOper.mk (some 8) (.mv (.tmp 0)) none [], AOper.mk (some 9) (.mv (.tmp 1)) none [], AOper.mk (some 10) (.call 84 [.tmp 8, .tmp 9]) none [0, 1], AOper.mk (some 5) (.mv (.tmp 10)) none [2, 2, 0, 1, 2]]
def l57r2 : List AOper :=
  [AOper.mk (some 11) (.mv (.tmp 5)) none [], AOper.mk (some 12) (.bin .eql (.tmp 11) (.const (.int .i64 (-1)))) none [0]]
def l57r3 : List AOper :=
  [AOper.mk (some 13) (.mv (.tmp 0)) none [], AOper.mk (some 4) (.mv (.tmp 13)) none [0, 0]]
def l57r4 : List AOper :=
  [AOper.mk (some 14) (.mv (.tmp 5)) none [], AOper.mk (some 15) (.bin .add (.tmp 14) (.const (.int .i64 1))) none [0], AOper.mk (some 6) (.mv (.tmp 15)) none [1, 0, 1]]
def l57r5 : List AOper :=
  [AOper.mk (some 16) (.mv (.tmp 6)) none [], AOper.mk (some 17) (.mv (.tmp 0)) none [], AOper.mk (some 18) (.len (.tmp 17)) none [1], AOper.mk (some 19) (.bin .lss (.tmp 16) (.tmp 18)) none [0, 2]]
def l57r6 : List AOper :=
  [AOper.mk (some 22) (.mv (.tmp 0)) none [], AOper.mk (some 23) (.mv (.tmp 6)) none [], AOper.mk (some 24) (.idxA 2 (.tmp 22) (.tmp 23)) none [0, 1], AOper.mk (some 25) (.load true 2 (.tmp 24)) none [2], AOper.mk (some 7) (.alloc [.int .i64 0, .int .i64 0]) none [], AOper.mk none (.store 2 (.tmp 7) (.tmp 25)) none [4, 3, 0, 1, 2, 3, 4]]
def l57r7 : List AOper :=
  [AOper.mk (some 26) (.mv (.tmp 1)) none [], AOper.mk (some 27) (.load true 2 (.tmp 7)) none [], AOper.mk (some 28) (.raw (Op.call (Call.mk (Callee.value (.tmp 26)) (Array.mk [.tmp 27]) (Array.mk [57])))) none [0, 1], AOper.mk (some 29) (.un .not (.tmp 28)) none [2]]
def l57r8 : List AOper :=
  [AOper.mk (some 30) (.mv (.tmp 0)) none [], AOper.mk (some 31) (.mv (.tmp 5)) none [], AOper.mk (some 32) (.load true 2 (.tmp 7)) none [], AOper.mk (some 33) (.idxA 2 (.tmp 30) (.tmp 31)) none [0, 1, 0, 1, 2], AOper.mk none (.store 2 (.tmp 33) (.tmp 32)) none [3, 2, 0, 1, 2]]
def l57r9 : List AOper :=
  [AOper.mk (some 34) (.mv (.tmp 5)) none [], AOper.mk (some 35) (.bin .add (.tmp 34) (.const (.int .i64 1))) none [0], AOper.mk (some 5) (.mv (.tmp 35)) none [1, 0, 1]]
def l57r10 : List AOper :=
  [AOper.mk (some 20) (.mv (.tmp 6)) none [], AOper.mk (some 21) (.bin .add (.tmp 20) (.const (.int .i64 1))) none [0], AOper.mk (some 6) (.mv (.tmp 21)) none [1, 0, 1]]
def l57r11 : List AOper :=
  [AOper.mk (some 36) (.mv (.tmp 0)) none [], AOper.mk (some 37) (.mv (.tmp 5)) none [], AOper.mk (some 38) (.slice 2 (.tmp 36) (some (.tmp 37)) none) none [0, 1], AOper.mk none (.clr 2 [.int .i64 0, .int .i64 0] (.tmp 38)) none [2]]
def l57r12 : List AOper :=
  [AOper.mk (some 39) (.mv (.tmp 0)) none [], AOper.mk (some 40) (.mv (.tmp 5)) none [], AOper.mk (some 41) (.slice 2 (.tmp 39) none (some (.tmp 40))) none [0, 1], AOper.mk (some 4) (.mv (.tmp 41)) none [2, 0, 1, 2]]
def l57 : AFn :=
  (AFn.mk 42 2 (ACode.seq (ACode.reg l57r0) (ACode.seq (ACode.reg l57r1) (ACode.seq (ACode.seq (ACode.reg l57r2) (ACode.cond (.tmp 12) (ACode.seq (ACode.reg l57r3) ACode.ret) ACode.skip)) (ACode.seq (ACode.seq (ACode.reg l57r4) (ACode.block 0 (ACode.loop (ACode.seq (ACode.seq (ACode.reg l57r5) (ACode.cond (.tmp 19) ACode.skip (ACode.exit 0))) (ACode.seq (ACode.block 1 (ACode.seq (ACode.reg l57r6) (ACode.seq (ACode.reg l57r7) (ACode.cond (.tmp 29) (ACode.seq (ACode.reg l57r8) (ACode.reg l57r9)) ACode.skip)))) (ACode.reg l57r10)))))) (ACode.seq (ACode.reg l57r11) (ACode.seq (ACode.reg l57r12) ACode.ret)))))) [ARes.tmp 4])
theorem l57_eq : lowFn Try.prog 57 = some l57 := by kernel_rfl
def l58r0 : List AOper :=
  [AOper.mk (some 1) (.box (.tmp 0)) none [], AOper.mk (some 2) (.mv (.const (.bool false))) none []]
def l58r1 : List AOper :=
  [AOper.mk (some 3) (.fld 0 (.tmp 1)) none [], AOper.mk (some 4) (.load false 1 (.tmp 3)) none [0], AOper.mk (some 5) (.bin .eql (.tmp 4) (.const (.int .i64 1))) none [1], AOper.mk (some 2) (.mv (.tmp 5)) none [2, 0, 1, 2]]
def l58 : AFn :=
  (AFn.mk 6 1 (ACode.seq (ACode.reg l58r0) (ACode.seq (ACode.reg l58r1) ACode.ret)) [ARes.tmp 2])
theorem l58_eq : lowFn Try.prog 58 = some l58 := by kernel_rfl
def l59r0 : List AOper :=
  [AOper.mk (some 6) (.mv (.const (.bool false))) none []]
def l59r1 : List AOper :=
  [AOper.mk (some 7) (.mv (.const (.int .i64 0))) none []]
def l59r2 : List AOper :=
  [AOper.mk (some 8) (.mv (.tmp 7)) none [], AOper.mk (some 9) (.mv (.tmp 0)) none [], AOper.mk (some 10) (.len (.tmp 9)) none [1], AOper.mk (some 11) (.bin .lss (.tmp 8) (.tmp 10)) none [0, 2]]
def l59r3 : List AOper :=
  [AOper.mk (some 14) (.mv (.tmp 0)) none [], AOper.mk (some 15) (.mv (.tmp 7)) none [], AOper.mk (some 16) (.idxA 1 (.tmp 14) (.tmp 15)) none [0, 1], AOper.mk (some 17) (.load false 1 (.tmp 16)) none [2], AOper.mk (some 18) (.mv (.tmp 1)) none [], AOper.mk (some 19) (.mv (.tmp 2)) none [], AOper.mk (some 20) (.call 32 [.tmp 17, .tmp 18, .tmp 19]) none [3, 4, 5], AOper.mk (some 21) (.un .not (.tmp 20)) none [6]]
def l59r4 : List AOper :=
  [AOper.mk (some 6) (.mv (.const (.bool false))) none []]
def l59r5 : List AOper :=
  [AOper.mk (some 12) (.mv (.tmp 7)) none [], AOper.mk (some 13) (.bin .add (.tmp 12) (.const (.int .i64 1))) none [0], AOper.mk (some 7) (.mv (.tmp 13)) none [1, 0, 1]]
def l59r6 : List AOper :=
  [AOper.mk (some 6) (.mv (.const (.bool true))) none []]
def l59 : AFn :=
  (AFn.mk 22 3 (ACode.seq (ACode.reg l59r0) (ACode.seq (ACode.seq (ACode.reg l59r1) (ACode.block 0 (ACode.loop (ACode.seq (ACode.seq (ACode.reg l59r2) (ACode.cond (.tmp 11) ACode.skip (ACode.exit 0))) (ACode.seq (ACode.block 1 (ACode.seq (ACode.reg l59r3) (ACode.cond (.tmp 21) (ACode.seq (ACode.reg l59r4) ACode.ret) ACode.skip))) (ACode.reg l59r5)))))) (ACode.seq (ACode.reg l59r6) ACode.ret))) [ARes.tmp 6])
theorem l59_eq : lowFn Try.prog 59 = some l59 := by kernel_rfl
def l60r0 : List AOper :=
  [AOper.mk (some 2) (.mv (.const (.int .i64 0))) none []]
def l60r1 : List AOper :=
  [AOper.mk (some 3) (.mv (.const (.int .i64 1))) none []]
def l60r2 : List AOper :=
  [AOper.mk (some 4) (.mv (.const (.int .i64 0))) none []]
def l60r3 : List AOper :=
  [AOper.mk (some 5) (.mv (.tmp 4)) none [], AOper.mk (some 6) (.mv (.tmp 0)) none [], AOper.mk (some 7) (.len (.tmp 6)) none [1], AOper.mk (some 8) (.bin .lss (.tmp 5) (.tmp 7)) none [0, 2]]
def l60r4 : List AOper :=
  [AOper.mk (some 11) (.mv (.tmp 3)) none [], AOper.mk (some 12) (.mv (.tmp 0)) none [], AOper.mk (some 13) (.mv (.tmp 4)) none [], AOper.mk (some 14) (.idxA 1 (.tmp 12) (.tmp 13)) none [1, 2], AOper.mk (some 15) (.load false 1 (.tmp 14)) none [3], AOper.mk (some 16) (.bin .mul (.tmp 11) (.tmp 15)) none [0, 4], AOper.mk (some 3) (.mv (.tmp 16)) none [5, 0, 1, 2, 3, 4, 5]]
def l60r5 : List AOper :=
  [AOper.mk (some 9) (.mv (.tmp 4)) none [], AOper.mk (some 10) (.bin .add (.tmp 9) (.const (.int .i64 1))) none [0], AOper.mk (some 4) (.mv (.tmp 10)) none [1, 0, 1]]
def l60r6 : List AOper :=
  [AOper.mk (some 17) (.mv (.tmp 3)) none [], AOper.mk (some 2) (.mv (.tmp 17)) none [0, 0]]
def l60 : AFn :=
  (AFn.mk 18 1 (ACode.seq (ACode.reg l60r0) (ACode.seq (ACode.reg l60r1) (ACode.seq (ACode.seq (ACode.reg l60r2) (ACode.block 0 (ACode.loop (ACode.seq (ACode.seq (ACode.reg l60r3) (ACode.cond (.tmp 8) ACode.skip (ACode.exit 0))) (ACode.seq (ACode.block 1 (ACode.reg l60r4)) (ACode.reg l60r5)))))) (ACode.seq (ACode.reg l60r6) ACode.ret)))) [ARes.tmp 2])
theorem l60_eq : lowFn Try.prog 60 = some l60 := by kernel_rfl
def l61r0 : List AOper :=
  [AOper.mk (some 1) (.box (.tmp 0)) none [], AOper.mk (some 2) (.mv (.const (.slice none 0 0))) none []]
def l61r1 : List AOper :=
  [AOper.mk (some 5) (.bslice 1 [.int .i64 0] [] 0) none [], AOper.mk (some 3) (.mv (.tmp 5)) none [0, 0]]
def l61r2 : List AOper :=
  [AOper.mk (some 4) (.mv (.const (.int .i64 0))) none []]
def l61r3 : List AOper :=
  [AOper.mk (some 6) (.mv (.tmp 4)) none [], AOper.mk (some 7) (.fld 1 (.tmp 1)) none [], AOper.mk (some 8) (.load false 1 (.tmp 7)) none [1], AOper.mk (some 9) (.call 60 [.tmp 8]) none [2], AOper.mk (some 10) (.bin .lss (.tmp 6) (.tmp 9)) none [0, 3]]
def l61r4a : List AOper :=
  [AOper.mk (some 13) (.mv (.tmp 3)) none [], AOper.mk (some 14) (.load true 3 (.tmp 1)) none [], AOper.mk (some 15) (.fld 1 (.tmp 1)) none [], AOper.mk (some 16) (.load false 1 (.tmp 15)) none [2], AOper.mk (some 17) (.mv (.tmp 4)) none [], AOper.mk (some 18) (.call 86 [.tmp 16, .tmp 17]) none [3, 4], AOper.mk (some 19) (.call 85 [.tmp 14, .tmp 18]) none [1, 5, 5], AOper.mk (some 20) (.bslice 1 [.int .i64 0] [(0, .tmp 19)] 1) none [6]]
def l61r4b : List AOper :=
  [AOper.mk (some 21) (.append 1 (.tmp 13) (.tmp 20)) none [0, 7, 6], AOper.mk (some 3) (.mv (.tmp 21)) none [8, 8, 0, 1, 2, 3, 4, 5, 6, 7, 8]]
def l61r4 : List AOper := l61r4a ++ l61r4b
def l61r5 : List AOper :=
  [AOper.mk (some 11) (.mv (.tmp 4)) none [], AOper.mk (some 12) (.bin .add (.tmp 11) (.const (.int .i64 1))) none [0], AOper.mk (some 4) (.mv (.tmp 12)) none [1, 0, 1]]
def l61r6 : List AOper :=
  [AOper.mk (some 22) (.mv (.tmp 3)) none [], AOper.mk (some 2) (.mv (.tmp 22)) none [0, 0]]
def l61 : AFn :=
  (AFn.mk 23 1 (ACode.seq (ACode.reg l61r0) (ACode.seq (ACode.reg l61r1) (ACode.seq (ACode.seq (ACode.reg l61r2) (ACode.block 0 (ACode.loop (ACode.seq (ACode.seq (ACode.reg l61r3) (ACode.cond (.tmp 10) ACode.skip (ACode.exit 0))) (ACode.seq (ACode.block 1 (ACode.draw l61r4)) (ACode.reg l61r5)))))) (ACode.seq (ACode.reg l61r6) ACode.ret)))) [ARes.tmp 2])
theorem l61_eq : lowFn Try.prog 61 = some l61 := by kernel_rfl
def l63r0 : List AOper :=
  [AOper.mk (some 4) (.mv (.const (.bool false))) none []]
def l63r1 : List AOper :=
  [AOper.mk (some 7) (.mv (.tmp 0)) none [], AOper.mk (some 8) (.len (.tmp 7)) none [0], AOper.mk (some 9) (.mv (.tmp 1)) none [], AOper.mk (some 10) (.bin .neq (.tmp 8) (.tmp 9)) none [1, 2]]
def l63r2 : List AOper :=
  [AOper.mk (some 4) (.mv (.const (.bool false))) none []]
def l63r3 : List AOper :=
  [AOper.mk (some 11) (.mv (.tmp 0)) none [], AOper.mk (some 12) (.len (.tmp 11)) none [0], AOper.mk (some 13) (.mv (.const (.int .i64 0))) none []]
def l63r4 : List AOper :=
  [AOper.mk (some 14) (.bin .lss (.tmp 13) (.tmp 12)) none []]
def l63r5 : List AOper :=
  [AOper.mk (some 15) (.idxA 1 (.tmp 11) (.tmp 13)) none [], AOper.mk (some 16) (.load false 1 (.tmp 15)) none [0], AOper.mk (some 6) (.mv (.tmp 16)) none [1, 0, 1]]
def l63r6 : List AOper :=
  [AOper.mk (some 17) (.mv (.tmp 6)) none [], AOper.mk (some 18) (.call 87 [.tmp 17, .const (.int .i64 60)]) none [0], AOper.mk (some 19) (.un .not (.tmp 18)) none [1]]
def l63r7 : List AOper :=
  [AOper.mk (some 4) (.mv (.const (.bool false))) none []]
def l63r8 : List AOper :=
  [AOper.mk (some 20) (.bin .add (.tmp 13) (.const (.int .i64 1))) none [], AOper.mk (some 13) (.mv (.tmp 20)) none [0]]
def l63r9 : List AOper :=
  [AOper.mk (some 4) (.mv (.const (.bool true))) none []]
def l63 : AFn :=
  (AFn.mk 21 2 (ACode.seq (ACode.reg l63r0) (ACode.seq (ACode.seq (ACode.reg l63r1) (ACode.cond (.tmp 10) (ACode.seq (ACode.reg l63r2) ACode.ret) ACode.skip)) (ACode.seq (ACode.seq (ACode.reg l63r3) (ACode.block 0 (ACode.loop (ACode.seq (ACode.reg l63r4) (ACode.seq (ACode.cond (.tmp 14) ACode.skip (ACode.exit 0)) (ACode.seq (ACode.block 1 (ACode.seq (ACode.reg l63r5) (ACode.seq (ACode.reg l63r6) (ACode.cond (.tmp 19) (ACode.seq (ACode.reg l63r7) ACode.ret) ACode.skip)))) (ACode.reg l63r8))))))) (ACode.seq (ACode.reg l63r9) ACode.ret)))) [ARes.tmp 4])
theorem l63_eq : lowFn Try.prog 63 = some l63 := by kernel_rfl
def l64r0 : List AOper :=
  [AOper.mk (some 1) (.box (.tmp 0)) none [], AOper.mk (some 2) (.mv (.const (.int .i64 0))) none [], AOper.mk (some 3) (.mv (.const (.int .i64 0))) none [1]]
def l64r1 : List AOper :=
  [AOper.mk (some 9) (.load true 3 (.tmp 1)) none [], AOper.mk (some 10) (.call 65 [.tmp 9]) none [0], AOper.mk (some 11) (.bin .eql (.tmp 10) (.const (.int .i64 0))) none [1]]
def l64r2 : List AOper :=
  [AOper.mk (some 2) (.mv (.const (.int .i64 (-1)))) none [], AOper.mk (some 3) (.mv (.const (.int .i64 (-1)))) none [0, 0]]
def l64r3a : List AOper :=
  [AOper.mk (some 12) (.fld 0 (.tmp 1)) none [], AOper.mk (some 13) (.load false 1 (.tmp 12)) none [0], AOper.mk (some 14) (.fld 0 (.tmp 1)) none [], AOper.mk (some 15) (.load false 1 (.tmp 14)) none [2], AOper.mk (some 4) (.mv (.tmp 13)) none [1, 0, 1]]
def l64r3b : List AOper :=
  [AOper.mk (some 5) (.mv (.tmp 15)) none [3, 4, 0, 1, 2, 3, 4]]
def l64r3 : List AOper := l64r3a ++ l64r3b
def l64r4 : List AOper :=
  [AOper.mk (some 16) (.fld 2 (.tmp 1)) none [], AOper.mk (some 17) (.load false 1 (.tmp 16)) none [0], AOper.mk (some 18) (.len (.tmp 17)) none [1], AOper.mk (some 19) (.mv (.const (.int .i64 0))) none []]
def l64r5 : List AOper :=
  [AOper.mk (some 20) (.bin .lss (.tmp 19) (.tmp 18)) none []]
def l64r6 : List AOper :=
  [AOper.mk (some 21) (.mv (.tmp 19)) none [], AOper.mk (some 22) (.idxA 1 (.tmp 17) (.tmp 19)) none [], AOper.mk (some 23) (.load false 1 (.tmp 22)) none [1], AOper.mk (some 6) (.mv (.tmp 21)) none [0, 0, 1, 2], AOper.mk (some 7) (.mv (.tmp 23)) none [2, 3, 0, 1, 2, 3]]
def l64r7 : List AOper :=
  [AOper.mk (some 24) (.fld 1 (.tmp 1)) none [], AOper.mk (some 25) (.load false 1 (.tmp 24)) none [0], AOper.mk (some 26) (.mv (.tmp 6)) none [], AOper.mk (some 27) (.idxA 1 (.tmp 25) (.tmp 26)) none [1, 2], AOper.mk (some 28) (.load false 1 (.tmp 27)) none [3], AOper.mk (some 29) (.bin .sub (.tmp 28) (.const (.int .i64 1))) none [4], AOper.mk (some 30) (.mv (.tmp 7)) none [], AOper.mk (some 31) (.bin .mul (.tmp 29) (.tmp 30)) none [5, 6], AOper.mk (some 8) (.mv (.tmp 31)) none [7, 0, 1, 2, 3, 4, 5, 6, 7]]
def l64r8 : List AOper :=
  [AOper.mk (some 32) (.mv (.tmp 4)) none [], AOper.mk (some 33) (.mv (.tmp 8)) none [], AOper.mk (some 34) (.minmax false (.tmp 33) (.const (.int .i64 0))) none [1], AOper.mk (some 35) (.bin .add (.tmp 32) (.tmp 34)) none [0, 2], AOper.mk (some 4) (.mv (.tmp 35)) none [3, 0, 1, 2, 3]]
def l64r9 : List AOper :=
  [AOper.mk (some 36) (.mv (.tmp 5)) none [], AOper.mk (some 37) (.mv (.tmp 8)) none [], AOper.mk (some 38) (.minmax true (.tmp 37) (.const (.int .i64 0))) none [1], AOper.mk (some 39) (.bin .add (.tmp 36) (.tmp 38)) none [0, 2], AOper.mk (some 5) (.mv (.tmp 39)) none [3, 0, 1, 2, 3]]
def l64r10 : List AOper :=
  [AOper.mk (some 40) (.bin .add (.tmp 19) (.const (.int .i64 1))) none [], AOper.mk (some 19) (.mv (.tmp 40)) none [0]]
def l64r11 : List AOper :=
  [AOper.mk (some 41) (.mv (.tmp 4)) none [], AOper.mk (some 42) (.mv (.tmp 5)) none [], AOper.mk (some 2) (.mv (.tmp 41)) none [0, 0], AOper.mk (some 3) (.mv (.tmp 42)) none [1, 2, 0, 1, 2]]
def l64 : AFn :=
  (AFn.mk 43 1 (ACode.seq (ACode.reg l64r0) (ACode.seq (ACode.seq (ACode.reg l64r1) (ACode.cond (.tmp 11) (ACode.seq (ACode.reg l64r2) ACode.ret) ACode.skip)) (ACode.seq (ACode.draw l64r3) (ACode.seq (ACode.seq (ACode.reg l64r4) (ACode.block 0 (ACode.loop (ACode.seq (ACode.reg l64r5) (ACode.seq (ACode.cond (.tmp 20) ACode.skip (ACode.exit 0)) (ACode.seq (ACode.block 1 (ACode.seq (ACode.reg l64r6) (ACode.seq (ACode.reg l64r7) (ACode.seq (ACode.reg l64r8) (ACode.reg l64r9))))) (ACode.reg l64r10))))))) (ACode.seq (ACode.reg l64r11) ACode.ret))))) [ARes.tmp 2, ARes.tmp 3])
theorem l64_eq : lowFn Try.prog 64 = some l64 := by kernel_rfl
def l65r0 : List AOper :=
  [AOper.mk (some 1) (.box (.tmp 0)) none [], AOper.mk (some 2) (.mv (.const (.int .i64 0))) none []]
def l65r1 : List AOper :=
  [AOper.mk (some 3) (.fld 1 (.tmp 1)) none [], AOper.mk (some 4) (.load false 1 (.tmp 3)) none [0], AOper.mk (some 5) (.call 69 [.tmp 4]) none [1], AOper.mk (some 2) (.mv (.tmp 5)) none [2, 2, 0, 1, 2]]
def l65 : AFn :=
  (AFn.mk 6 1 (ACode.seq (ACode.reg l65r0) (ACode.seq (ACode.reg l65r1) ACode.ret)) [ARes.tmp 2])
theorem l65_eq : lowFn Try.prog 65 = some l65 := by kernel_rfl
def l68r0 : List AOper :=
  [AOper.mk (some 2) (.box (.tmp 0)) none [], AOper.mk (some 3) (.box (.tmp 1)) none [], AOper.mk (some 4) (.mv (.const (.int .i64 0))) none []]
def l68r1a : List AOper :=
  [AOper.mk (some 5) (.fld 0 (.tmp 2)) none [], AOper.mk (some 6) (.load false 1 (.tmp 5)) none [0], AOper.mk (some 7) (.load true 4 (.tmp 3)) none [], AOper.mk (some 8) (.fld 2 (.tmp 2)) none [], AOper.mk (some 9) (.load false 1 (.tmp 8)) none [3], AOper.mk (some 10) (.call 89 [.tmp 7, .tmp 9]) none [2, 4]]
def l68r1b : List AOper :=
  [AOper.mk (some 11) (.bin .add (.tmp 6) (.tmp 10)) none [1, 5], AOper.mk (some 4) (.mv (.tmp 11)) none [6, 5, 0, 1, 2, 3, 4, 5, 6]]
def l68r1 : List AOper := l68r1a ++ l68r1b
def l68 : AFn :=
  (AFn.mk 12 2 (ACode.seq (ACode.reg l68r0) (ACode.seq (ACode.draw l68r1) ACode.ret)) [ARes.tmp 4])
theorem l68_eq : lowFn Try.prog 68 = some l68 := by kernel_rfl
def l69r0 : List AOper :=
  [AOper.mk (some 2) (.mv (.const (.int .i64 0))) none []]
def l69r1 : List AOper :=
  [AOper.mk (some 3) (.mv (.const (.int .i64 1))) none []]
def l69r2 : List AOper :=
  [AOper.mk (some 6) (.mv (.tmp 0)) none [], AOper.mk (some 7) (.len (.tmp 6)) none [0], AOper.mk (some 8) (.mv (.const (.int .i64 0))) none []]
def l69r3 : List AOper :=
  [AOper.mk (some 9) (.bin .lss (.tmp 8) (.tmp 7)) none []]
def l69r4 : List AOper :=
  [AOper.mk (some 10) (.idxA 1 (.tmp 6) (.tmp 8)) none [], AOper.mk (some 11) (.load false 1 (.tmp 10)) none [0], AOper.mk (some 5) (.mv (.tmp 11)) none [1, 0, 1]]
def l69r5 : List AOper :=
  [AOper.mk (some 12) (.mv (.tmp 3)) none [], AOper.mk (some 13) (.mv (.tmp 5)) none [], AOper.mk (some 14) (.bin .mul (.tmp 12) (.tmp 13)) none [0, 1], AOper.mk (some 3) (.mv (.tmp 14)) none [2, 0, 1, 2]]
def l69r6 : List AOper :=
  [AOper.mk (some 15) (.bin .add (.tmp 8) (.const (.int .i64 1))) none [], AOper.mk (some 8) (.mv (.tmp 15)) none [0]]
def l69r7 : List AOper :=
  [AOper.mk (some 16) (.mv (.tmp 3)) none [], AOper.mk (some 2) (.mv (.tmp 16)) none [0, 0]]
def l69 : AFn :=
  (AFn.mk 17 1 (ACode.seq (ACode.reg l69r0) (ACode.seq (ACode.reg l69r1) (ACode.seq (ACode.seq (ACode.reg l69r2) (ACode.block 0 (ACode.loop (ACode.seq (ACode.reg l69r3) (ACode.seq (ACode.cond (.tmp 9) ACode.skip (ACode.exit 0)) (ACode.seq (ACode.block 1 (ACode.seq (ACode.reg l69r4) (ACode.reg l69r5))) (ACode.reg l69r6))))))) (ACode.seq (ACode.reg l69r7) ACode.ret)))) [ARes.tmp 2])
theorem l69_eq : lowFn Try.prog 69 = some l69 := by kernel_rfl
def l84r0 : List AOper :=
  [AOper.mk (some 4) (.mv (.const (.int .i64 0))) none []]
def l84r1 : List AOper :=
  [AOper.mk (some 6) (.mv (.tmp 0)) none [], AOper.mk (some 7) (.len (.tmp 6)) none [0], AOper.mk (some 8) (.mv (.const (.int .i64 0))) none []]
def l84r2 : List AOper :=
  [AOper.mk (some 9) (.bin .lss (.tmp 8) (.tmp 7)) none []]
def l84r3 : List AOper :=
  [AOper.mk (some 10) (.mv (.tmp 8)) none [], AOper.mk (some 5) (.mv (.tmp 10)) none [0, 0]]
def l84r4 : List AOper :=
  [AOper.mk (some 11) (.mv (.tmp 1)) none [], AOper.mk (some 12) (.mv (.tmp 0)) none [], AOper.mk (some 13) (.mv (.tmp 5)) none [], AOper.mk (some 14) (.idxA 2 (.tmp 12) (.tmp 13)) none [1, 2], AOper.mk (some 15) (.load true 2 (.tmp 14)) none [3], AOper.mk (some 16) (.raw (Op.call (Call.mk (Callee.value (.tmp 11)) (Array.mk [.tmp 15]) (Array.mk [57])))) none [0, 4]]
def l84r5 : List AOper :=
  [AOper.mk (some 17) (.mv (.tmp 5)) none [], AOper.mk (some 4) (.mv (.tmp 17)) none [0, 0]]
def l84r6 : List AOper :=
  [AOper.mk (some 18) (.bin .add (.tmp 8) (.const (.int .i64 1))) none [], AOper.mk (some 8) (.mv (.tmp 18)) none [0]]
def l84r7 : List AOper :=
  [AOper.mk (some 4) (.mv (.const (.int .i64 (-1)))) none []]
def l84 : AFn :=
  (AFn.mk 19 2 (ACode.seq (ACode.reg l84r0) (ACode.seq (ACode.seq (ACode.reg l84r1) (ACode.block 0 (ACode.loop (ACode.seq (ACode.reg l84r2) (ACode.seq (ACode.cond (.tmp 9) ACode.skip (ACode.exit 0)) (ACode.seq (ACode.block 1 (ACode.seq (ACode.reg l84r3) (ACode.seq (ACode.reg l84r4) (ACode.cond (.tmp 16) (ACode.seq (ACode.reg l84r5) ACode.ret) ACode.skip)))) (ACode.reg l84r6))))))) (ACode.seq (ACode.reg l84r7) ACode.ret))) [ARes.tmp 4])
theorem l84_eq : lowFn Try.prog 84 = some l84 := by kernel_rfl
def l85r0 : List AOper :=
  [AOper.mk (some 2) (.box (.tmp 0)) none [], AOper.mk (some 4) (.mv (.const (.int .i64 0))) none []]
def l85r1 : List AOper :=
  [AOper.mk (some 7) (.fld 0 (.tmp 2)) none [], AOper.mk (some 8) (.load false 1 (.tmp 7)) none [0], AOper.mk (some 5) (.mv (.tmp 8)) none [1, 0, 1]]
def l85r2 : List AOper :=
  [AOper.mk (some 6) (.mv (.const (.int .i64 0))) none []]
def l85r3 : List AOper :=
  [AOper.mk (some 9) (.mv (.tmp 6)) none [], AOper.mk (some 10) (.mv (.tmp 1)) none [], AOper.mk (some 11) (.len (.tmp 10)) none [1], AOper.mk (some 12) (.bin .lss (.tmp 9) (.tmp 11)) none [0, 2]]
def l85r4a : List AOper :=
  [AOper.mk (some 15) (.mv (.tmp 5)) none [], AOper.mk (some 16) (.mv (.tmp 1)) none [], AOper.mk (some 17) (.mv (.tmp 6)) none [], AOper.mk (some 18) (.idxA 1 (.tmp 16) (.tmp 17)) none [1, 2], AOper.mk (some 19) (.load false 1 (.tmp 18)) none [3], AOper.mk (some 20) (.fld 2 (.tmp 2)) none [], AOper.mk (some 21) (.load false 1 (.tmp 20)) none [5], AOper.mk (some 22) (.mv (.tmp 6)) none [], AOper.mk (some 23) (.idxA 1 (.tmp 21) (.tmp 22)) none [6, 7], AOper.mk (some 24) (.load false 1 (.tmp 23)) none [8], AOper.mk (some 25) (.bin .mul (.tmp 19) (.tmp 24)) none [4, 9]]
def l85r4b : List AOper :=
  [AOper.mk (some 26) (.bin .add (.tmp 15) (.tmp 25)) none [0, 10], AOper.mk (some 5) (.mv (.tmp 26)) none [11, 0, 1, 2, 3, 4, 5, 6, 7, 8, 9, 10, 11]]
def l85r4 : List AOper := l85r4a ++ l85r4b
def l85r5 : List AOper :=
  [AOper.mk (some 13) (.mv (.tmp 6)) none [], AOper.mk (some 14) (.bin .add (.tmp 13) (.const (.int .i64 1))) none [0], AOper.mk (some 6) (.mv (.tmp 14)) none [1, 0, 1]]
def l85r6 : List AOper :=
  [AOper.mk (some 27) (.mv (.tmp 5)) none [], AOper.mk (some 4) (.mv (.tmp 27)) none [0, 0]]
def l85 : AFn :=
  (AFn.mk 28 2 (ACode.seq (ACode.reg l85r0) (ACode.seq (ACode.reg l85r1) (ACode.seq (ACode.seq (ACode.reg l85r2) (ACode.block 0 (ACode.loop (ACode.seq (ACode.seq (ACode.reg l85r3) (ACode.cond (.tmp 12) ACode.skip (ACode.exit 0))) (ACode.seq (ACode.block 1 (ACode.draw l85r4)) (ACode.reg l85r5)))))) (ACode.seq (ACode.reg l85r6) ACode.ret)))) [ARes.tmp 4])
theorem l85_eq : lowFn Try.prog 85 = some l85 := by kernel_rfl
def l86r0 : List AOper :=
  [AOper.mk (some 4) (.mv (.const (.slice none 0 0))) none []]
def l86r1 : List AOper :=
  [AOper.mk (some 7) (.mv (.tmp 0)) none [], AOper.mk (some 8) (.len (.tmp 7)) none [0], AOper.mk (some 9) (.mkslice 1 [.int .i64 0] (.tmp 8) (.tmp 8)) none [1, 1], AOper.mk (some 5) (.mv (.tmp 9)) none [2, 0, 1, 2]]
def l86r2 : List AOper :=
  [AOper.mk (some 10) (.mv (.tmp 0)) none [], AOper.mk (some 11) (.len (.tmp 10)) none [0], AOper.mk (some 12) (.bin .sub (.tmp 11) (.const (.int .i64 1))) none [1], AOper.mk (some 6) (.mv (.tmp 12)) none [2, 0, 1, 2]]
def l86r3 : List AOper :=
  [AOper.mk (some 13) (.mv (.tmp 6)) none [], AOper.mk (some 14) (.bin .geq (.tmp 13) (.const (.int .i64 0))) none [0]]
def l86r4 : List AOper :=
  [AOper.mk (some 17) (.mv (.tmp 5)) none [], AOper.mk (some 18) (.mv (.tmp 6)) none [], AOper.mk (some 19) (.mv (.tmp 1)) none [], AOper.mk (some 20) (.mv (.tmp 0)) none [], AOper.mk (some 21) (.mv (.tmp 6)) none [], AOper.mk (some 22) (.idxA 1 (.tmp 20) (.tmp 21)) none [3, 4], AOper.mk (some 23) (.load false 1 (.tmp 22)) none [5], AOper.mk (some 24) (.bin .rem (.tmp 19) (.tmp 23)) none [2, 6], AOper.mk (some 25) (.idxA 1 (.tmp 17) (.tmp 18)) none [0, 1, 0, 1, 2, 3, 4, 5, 6, 7], AOper.mk none (.store 1 (.tmp 25) (.tmp 24)) none [8, 7, 0, 1, 2, 3, 4, 5, 6, 7]]
def l86r5 : List AOper :=
  [AOper.mk (some 26) (.mv (.tmp 1)) none [], AOper.mk (some 27) (.mv (.tmp 0)) none [], AOper.mk (some 28) (.mv (.tmp 6)) none [], AOper.mk (some 29) (.idxA 1 (.tmp 27) (.tmp 28)) none [1, 2], AOper.mk (some 30) (.load false 1 (.tmp 29)) none [3], AOper.mk (some 31) (.bin .quo (.tmp 26) (.tmp 30)) none [0, 4], AOper.mk (some 1) (.mv (.tmp 31)) none [5, 0, 1, 2, 3, 4, 5]]
def l86r6 : List AOper :=
  [AOper.mk (some 15) (.mv (.tmp 6)) none [], AOper.mk (some 16) (.bin .sub (.tmp 15) (.const (.int .i64 1))) none [0], AOper.mk (some 6) (.mv (.tmp 16)) none [1, 0, 1]]
def l86r7 : List AOper :=
  [AOper.mk (some 32) (.mv (.tmp 5)) none [], AOper.mk (some 4) (.mv (.tmp 32)) none [0, 0]]
def l86 : AFn :=
  (AFn.mk 33 2 (ACode.seq (ACode.reg l86r0) (ACode.seq (ACode.reg l86r1) (ACode.seq (ACode.seq (ACode.reg l86r2) (ACode.block 0 (ACode.loop (ACode.seq (ACode.seq (ACode.reg l86r3) (ACode.cond (.tmp 14) ACode.skip (ACode.exit 0))) (ACode.seq (ACode.block 1 (ACode.seq (ACode.reg l86r4) (ACode.reg l86r5))) (ACode.reg l86r6)))))) (ACode.seq (ACode.reg l86r7) ACode.ret)))) [ARes.tmp 4])
theorem l86_eq : lowFn Try.prog 86 = some l86 := by kernel_rfl
def l87r0 : List AOper :=
  [AOper.mk (some 4) (.mv (.const (.bool false))) none []]
def l87r1 : List AOper :=
  [AOper.mk (some 5) (.mv (.tmp 1)) none [], AOper.mk (some 6) (.un .neg (.tmp 5)) none [0], AOper.mk (some 7) (.mv (.tmp 0)) none [], AOper.mk (some 8) (.bin .leq (.tmp 6) (.tmp 7)) none [1, 2], AOper.mk (some 9) (.mv (.tmp 8)) none [3], AOper.mk (some 10) (.mv (.tmp 0)) (some (9, true)) [4], AOper.mk (some 11) (.mv (.tmp 1)) (some (9, true)) [4], AOper.mk (some 12) (.bin .leq (.tmp 10) (.tmp 11)) (some (9, true)) [5, 6, 4], AOper.mk (some 13) (.pick (.tmp 9) (.tmp 12) (.const (.bool false))) none [4, 7], AOper.mk (some 4) (.mv (.tmp 13)) none [8, 4, 0, 1, 2, 3, 4, 5, 6, 7, 8]]
def l87 : AFn :=
  (AFn.mk 14 2 (ACode.seq (ACode.reg l87r0) (ACode.seq (ACode.reg l87r1) ACode.ret)) [ARes.tmp 4])
theorem l87_eq : lowFn Try.prog 87 = some l87 := by kernel_rfl
def l89r0 : List AOper :=
  [AOper.mk (some 2) (.box (.tmp 0)) none [], AOper.mk (some 4) (.mv (.const (.int .i64 0))) none []]
def l89r1 : List AOper :=
  [AOper.mk (some 5) (.mv (.const (.int .i64 0))) none []]
def l89r2 : List AOper :=
  [AOper.mk (some 8) (.mv (.tmp 1)) none [], AOper.mk (some 9) (.len (.tmp 8)) none [0], AOper.mk (some 10) (.mv (.const (.int .i64 0))) none []]
def l89r3 : List AOper :=
  [AOper.mk (some 11) (.bin .lss (.tmp 10) (.tmp 9)) none []]
def l89r4 : List AOper :=
  [AOper.mk (some 12) (.mv (.tmp 10)) none [], AOper.mk (some 13) (.idxA 1 (.tmp 8) (.tmp 10)) none [], AOper.mk (some 14) (.load false 1 (.tmp 13)) none [1], AOper.mk (some 6) (.mv (.tmp 12)) none [0, 0, 1, 2], AOper.mk (some 7) (.mv (.tmp 14)) none [2, 3, 0, 1, 2, 3]]
def l89r5 : List AOper :=
  [AOper.mk (some 15) (.mv (.tmp 5)) none [], AOper.mk (some 16) (.mv (.tmp 6)) none [], AOper.mk (some 17) (.idxP 1 4 (.tmp 2) (.tmp 16)) none [1], AOper.mk (some 18) (.load false 1 (.tmp 17)) none [2], AOper.mk (some 19) (.mv (.tmp 7)) none [], AOper.mk (some 20) (.bin .mul (.tmp 18) (.tmp 19)) none [3, 4], AOper.mk (some 21) (.bin .add (.tmp 15) (.tmp 20)) none [0, 5], AOper.mk (some 5) (.mv (.tmp 21)) none [6, 0, 1, 2, 3, 4, 5, 6]]
def l89r6 : List AOper :=
  [AOper.mk (some 22) (.bin .add (.tmp 10) (.const (.int .i64 1))) none [], AOper.mk (some 10) (.mv (.tmp 22)) none [0]]
def l89r7 : List AOper :=
  [AOper.mk (some 23) (.mv (.tmp 5)) none [], AOper.mk (some 4) (.mv (.tmp 23)) none [0, 0]]
def l89 : AFn :=
  (AFn.mk 24 2 (ACode.seq (ACode.reg l89r0) (ACode.seq (ACode.reg l89r1) (ACode.seq (ACode.seq (ACode.reg l89r2) (ACode.block 0 (ACode.loop (ACode.seq (ACode.reg l89r3) (ACode.seq (ACode.cond (.tmp 11) ACode.skip (ACode.exit 0)) (ACode.seq (ACode.block 1 (ACode.seq (ACode.reg l89r4) (ACode.reg l89r5))) (ACode.reg l89r6))))))) (ACode.seq (ACode.reg l89r7) ACode.ret)))) [ARes.tmp 4])
theorem l89_eq : lowFn Try.prog 89 = some l89 := by kernel_rfl
end Go.Proofs.Ytbhkcmiphmaefaa
