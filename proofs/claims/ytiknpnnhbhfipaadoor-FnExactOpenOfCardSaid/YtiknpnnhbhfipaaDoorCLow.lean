import Derived.Test.YtiknpnnhbhfipaaDoorCW3
import Derived.Test.YtiknpnnhbhfipaaDoorProg
import Derived.KernelRfl
set_option maxRecDepth 100000
namespace Go.Proofs.YtiknpnnhbhfipaaDoor
open Vw Go
/-- Where the sentinel error lies. -/
class SentA where
  a : Addr
instance globs [SentA] : Inhabited GlobT := ⟨⟨[(0,[.iface 110 (.pointer (some SentA.a))])]⟩⟩
attribute [push_cast] Bool.false_eq_true List.length_replicate
attribute [bitvec_to_nat] decide_eq_true_eq decide_eq_false_iff_not Bool.not_eq_true' Bool.not_eq_false' Bool.and_eq_true Bool.or_eq_true Bool.and_eq_false_iff Bool.or_eq_false_iff Int.not_le Int.not_lt bne_iff_ne ne_eq beq_iff_eq Bool.not_eq_true Bool.not_eq_false
theorem sd {P : Prop} (h : P := by first | assumption | rfl | omega | (simp <;> omega) | (simp_all <;> omega)) : P := h
def l4r0 : List AOper :=
  [.mk (some 2) (.box (.tmp 0)) none [],.mk (some 4) (.mv (.const (.bool false))) none []]
def l4r1 : List AOper :=
  [.mk (some 5) (.mv (.const (.int .i64 1048576))) none []]
def l4r2 : List AOper :=
  [.mk (some 13) (.load true 2 (.tmp 2)) none [],.mk (some 14) (.mv (.tmp 5)) none [],.mk (some 15) (.call 7 [.tmp 13,.tmp 14]) none [0,1],.mk (some 5) (.mv (.tmp 15)) none [2,2,0,1,2]]
def l4r3 : List AOper :=
  [.mk (some 16) (.mv (.tmp 5)) none [],.mk (some 17) (.bin .lss (.tmp 16) (.const (.int .i64 0))) none [0]]
def l4r4 : List AOper :=
  [.mk (some 4) (.mv (.const (.bool true))) none []]
def l4r5 : List AOper :=
  [.mk (some 18) (.load true 2 (.tmp 2)) none [],.mk (some 19) (.call 9 [.tmp 18]) none [0],.mk (some 20) (.mv (.tmp 1)) none [],.mk (some 21) (.call 12 [.tmp 19,.tmp 20]) none [1,2,1],.mk (some 6) (.mv (.tmp 21)) none [3,3,0,1,2,3]]
def l4r6 : List AOper :=
  [.mk (some 22) (.load true 2 (.tmp 2)) none [],.mk (some 23) (.call 9 [.tmp 22]) none [0],.mk (some 7) (.alloc [.slice none 0 0,.slice none 0 0]) none [],.mk none (.store 2 (.tmp 7) (.tmp 23)) none [2,1,1,0,1,2]]
def l4r7 : List AOper :=
  [.mk (some 24) (.load true 2 (.tmp 7)) none [],.mk (some 25) (.mv (.tmp 1)) none [],.mk (some 26) (.call 13 [.tmp 24,.tmp 25]) none [0,1],.mk (some 8) (.mv (.tmp 26)) none [2,2,0,1,2]]
def l4r8 : List AOper :=
  [.mk (some 27) (.mv (.tmp 8)) none [],.mk (some 28) (.mv (.tmp 6)) none [],.mk (some 29) (.call 14 [.tmp 27,.tmp 28]) none [0,1],.mk (some 30) (.un .not (.tmp 29)) none [2]]
def l4r9 : List AOper :=
  [.mk (some 4) (.mv (.const (.bool false))) none []]
def l4r10a : List AOper :=
  [.mk (some 31) (.load true 2 (.tmp 7)) none [],.mk (some 32) (.load true 2 (.tmp 2)) none [],.mk (some 33) (.call 9 [.tmp 32]) none [1]]
def l4r10b : List AOper :=
  [.mk (some 34) (.call 11 [.tmp 31,.tmp 33]) none [0,2,2],.mk (some 35) (.un .not (.tmp 34)) none [3]]
def l4r10 : List AOper := l4r10a ++ l4r10b
def l4r11 : List AOper :=
  [.mk (some 4) (.mv (.const (.bool false))) none []]
def l4r12 : List AOper :=
  [.mk (some 9) (.mv (.const (.int .i64 1))) none []]
def l4r13 : List AOper :=
  [.mk (some 36) (.load true 2 (.tmp 7)) none [],.mk (some 37) (.mv (.tmp 9)) none [],.mk (some 38) (.call 15 [.tmp 36,.tmp 37]) none [0,1],.mk (some 9) (.mv (.tmp 38)) none [2,2,0,1,2]]
def l4r14 : List AOper :=
  [.mk (some 39) (.mv (.tmp 9)) none [],.mk (some 40) (.bin .lss (.tmp 39) (.const (.int .i64 0))) none [0],.mk (some 41) (.mv (.tmp 40)) none [1],.mk (some 42) (.mv (.tmp 8)) (some (41,false)) [2],.mk (some 43) (.mv (.tmp 6)) (some (41,false)) [2],.mk (some 44) (.call 14 [.tmp 42,.tmp 43]) (some (41,false)) [3,4,2,2],.mk (some 45) (.un .not (.tmp 44)) (some (41,false)) [5,2],.mk (some 46) (.pick (.tmp 41) (.const (.bool true)) (.tmp 45)) none [2,6]]
def l4r15 : List AOper :=
  [.mk (some 4) (.mv (.const (.bool false))) none []]
def l4r16 : List AOper :=
  [.mk (some 10) (.mv (.const (.int .i64 1))) none []]
def l4r17 : List AOper :=
  [.mk (some 47) (.mv (.tmp 8)) none [],.mk (some 48) (.mv (.tmp 10)) none [],.mk (some 49) (.call 16 [.tmp 47,.tmp 48]) none [0,1],.mk (some 10) (.mv (.tmp 49)) none [2,2,0,1,2]]
def l4r18 : List AOper :=
  [.mk (some 11) (.mv (.const (.int .i64 1))) none []]
def l4r19 : List AOper :=
  [.mk (some 50) (.mv (.tmp 8)) none [],.mk (some 51) (.mv (.tmp 11)) none [],.mk (some 52) (.call 17 [.tmp 50,.tmp 51]) none [0,1],.mk (some 11) (.mv (.tmp 52)) none [2,2,0,1,2]]
def l4r20 : List AOper :=
  [.mk (some 53) (.mv (.tmp 11)) none [],.mk (some 54) (.bin .lss (.tmp 53) (.const (.int .i64 0))) none [0]]
def l4r21 : List AOper :=
  [.mk (some 4) (.mv (.const (.bool false))) none []]
def l4r22 : List AOper :=
  [.mk (some 55) (.mv (.tmp 11)) none [],.mk (some 56) (.mv (.tmp 10)) none [],.mk (some 57) (.bin .neq (.tmp 55) (.tmp 56)) none [0,1]]
def l4r23 : List AOper :=
  [.mk (some 4) (.mv (.const (.bool false))) none []]
def l4r24 : List AOper :=
  [.mk (some 58) (.load true 2 (.tmp 2)) none [],.mk (some 59) (.call 9 [.tmp 58]) none [0],.mk (some 60) (.mv (.tmp 1)) none [],.mk (some 61) (.call 13 [.tmp 59,.tmp 60]) none [1,2,1],.mk (some 12) (.mv (.tmp 61)) none [3,3,0,1,2,3]]
def l4r25 : List AOper :=
  [.mk (some 62) (.mv (.tmp 12)) none [],.mk (some 63) (.mv (.tmp 6)) none [],.mk (some 64) (.call 14 [.tmp 62,.tmp 63]) none [0,1],.mk (some 65) (.un .not (.tmp 64)) none [2]]
def l4r26 : List AOper :=
  [.mk (some 4) (.mv (.const (.bool false))) none []]
def l4r27 : List AOper :=
  [.mk (some 11) (.mv (.const (.int .i64 1))) none []]
def l4r28 : List AOper :=
  [.mk (some 66) (.mv (.tmp 8)) none [],.mk (some 67) (.mv (.tmp 11)) none [],.mk (some 68) (.call 17 [.tmp 66,.tmp 67]) none [0,1],.mk (some 11) (.mv (.tmp 68)) none [2,2,0,1,2]]
def l4r29 : List AOper :=
  [.mk (some 69) (.mv (.tmp 11)) none [],.mk (some 70) (.bin .lss (.tmp 69) (.const (.int .i64 0))) none [0]]
def l4r30 : List AOper :=
  [.mk (some 4) (.mv (.const (.bool false))) none []]
def l4r31 : List AOper :=
  [.mk (some 71) (.mv (.tmp 11)) none [],.mk (some 72) (.mv (.tmp 10)) none [],.mk (some 73) (.bin .neq (.tmp 71) (.tmp 72)) none [0,1]]
def l4r32 : List AOper :=
  [.mk (some 4) (.mv (.const (.bool false))) none []]
def l4r33 : List AOper :=
  [.mk (some 4) (.mv (.const (.bool true))) none []]
def l4 : AFn :=
  (AFn.mk 74 2 (.seq (.reg l4r0) (.seq (.reg l4r1) (.seq (.reg l4r2) (.seq (.seq (.reg l4r3) (.cond (.tmp 17) (.seq (.reg l4r4) .ret) .skip)) (.seq (.reg l4r5) (.seq (.reg l4r6) (.seq (.reg l4r7) (.seq (.seq (.reg l4r8) (.cond (.tmp 30) (.seq (.reg l4r9) .ret) .skip)) (.seq (.seq (.draw l4r10) (.cond (.tmp 35) (.seq (.reg l4r11) .ret) .skip)) (.seq (.reg l4r12) (.seq (.reg l4r13) (.seq (.seq (.reg l4r14) (.cond (.tmp 46) (.seq (.reg l4r15) .ret) .skip)) (.seq (.reg l4r16) (.seq (.reg l4r17) (.seq (.reg l4r18) (.seq (.reg l4r19) (.seq (.seq (.reg l4r20) (.cond (.tmp 54) (.seq (.reg l4r21) .ret) .skip)) (.seq (.seq (.reg l4r22) (.cond (.tmp 57) (.seq (.reg l4r23) .ret) .skip)) (.seq (.reg l4r24) (.seq (.seq (.reg l4r25) (.cond (.tmp 65) (.seq (.reg l4r26) .ret) .skip)) (.seq (.reg l4r27) (.seq (.reg l4r28) (.seq (.seq (.reg l4r29) (.cond (.tmp 70) (.seq (.reg l4r30) .ret) .skip)) (.seq (.seq (.reg l4r31) (.cond (.tmp 73) (.seq (.reg l4r32) .ret) .skip)) (.seq (.reg l4r33) .ret))))))))))))))))))))))))) [.tmp 4])
theorem l4_eq : lowFn Tryd.prog 4 = some l4 := by kernel_rfl
def l5r0 : List AOper :=
  [.mk (some 1) (.box (.tmp 0)) none [],.mk (some 2) (.mv (.const (.bool false))) none []]
def l5r1 : List AOper :=
  [.mk (some 3) (.mv (.const (.int .i64 1048576))) none []]
def l5r2 : List AOper :=
  [.mk (some 11) (.load true 2 (.tmp 1)) none [],.mk (some 12) (.mv (.tmp 3)) none [],.mk (some 13) (.call 7 [.tmp 11,.tmp 12]) none [0,1],.mk (some 3) (.mv (.tmp 13)) none [2,2,0,1,2]]
def l5r3 : List AOper :=
  [.mk (some 14) (.mv (.tmp 3)) none [],.mk (some 15) (.bin .lss (.tmp 14) (.const (.int .i64 0))) none [0]]
def l5r4 : List AOper :=
  [.mk (some 2) (.mv (.const (.bool true))) none []]
def l5r5 : List AOper :=
  [.mk (some 16) (.load true 2 (.tmp 1)) none [],.mk (some 17) (.call 9 [.tmp 16]) none [0],.mk (some 18) (.call 18 [.tmp 17]) none [1,1],.mk (some 4) (.mv (.tmp 18)) none [2,2,0,1,2]]
def l5r6 : List AOper :=
  [.mk (some 19) (.load true 2 (.tmp 1)) none [],.mk (some 20) (.call 9 [.tmp 19]) none [0],.mk (some 5) (.alloc [.slice none 0 0,.slice none 0 0]) none [],.mk none (.store 2 (.tmp 5) (.tmp 20)) none [2,1,1,0,1,2]]
def l5r7 : List AOper :=
  [.mk (some 21) (.load true 2 (.tmp 5)) none [],.mk (some 22) (.call 19 [.tmp 21]) none [0],.mk (some 6) (.mv (.tmp 22)) none [1,1,0,1]]
def l5r8 : List AOper :=
  [.mk (some 23) (.mv (.tmp 6)) none [],.mk (some 24) (.mv (.tmp 4)) none [],.mk (some 25) (.call 14 [.tmp 23,.tmp 24]) none [0,1],.mk (some 26) (.un .not (.tmp 25)) none [2]]
def l5r9 : List AOper :=
  [.mk (some 2) (.mv (.const (.bool false))) none []]
def l5r10a : List AOper :=
  [.mk (some 27) (.load true 2 (.tmp 5)) none [],.mk (some 28) (.load true 2 (.tmp 1)) none [],.mk (some 29) (.call 9 [.tmp 28]) none [1]]
def l5r10b : List AOper :=
  [.mk (some 30) (.call 11 [.tmp 27,.tmp 29]) none [0,2,2],.mk (some 31) (.un .not (.tmp 30)) none [3]]
def l5r10 : List AOper := l5r10a ++ l5r10b
def l5r11 : List AOper :=
  [.mk (some 2) (.mv (.const (.bool false))) none []]
def l5r12 : List AOper :=
  [.mk (some 7) (.mv (.const (.int .i64 1))) none []]
def l5r13 : List AOper :=
  [.mk (some 32) (.load true 2 (.tmp 5)) none [],.mk (some 33) (.mv (.tmp 7)) none [],.mk (some 34) (.call 15 [.tmp 32,.tmp 33]) none [0,1],.mk (some 7) (.mv (.tmp 34)) none [2,2,0,1,2]]
def l5r14 : List AOper :=
  [.mk (some 35) (.mv (.tmp 7)) none [],.mk (some 36) (.bin .lss (.tmp 35) (.const (.int .i64 0))) none [0],.mk (some 37) (.mv (.tmp 36)) none [1],.mk (some 38) (.mv (.tmp 6)) (some (37,false)) [2],.mk (some 39) (.mv (.tmp 4)) (some (37,false)) [2],.mk (some 40) (.call 14 [.tmp 38,.tmp 39]) (some (37,false)) [3,4,2,2],.mk (some 41) (.un .not (.tmp 40)) (some (37,false)) [5,2],.mk (some 42) (.pick (.tmp 37) (.const (.bool true)) (.tmp 41)) none [2,6]]
def l5r15 : List AOper :=
  [.mk (some 2) (.mv (.const (.bool false))) none []]
def l5r16 : List AOper :=
  [.mk (some 8) (.mv (.const (.int .i64 1))) none []]
def l5r17 : List AOper :=
  [.mk (some 43) (.mv (.tmp 6)) none [],.mk (some 44) (.mv (.tmp 8)) none [],.mk (some 45) (.call 16 [.tmp 43,.tmp 44]) none [0,1],.mk (some 8) (.mv (.tmp 45)) none [2,2,0,1,2]]
def l5r18 : List AOper :=
  [.mk (some 9) (.mv (.const (.int .i64 1))) none []]
def l5r19 : List AOper :=
  [.mk (some 46) (.mv (.tmp 6)) none [],.mk (some 47) (.mv (.tmp 9)) none [],.mk (some 48) (.call 17 [.tmp 46,.tmp 47]) none [0,1],.mk (some 9) (.mv (.tmp 48)) none [2,2,0,1,2]]
def l5r20 : List AOper :=
  [.mk (some 49) (.mv (.tmp 9)) none [],.mk (some 50) (.bin .lss (.tmp 49) (.const (.int .i64 0))) none [0]]
def l5r21 : List AOper :=
  [.mk (some 2) (.mv (.const (.bool false))) none []]
def l5r22 : List AOper :=
  [.mk (some 51) (.mv (.tmp 9)) none [],.mk (some 52) (.mv (.tmp 8)) none [],.mk (some 53) (.bin .neq (.tmp 51) (.tmp 52)) none [0,1]]
def l5r23 : List AOper :=
  [.mk (some 2) (.mv (.const (.bool false))) none []]
def l5r24 : List AOper :=
  [.mk (some 54) (.load true 2 (.tmp 1)) none [],.mk (some 55) (.call 9 [.tmp 54]) none [0],.mk (some 56) (.call 19 [.tmp 55]) none [1,1],.mk (some 10) (.mv (.tmp 56)) none [2,2,0,1,2]]
def l5r25 : List AOper :=
  [.mk (some 57) (.mv (.tmp 10)) none [],.mk (some 58) (.mv (.tmp 4)) none [],.mk (some 59) (.call 14 [.tmp 57,.tmp 58]) none [0,1],.mk (some 60) (.un .not (.tmp 59)) none [2]]
def l5r26 : List AOper :=
  [.mk (some 2) (.mv (.const (.bool false))) none []]
def l5r27 : List AOper :=
  [.mk (some 9) (.mv (.const (.int .i64 1))) none []]
def l5r28 : List AOper :=
  [.mk (some 61) (.mv (.tmp 6)) none [],.mk (some 62) (.mv (.tmp 9)) none [],.mk (some 63) (.call 17 [.tmp 61,.tmp 62]) none [0,1],.mk (some 9) (.mv (.tmp 63)) none [2,2,0,1,2]]
def l5r29 : List AOper :=
  [.mk (some 64) (.mv (.tmp 9)) none [],.mk (some 65) (.bin .lss (.tmp 64) (.const (.int .i64 0))) none [0]]
def l5r30 : List AOper :=
  [.mk (some 2) (.mv (.const (.bool false))) none []]
def l5r31 : List AOper :=
  [.mk (some 66) (.mv (.tmp 9)) none [],.mk (some 67) (.mv (.tmp 8)) none [],.mk (some 68) (.bin .neq (.tmp 66) (.tmp 67)) none [0,1]]
def l5r32 : List AOper :=
  [.mk (some 2) (.mv (.const (.bool false))) none []]
def l5r33 : List AOper :=
  [.mk (some 2) (.mv (.const (.bool true))) none []]
def l5 : AFn :=
  (AFn.mk 69 1 (.seq (.reg l5r0) (.seq (.reg l5r1) (.seq (.reg l5r2) (.seq (.seq (.reg l5r3) (.cond (.tmp 15) (.seq (.reg l5r4) .ret) .skip)) (.seq (.reg l5r5) (.seq (.reg l5r6) (.seq (.reg l5r7) (.seq (.seq (.reg l5r8) (.cond (.tmp 26) (.seq (.reg l5r9) .ret) .skip)) (.seq (.seq (.draw l5r10) (.cond (.tmp 31) (.seq (.reg l5r11) .ret) .skip)) (.seq (.reg l5r12) (.seq (.reg l5r13) (.seq (.seq (.reg l5r14) (.cond (.tmp 42) (.seq (.reg l5r15) .ret) .skip)) (.seq (.reg l5r16) (.seq (.reg l5r17) (.seq (.reg l5r18) (.seq (.reg l5r19) (.seq (.seq (.reg l5r20) (.cond (.tmp 50) (.seq (.reg l5r21) .ret) .skip)) (.seq (.seq (.reg l5r22) (.cond (.tmp 53) (.seq (.reg l5r23) .ret) .skip)) (.seq (.reg l5r24) (.seq (.seq (.reg l5r25) (.cond (.tmp 60) (.seq (.reg l5r26) .ret) .skip)) (.seq (.reg l5r27) (.seq (.reg l5r28) (.seq (.seq (.reg l5r29) (.cond (.tmp 65) (.seq (.reg l5r30) .ret) .skip)) (.seq (.seq (.reg l5r31) (.cond (.tmp 68) (.seq (.reg l5r32) .ret) .skip)) (.seq (.reg l5r33) .ret))))))))))))))))))))))))) [.tmp 2])
theorem l5_eq : lowFn Tryd.prog 5 = some l5 := by kernel_rfl
def l6r0 : List AOper :=
  [.mk (some 2) (.box (.tmp 0)) none [],.mk (some 4) (.mv (.const (.bool false))) none []]
def l6r1 : List AOper :=
  [.mk (some 5) (.mv (.const (.int .i64 1048576))) none []]
def l6r2 : List AOper :=
  [.mk (some 13) (.load true 2 (.tmp 2)) none [],.mk (some 14) (.mv (.tmp 5)) none [],.mk (some 15) (.call 7 [.tmp 13,.tmp 14]) none [0,1],.mk (some 5) (.mv (.tmp 15)) none [2,2,0,1,2]]
def l6r3 : List AOper :=
  [.mk (some 16) (.mv (.tmp 5)) none [],.mk (some 17) (.bin .lss (.tmp 16) (.const (.int .i64 0))) none [0]]
def l6r4 : List AOper :=
  [.mk (some 4) (.mv (.const (.bool true))) none []]
def l6r5 : List AOper :=
  [.mk (some 18) (.load true 2 (.tmp 2)) none [],.mk (some 19) (.call 9 [.tmp 18]) none [0],.mk (some 20) (.mv (.tmp 1)) none [],.mk (some 21) (.call 20 [.tmp 19,.tmp 20]) none [1,2,1],.mk (some 6) (.mv (.tmp 21)) none [3,3,0,1,2,3]]
def l6r6 : List AOper :=
  [.mk (some 22) (.load true 2 (.tmp 2)) none [],.mk (some 23) (.call 9 [.tmp 22]) none [0],.mk (some 7) (.alloc [.slice none 0 0,.slice none 0 0]) none [],.mk none (.store 2 (.tmp 7) (.tmp 23)) none [2,1,1,0,1,2]]
def l6r7 : List AOper :=
  [.mk (some 24) (.load true 2 (.tmp 7)) none [],.mk (some 25) (.mv (.tmp 1)) none [],.mk (some 26) (.call 21 [.tmp 24,.tmp 25]) none [0,1],.mk (some 8) (.mv (.tmp 26)) none [2,2,0,1,2]]
def l6r8 : List AOper :=
  [.mk (some 27) (.mv (.tmp 8)) none [],.mk (some 28) (.mv (.tmp 6)) none [],.mk (some 29) (.call 14 [.tmp 27,.tmp 28]) none [0,1],.mk (some 30) (.un .not (.tmp 29)) none [2]]
def l6r9 : List AOper :=
  [.mk (some 4) (.mv (.const (.bool false))) none []]
def l6r10a : List AOper :=
  [.mk (some 31) (.load true 2 (.tmp 7)) none [],.mk (some 32) (.load true 2 (.tmp 2)) none [],.mk (some 33) (.call 9 [.tmp 32]) none [1]]
def l6r10b : List AOper :=
  [.mk (some 34) (.call 11 [.tmp 31,.tmp 33]) none [0,2,2],.mk (some 35) (.un .not (.tmp 34)) none [3]]
def l6r10 : List AOper := l6r10a ++ l6r10b
def l6r11 : List AOper :=
  [.mk (some 4) (.mv (.const (.bool false))) none []]
def l6r12 : List AOper :=
  [.mk (some 9) (.mv (.const (.int .i64 1))) none []]
def l6r13 : List AOper :=
  [.mk (some 36) (.load true 2 (.tmp 7)) none [],.mk (some 37) (.mv (.tmp 9)) none [],.mk (some 38) (.call 15 [.tmp 36,.tmp 37]) none [0,1],.mk (some 9) (.mv (.tmp 38)) none [2,2,0,1,2]]
def l6r14 : List AOper :=
  [.mk (some 39) (.mv (.tmp 9)) none [],.mk (some 40) (.bin .lss (.tmp 39) (.const (.int .i64 0))) none [0],.mk (some 41) (.mv (.tmp 40)) none [1],.mk (some 42) (.mv (.tmp 8)) (some (41,false)) [2],.mk (some 43) (.mv (.tmp 6)) (some (41,false)) [2],.mk (some 44) (.call 14 [.tmp 42,.tmp 43]) (some (41,false)) [3,4,2,2],.mk (some 45) (.un .not (.tmp 44)) (some (41,false)) [5,2],.mk (some 46) (.pick (.tmp 41) (.const (.bool true)) (.tmp 45)) none [2,6]]
def l6r15 : List AOper :=
  [.mk (some 4) (.mv (.const (.bool false))) none []]
def l6r16 : List AOper :=
  [.mk (some 10) (.mv (.const (.int .i64 1))) none []]
def l6r17 : List AOper :=
  [.mk (some 47) (.mv (.tmp 8)) none [],.mk (some 48) (.mv (.tmp 10)) none [],.mk (some 49) (.call 16 [.tmp 47,.tmp 48]) none [0,1],.mk (some 10) (.mv (.tmp 49)) none [2,2,0,1,2]]
def l6r18 : List AOper :=
  [.mk (some 11) (.mv (.const (.int .i64 1))) none []]
def l6r19 : List AOper :=
  [.mk (some 50) (.mv (.tmp 8)) none [],.mk (some 51) (.mv (.tmp 11)) none [],.mk (some 52) (.call 17 [.tmp 50,.tmp 51]) none [0,1],.mk (some 11) (.mv (.tmp 52)) none [2,2,0,1,2]]
def l6r20 : List AOper :=
  [.mk (some 53) (.mv (.tmp 11)) none [],.mk (some 54) (.bin .lss (.tmp 53) (.const (.int .i64 0))) none [0]]
def l6r21 : List AOper :=
  [.mk (some 4) (.mv (.const (.bool false))) none []]
def l6r22 : List AOper :=
  [.mk (some 55) (.mv (.tmp 11)) none [],.mk (some 56) (.mv (.tmp 10)) none [],.mk (some 57) (.bin .neq (.tmp 55) (.tmp 56)) none [0,1]]
def l6r23 : List AOper :=
  [.mk (some 4) (.mv (.const (.bool false))) none []]
def l6r24 : List AOper :=
  [.mk (some 58) (.load true 2 (.tmp 2)) none [],.mk (some 59) (.call 9 [.tmp 58]) none [0],.mk (some 60) (.mv (.tmp 1)) none [],.mk (some 61) (.call 21 [.tmp 59,.tmp 60]) none [1,2,1],.mk (some 12) (.mv (.tmp 61)) none [3,3,0,1,2,3]]
def l6r25 : List AOper :=
  [.mk (some 62) (.mv (.tmp 12)) none [],.mk (some 63) (.mv (.tmp 6)) none [],.mk (some 64) (.call 14 [.tmp 62,.tmp 63]) none [0,1],.mk (some 65) (.un .not (.tmp 64)) none [2]]
def l6r26 : List AOper :=
  [.mk (some 4) (.mv (.const (.bool false))) none []]
def l6r27 : List AOper :=
  [.mk (some 11) (.mv (.const (.int .i64 1))) none []]
def l6r28 : List AOper :=
  [.mk (some 66) (.mv (.tmp 8)) none [],.mk (some 67) (.mv (.tmp 11)) none [],.mk (some 68) (.call 17 [.tmp 66,.tmp 67]) none [0,1],.mk (some 11) (.mv (.tmp 68)) none [2,2,0,1,2]]
def l6r29 : List AOper :=
  [.mk (some 69) (.mv (.tmp 11)) none [],.mk (some 70) (.bin .lss (.tmp 69) (.const (.int .i64 0))) none [0]]
def l6r30 : List AOper :=
  [.mk (some 4) (.mv (.const (.bool false))) none []]
def l6r31 : List AOper :=
  [.mk (some 71) (.mv (.tmp 11)) none [],.mk (some 72) (.mv (.tmp 10)) none [],.mk (some 73) (.bin .neq (.tmp 71) (.tmp 72)) none [0,1]]
def l6r32 : List AOper :=
  [.mk (some 4) (.mv (.const (.bool false))) none []]
def l6r33 : List AOper :=
  [.mk (some 4) (.mv (.const (.bool true))) none []]
def l6 : AFn :=
  (AFn.mk 74 2 (.seq (.reg l6r0) (.seq (.reg l6r1) (.seq (.reg l6r2) (.seq (.seq (.reg l6r3) (.cond (.tmp 17) (.seq (.reg l6r4) .ret) .skip)) (.seq (.reg l6r5) (.seq (.reg l6r6) (.seq (.reg l6r7) (.seq (.seq (.reg l6r8) (.cond (.tmp 30) (.seq (.reg l6r9) .ret) .skip)) (.seq (.seq (.draw l6r10) (.cond (.tmp 35) (.seq (.reg l6r11) .ret) .skip)) (.seq (.reg l6r12) (.seq (.reg l6r13) (.seq (.seq (.reg l6r14) (.cond (.tmp 46) (.seq (.reg l6r15) .ret) .skip)) (.seq (.reg l6r16) (.seq (.reg l6r17) (.seq (.reg l6r18) (.seq (.reg l6r19) (.seq (.seq (.reg l6r20) (.cond (.tmp 54) (.seq (.reg l6r21) .ret) .skip)) (.seq (.seq (.reg l6r22) (.cond (.tmp 57) (.seq (.reg l6r23) .ret) .skip)) (.seq (.reg l6r24) (.seq (.seq (.reg l6r25) (.cond (.tmp 65) (.seq (.reg l6r26) .ret) .skip)) (.seq (.reg l6r27) (.seq (.reg l6r28) (.seq (.seq (.reg l6r29) (.cond (.tmp 70) (.seq (.reg l6r30) .ret) .skip)) (.seq (.seq (.reg l6r31) (.cond (.tmp 73) (.seq (.reg l6r32) .ret) .skip)) (.seq (.reg l6r33) .ret))))))))))))))))))))))))) [.tmp 4])
theorem l6_eq : lowFn Tryd.prog 6 = some l6 := by kernel_rfl
def l7r0 : List AOper :=
  [.mk (some 2) (.box (.tmp 0)) none [],.mk (some 4) (.mv (.const (.int .i64 0))) none []]
def l7r1 : List AOper :=
  [.mk (some 5) (.fld 0 (.tmp 2)) none [],.mk (some 6) (.load false 1 (.tmp 5)) none [0],.mk (some 7) (.mv (.tmp 1)) none [],.mk (some 8) (.call 22 [.tmp 6,.tmp 7]) none [1,2],.mk (some 1) (.mv (.tmp 8)) none [3,3,0,1,2,3]]
def l7r2 : List AOper :=
  [.mk (some 9) (.mv (.tmp 1)) none [],.mk (some 10) (.bin .lss (.tmp 9) (.const (.int .i64 0))) none [0]]
def l7r3 : List AOper :=
  [.mk (some 4) (.mv (.const (.int .i64 (-1)))) none []]
def l7r4 : List AOper :=
  [.mk (some 11) (.fld 1 (.tmp 2)) none [],.mk (some 12) (.load false 1 (.tmp 11)) none [0],.mk (some 13) (.mv (.tmp 1)) none [],.mk (some 14) (.call 23 [.tmp 12,.tmp 13]) none [1,2],.mk (some 1) (.mv (.tmp 14)) none [3,3,0,1,2,3]]
def l7r5 : List AOper :=
  [.mk (some 15) (.mv (.tmp 1)) none [],.mk (some 16) (.bin .lss (.tmp 15) (.const (.int .i64 0))) none [0]]
def l7r6 : List AOper :=
  [.mk (some 4) (.mv (.const (.int .i64 (-1)))) none []]
def l7r7 : List AOper :=
  [.mk (some 17) (.mv (.tmp 1)) none [],.mk (some 4) (.mv (.tmp 17)) none [0,0]]
def l7 : AFn :=
  (AFn.mk 18 2 (.seq (.reg l7r0) (.seq (.reg l7r1) (.seq (.seq (.reg l7r2) (.cond (.tmp 10) (.seq (.reg l7r3) .ret) .skip)) (.seq (.reg l7r4) (.seq (.seq (.reg l7r5) (.cond (.tmp 16) (.seq (.reg l7r6) .ret) .skip)) (.seq (.reg l7r7) .ret)))))) [.tmp 4])
theorem l7_eq : lowFn Tryd.prog 7 = some l7 := by kernel_rfl
def l9r0 : List AOper :=
  [.mk (some 1) (.box (.tmp 0)) none [],.mk (some 2) (.alloc [.slice none 0 0,.slice none 0 0]) none []]
def l9r1 : List AOper :=
  [.mk (some 3) (.alloc [.slice none 0 0,.slice none 0 0]) none []]
def l9r2 : List AOper :=
  [.mk (some 4) (.fld 0 (.tmp 1)) none [],.mk (some 5) (.load false 1 (.tmp 4)) none [0],.mk (some 6) (.call 25 [.tmp 5]) none [1],.mk (some 7) (.fld 0 (.tmp 3)) none [0,1,2],.mk none (.store 1 (.tmp 7) (.tmp 6)) none [3,2,2,0,1,2]]
def l9r3 : List AOper :=
  [.mk (some 8) (.fld 1 (.tmp 1)) none [],.mk (some 9) (.load false 1 (.tmp 8)) none [0],.mk (some 10) (.call 26 [.tmp 9]) none [1],.mk (some 11) (.fld 1 (.tmp 3)) none [0,1,2],.mk none (.store 1 (.tmp 11) (.tmp 10)) none [3,2,2,0,1,2]]
def l9r4 : List AOper :=
  [.mk (some 12) (.load true 2 (.tmp 3)) none [],.mk none (.store 2 (.tmp 2) (.tmp 12)) none [0,0]]
def l9 : AFn :=
  (AFn.mk 13 1 (.seq (.reg l9r0) (.seq (.reg l9r1) (.seq (.reg l9r2) (.seq (.reg l9r3) (.seq (.reg l9r4) .ret))))) [.cell 2 true 2])
theorem l9_eq : lowFn Tryd.prog 9 = some l9 := by kernel_rfl
def l10r0 : List AOper :=
  [.mk (some 1) (.box (.tmp 0)) none [],.mk (some 2) (.mv (.const (.bool false))) none []]
def l10r1 : List AOper :=
  [.mk (some 7) (.fld 0 (.tmp 1)) none [],.mk (some 8) (.load false 1 (.tmp 7)) none [0],.mk (some 9) (.call 27 [.tmp 8]) none [1],.mk (some 10) (.un .not (.tmp 9)) none [2],.mk (some 11) (.mv (.tmp 10)) none [3,2],.mk (some 12) (.fld 1 (.tmp 1)) (some (11,false)) [4],.mk (some 13) (.load false 1 (.tmp 12)) (some (11,false)) [5,4],.mk (some 14) (.len (.tmp 13)) (some (11,false)) [6,4],.mk (some 15) (.bin .gtr (.tmp 14) (.const (.int .i64 8))) (some (11,false)) [7,4],.mk (some 16) (.pick (.tmp 11) (.const (.bool true)) (.tmp 15)) none [4,8]]
def l10r2 : List AOper :=
  [.mk (some 2) (.mv (.const (.bool false))) none []]
def l10r3 : List AOper :=
  [.mk (some 17) (.fld 1 (.tmp 1)) none [],.mk (some 18) (.load false 1 (.tmp 17)) none [0],.mk (some 19) (.len (.tmp 18)) none [1],.mk (some 20) (.mv (.const (.int .i64 0))) none []]
def l10r4 : List AOper :=
  [.mk (some 21) (.bin .lss (.tmp 20) (.tmp 19)) none []]
def l10r5 : List AOper :=
  [.mk (some 22) (.mv (.tmp 20)) none [],.mk (some 23) (.idxA 5 (.tmp 18) (.tmp 20)) none [],.mk (some 24) (.load true 5 (.tmp 23)) none [1],.mk (some 4) (.alloc [.int .i64 0,.int .i64 0,.slice none 0 0,.slice none 0 0,.bool false]) none [],.mk (some 3) (.mv (.tmp 22)) none [0,0,1,2,3],.mk none (.store 5 (.tmp 4) (.tmp 24)) none [3,2,4,0,1,2,3,4]]
def l10r6 : List AOper :=
  [.mk (some 25) (.load true 5 (.tmp 4)) none [],.mk (some 26) (.mv (.tmp 3)) none [],.mk (some 27) (.fld 0 (.tmp 1)) none [],.mk (some 28) (.load false 1 (.tmp 27)) none [2],.mk (some 29) (.len (.tmp 28)) none [3],.mk (some 30) (.call 28 [.tmp 25,.tmp 26,.tmp 29]) none [0,1,4],.mk (some 31) (.un .not (.tmp 30)) none [5]]
def l10r7 : List AOper :=
  [.mk (some 2) (.mv (.const (.bool false))) none []]
def l10r8 : List AOper :=
  [.mk (some 32) (.bin .add (.tmp 20) (.const (.int .i64 1))) none [],.mk (some 20) (.mv (.tmp 32)) none [0]]
def l10r9 : List AOper :=
  [.mk (some 33) (.fld 1 (.tmp 1)) none [],.mk (some 34) (.load false 1 (.tmp 33)) none [0],.mk (some 35) (.len (.tmp 34)) none [1],.mk (some 36) (.mv (.const (.int .i64 0))) none []]
def l10r10 : List AOper :=
  [.mk (some 37) (.bin .lss (.tmp 36) (.tmp 35)) none []]
def l10r11 : List AOper :=
  [.mk (some 38) (.mv (.tmp 36)) none [],.mk (some 39) (.idxA 5 (.tmp 34) (.tmp 36)) none [],.mk (some 40) (.load true 5 (.tmp 39)) none [1],.mk (some 6) (.alloc [.int .i64 0,.int .i64 0,.slice none 0 0,.slice none 0 0,.bool false]) none [],.mk (some 5) (.mv (.tmp 38)) none [0,0,1,2,3],.mk none (.store 5 (.tmp 6) (.tmp 40)) none [3,2,4,0,1,2,3,4]]
def l10r12a : List AOper :=
  [.mk (some 41) (.fld 4 (.tmp 6)) none [],.mk (some 42) (.load false 1 (.tmp 41)) none [0],.mk (some 43) (.un .not (.tmp 42)) none [1],.mk (some 44) (.mv (.tmp 43)) none [2],.mk (some 45) (.load true 2 (.tmp 1)) (some (44,true)) [3],.mk (some 46) (.mv (.tmp 5)) (some (44,true)) [3],.mk (some 47) (.call 30 [.tmp 45,.tmp 46]) (some (44,true)) [4,5,3,3],.mk (some 48) (.call 31 [.tmp 47]) (some (44,true)) [6,6,3],.mk (some 49) (.load false 1 (.global 0)) (some (44,true)) [3]]
def l10r12b : List AOper :=
  [.mk (some 50) (.call 29 [.tmp 48,.tmp 49]) (some (44,true)) [7,8,7,3],.mk (some 51) (.pick (.tmp 44) (.tmp 50) (.const (.bool false))) none [3,9]]
def l10r12 : List AOper := l10r12a ++ l10r12b
def l10r13 : List AOper :=
  [.mk (some 2) (.mv (.const (.bool false))) none []]
def l10r14 : List AOper :=
  [.mk (some 52) (.bin .add (.tmp 36) (.const (.int .i64 1))) none [],.mk (some 36) (.mv (.tmp 52)) none [0]]
def l10r15 : List AOper :=
  [.mk (some 2) (.mv (.const (.bool true))) none []]
def l10 : AFn :=
  (AFn.mk 53 1 (.seq (.reg l10r0) (.seq (.seq (.reg l10r1) (.cond (.tmp 16) (.seq (.reg l10r2) .ret) .skip)) (.seq (.seq (.reg l10r3) (.block 0 (.loop (.seq (.reg l10r4) (.seq (.cond (.tmp 21) .skip (.exit 0)) (.seq (.block 1 (.seq (.reg l10r5) (.seq (.reg l10r6) (.cond (.tmp 31) (.seq (.reg l10r7) .ret) .skip)))) (.reg l10r8))))))) (.seq (.seq (.reg l10r9) (.block 2 (.loop (.seq (.reg l10r10) (.seq (.cond (.tmp 37) .skip (.exit 2)) (.seq (.block 3 (.seq (.reg l10r11) (.seq (.draw l10r12) (.cond (.tmp 51) (.seq (.reg l10r13) .ret) .skip)))) (.reg l10r14))))))) (.seq (.reg l10r15) .ret))))) [.tmp 2])
theorem l10_eq : lowFn Tryd.prog 10 = some l10 := by kernel_rfl
def l11r0 : List AOper :=
  [.mk (some 2) (.box (.tmp 0)) none [],.mk (some 3) (.box (.tmp 1)) none [],.mk (some 4) (.mv (.const (.bool false))) none []]
def l11r1 : List AOper :=
  [.mk (some 5) (.fld 0 (.tmp 2)) none [],.mk (some 6) (.load false 1 (.tmp 5)) none [0],.mk (some 7) (.fld 0 (.tmp 3)) none [],.mk (some 8) (.load false 1 (.tmp 7)) none [2],.mk (some 9) (.call 14 [.tmp 6,.tmp 8]) none [1,3],.mk (some 10) (.un .not (.tmp 9)) none [4]]
def l11r2 : List AOper :=
  [.mk (some 4) (.mv (.const (.bool false))) none []]
def l11r3 : List AOper :=
  [.mk (some 11) (.fld 1 (.tmp 2)) none [],.mk (some 12) (.load false 1 (.tmp 11)) none [0],.mk (some 13) (.fld 1 (.tmp 3)) none [],.mk (some 14) (.load false 1 (.tmp 13)) none [2],.mk (some 15) (.call 32 [.tmp 12,.tmp 14]) none [1,3],.mk (some 16) (.un .not (.tmp 15)) none [4]]
def l11r4 : List AOper :=
  [.mk (some 4) (.mv (.const (.bool false))) none []]
def l11r5 : List AOper :=
  [.mk (some 4) (.mv (.const (.bool true))) none []]
def l11 : AFn :=
  (AFn.mk 17 2 (.seq (.reg l11r0) (.seq (.seq (.reg l11r1) (.cond (.tmp 10) (.seq (.reg l11r2) .ret) .skip)) (.seq (.seq (.reg l11r3) (.cond (.tmp 16) (.seq (.reg l11r4) .ret) .skip)) (.seq (.reg l11r5) .ret)))) [.tmp 4])
theorem l11_eq : lowFn Tryd.prog 11 = some l11 := by kernel_rfl
def l12r0 : List AOper :=
  [.mk (some 2) (.box (.tmp 0)) none [],.mk (some 4) (.mv (.const (.slice none 0 0))) none []]
def l12r1 : List AOper :=
  [.mk (some 5) (.load true 2 (.tmp 2)) none [],.mk (some 6) (.call 24 [.tmp 5]) none [0],.mk (some 7) (.un .not (.tmp 6)) none [1],.mk (some 8) (.mv (.tmp 7)) none [2,1],.mk (some 9) (.mv (.tmp 1)) (some (8,false)) [3],.mk (some 10) (.fld 1 (.tmp 2)) (some (8,false)) [3],.mk (some 11) (.load false 1 (.tmp 10)) (some (8,false)) [5,3],.mk (some 12) (.len (.tmp 11)) (some (8,false)) [6,3],.mk (some 13) (.bin .sub (.tmp 12) (.const (.int .i64 1))) (some (8,false)) [7,3],.mk (some 14) (.call 33 [.tmp 9,.const (.int .i64 (-1)),.tmp 13]) (some (8,false)) [4,8,3,3],.mk (some 15) (.un .not (.tmp 14)) (some (8,false)) [9,3],.mk (some 16) (.pick (.tmp 8) (.const (.bool true)) (.tmp 15)) none [3,10]]
def l12r2 : List AOper :=
  [.mk (some 4) (.mv (.const (.slice none 0 0))) none []]
def l12r3 : List AOper :=
  [.mk (some 17) (.load true 2 (.tmp 2)) none [],.mk (some 18) (.mv (.tmp 1)) none [],.mk (some 19) (.call 34 [.tmp 17,.tmp 18]) none [0,1],.mk (some 4) (.mv (.tmp 19)) none [2,2,0,1,2]]
def l12 : AFn :=
  (AFn.mk 20 2 (.seq (.reg l12r0) (.seq (.seq (.reg l12r1) (.cond (.tmp 16) (.seq (.reg l12r2) .ret) .skip)) (.seq (.reg l12r3) .ret))) [.tmp 4])
theorem l12_eq : lowFn Tryd.prog 12 = some l12 := by kernel_rfl
def l13r0 : List AOper :=
  [.mk (some 2) (.box (.tmp 0)) none [],.mk (some 4) (.mv (.const (.slice none 0 0))) none []]
def l13r1 : List AOper :=
  [.mk (some 5) (.load true 2 (.tmp 2)) none [],.mk (some 6) (.call 10 [.tmp 5]) none [0],.mk (some 7) (.un .not (.tmp 6)) none [1],.mk (some 8) (.mv (.tmp 7)) none [2,1],.mk (some 9) (.mv (.tmp 1)) (some (8,false)) [3],.mk (some 10) (.bin .lss (.tmp 9) (.const (.int .i64 (-1)))) (some (8,false)) [4,3],.mk (some 11) (.pick (.tmp 8) (.const (.bool true)) (.tmp 10)) none [3,5],.mk (some 12) (.mv (.tmp 11)) none [6,3],.mk (some 13) (.mv (.tmp 1)) (some (12,false)) [7],.mk (some 14) (.fld 1 (.tmp 2)) (some (12,false)) [7],.mk (some 15) (.load false 1 (.tmp 14)) (some (12,false)) [9,7],.mk (some 16) (.len (.tmp 15)) (some (12,false)) [10,7],.mk (some 17) (.bin .geq (.tmp 13) (.tmp 16)) (some (12,false)) [8,11,7],.mk (some 18) (.pick (.tmp 12) (.const (.bool true)) (.tmp 17)) none [7,12]]
def l13r2 : List AOper :=
  [.mk (some 4) (.mv (.const (.slice none 0 0))) none []]
def l13r3 : List AOper :=
  [.mk (some 19) (.load true 2 (.tmp 2)) none [],.mk (some 20) (.mv (.tmp 1)) none [],.mk (some 21) (.call 30 [.tmp 19,.tmp 20]) none [0,1],.mk (some 22) (.nilck (.tmp 21)) none [2],.mk (some 23) (.fld 0 (.tmp 22)) none [3],.mk (some 24) (.load false 1 (.tmp 23)) none [4],.mk (some 4) (.mv (.tmp 24)) none [5,2,0,1,2,3,4,5]]
def l13 : AFn :=
  (AFn.mk 25 2 (.seq (.reg l13r0) (.seq (.seq (.reg l13r1) (.cond (.tmp 18) (.seq (.reg l13r2) .ret) .skip)) (.seq (.reg l13r3) .ret))) [.tmp 4])
theorem l13_eq : lowFn Tryd.prog 13 = some l13 := by kernel_rfl
def l14r0 : List AOper :=
  [.mk (some 4) (.mv (.const (.bool false))) none []]
def l14r1 : List AOper :=
  [.mk (some 6) (.mv (.tmp 0)) none [],.mk (some 7) (.len (.tmp 6)) none [0],.mk (some 8) (.mv (.tmp 1)) none [],.mk (some 9) (.len (.tmp 8)) none [2],.mk (some 10) (.bin .neq (.tmp 7) (.tmp 9)) none [1,3]]
def l14r2 : List AOper :=
  [.mk (some 4) (.mv (.const (.bool false))) none []]
def l14r3 : List AOper :=
  [.mk (some 5) (.mv (.const (.int .i64 0))) none []]
def l14r4 : List AOper :=
  [.mk (some 11) (.mv (.tmp 5)) none [],.mk (some 12) (.mv (.tmp 0)) none [],.mk (some 13) (.len (.tmp 12)) none [1],.mk (some 14) (.bin .lss (.tmp 11) (.tmp 13)) none [0,2]]
def l14r5a : List AOper :=
  [.mk (some 17) (.mv (.tmp 0)) none [],.mk (some 18) (.mv (.tmp 5)) none [],.mk (some 19) (.idxA 1 (.tmp 17) (.tmp 18)) none [0,1],.mk (some 20) (.load false 1 (.tmp 19)) none [2],.mk (some 21) (.mv (.tmp 1)) none [],.mk (some 22) (.mv (.tmp 5)) none [],.mk (some 23) (.idxA 1 (.tmp 21) (.tmp 22)) none [4,5],.mk (some 24) (.load false 1 (.tmp 23)) none [6]]
def l14r5b : List AOper :=
  [.mk (some 25) (.bin .neq (.tmp 20) (.tmp 24)) none [3,7]]
def l14r5 : List AOper := l14r5a ++ l14r5b
def l14r6 : List AOper :=
  [.mk (some 4) (.mv (.const (.bool false))) none []]
def l14r7 : List AOper :=
  [.mk (some 15) (.mv (.tmp 5)) none [],.mk (some 16) (.bin .add (.tmp 15) (.const (.int .i64 1))) none [0],.mk (some 5) (.mv (.tmp 16)) none [1,0,1]]
def l14r8 : List AOper :=
  [.mk (some 4) (.mv (.const (.bool true))) none []]
def l14 : AFn :=
  (AFn.mk 26 2 (.seq (.reg l14r0) (.seq (.seq (.reg l14r1) (.cond (.tmp 10) (.seq (.reg l14r2) .ret) .skip)) (.seq (.seq (.reg l14r3) (.block 0 (.loop (.seq (.seq (.reg l14r4) (.cond (.tmp 14) .skip (.exit 0))) (.seq (.block 1 (.seq (.draw l14r5) (.cond (.tmp 25) (.seq (.reg l14r6) .ret) .skip))) (.reg l14r7)))))) (.seq (.reg l14r8) .ret)))) [.tmp 4])
theorem l14_eq : lowFn Tryd.prog 14 = some l14 := by kernel_rfl
def l15r0 : List AOper :=
  [.mk (some 2) (.box (.tmp 0)) none [],.mk (some 4) (.mv (.const (.int .i64 0))) none []]
def l15r1 : List AOper :=
  [.mk (some 5) (.fld 0 (.tmp 2)) none [],.mk (some 6) (.load false 1 (.tmp 5)) none [0],.mk (some 7) (.mv (.tmp 1)) none [],.mk (some 8) (.call 16 [.tmp 6,.tmp 7]) none [1,2],.mk (some 1) (.mv (.tmp 8)) none [3,3,0,1,2,3]]
def l15r2 : List AOper :=
  [.mk (some 9) (.fld 1 (.tmp 2)) none [],.mk (some 10) (.load false 1 (.tmp 9)) none [0],.mk (some 11) (.mv (.tmp 1)) none [],.mk (some 12) (.call 35 [.tmp 10,.tmp 11]) none [1,2],.mk (some 1) (.mv (.tmp 12)) none [3,3,0,1,2,3]]
def l15r3 : List AOper :=
  [.mk (some 13) (.mv (.tmp 1)) none [],.mk (some 4) (.mv (.tmp 13)) none [0,0]]
def l15 : AFn :=
  (AFn.mk 14 2 (.seq (.reg l15r0) (.seq (.reg l15r1) (.seq (.reg l15r2) (.seq (.reg l15r3) .ret)))) [.tmp 4])
theorem l15_eq : lowFn Tryd.prog 15 = some l15 := by kernel_rfl
def l16r0 : List AOper :=
  [.mk (some 4) (.mv (.const (.int .i64 0))) none []]
def l16r1 : List AOper :=
  [.mk (some 5) (.mv (.const (.int .i64 0))) none []]
def l16r2 : List AOper :=
  [.mk (some 6) (.mv (.tmp 5)) none [],.mk (some 7) (.mv (.tmp 0)) none [],.mk (some 8) (.len (.tmp 7)) none [1],.mk (some 9) (.bin .lss (.tmp 6) (.tmp 8)) none [0,2]]
def l16r3 : List AOper :=
  [.mk (some 12) (.mv (.tmp 0)) none [],.mk (some 13) (.mv (.tmp 5)) none [],.mk (some 14) (.mv (.tmp 1)) none [],.mk (some 15) (.idxA 1 (.tmp 12) (.tmp 13)) none [0,1,0,1,2],.mk none (.store 1 (.tmp 15) (.tmp 14)) none [3,2,0,1,2]]
def l16r4 : List AOper :=
  [.mk (some 16) (.mv (.tmp 1)) none [],.mk (some 17) (.bin .add (.tmp 16) (.const (.int .i64 1))) none [0],.mk (some 1) (.mv (.tmp 17)) none [1,0,1]]
def l16r5 : List AOper :=
  [.mk (some 10) (.mv (.tmp 5)) none [],.mk (some 11) (.bin .add (.tmp 10) (.const (.int .i64 1))) none [0],.mk (some 5) (.mv (.tmp 11)) none [1,0,1]]
def l16r6 : List AOper :=
  [.mk (some 18) (.mv (.tmp 1)) none [],.mk (some 4) (.mv (.tmp 18)) none [0,0]]
def l16 : AFn :=
  (AFn.mk 19 2 (.seq (.reg l16r0) (.seq (.seq (.reg l16r1) (.block 0 (.loop (.seq (.seq (.reg l16r2) (.cond (.tmp 9) .skip (.exit 0))) (.seq (.block 1 (.seq (.reg l16r3) (.reg l16r4))) (.reg l16r5)))))) (.seq (.reg l16r6) .ret))) [.tmp 4])
theorem l16_eq : lowFn Tryd.prog 16 = some l16 := by kernel_rfl
def l17r0 : List AOper :=
  [.mk (some 4) (.mv (.const (.int .i64 0))) none []]
def l17r1 : List AOper :=
  [.mk (some 5) (.mv (.const (.int .i64 0))) none []]
def l17r2 : List AOper :=
  [.mk (some 6) (.mv (.tmp 5)) none [],.mk (some 7) (.mv (.tmp 0)) none [],.mk (some 8) (.len (.tmp 7)) none [1],.mk (some 9) (.bin .lss (.tmp 6) (.tmp 8)) none [0,2]]
def l17r3 : List AOper :=
  [.mk (some 12) (.mv (.tmp 0)) none [],.mk (some 13) (.mv (.tmp 5)) none [],.mk (some 14) (.idxA 1 (.tmp 12) (.tmp 13)) none [0,1],.mk (some 15) (.load false 1 (.tmp 14)) none [2],.mk (some 16) (.mv (.tmp 1)) none [],.mk (some 17) (.bin .neq (.tmp 15) (.tmp 16)) none [3,4]]
def l17r4 : List AOper :=
  [.mk (some 4) (.mv (.const (.int .i64 (-1)))) none []]
def l17r5 : List AOper :=
  [.mk (some 18) (.mv (.tmp 1)) none [],.mk (some 19) (.bin .add (.tmp 18) (.const (.int .i64 1))) none [0],.mk (some 1) (.mv (.tmp 19)) none [1,0,1]]
def l17r6 : List AOper :=
  [.mk (some 10) (.mv (.tmp 5)) none [],.mk (some 11) (.bin .add (.tmp 10) (.const (.int .i64 1))) none [0],.mk (some 5) (.mv (.tmp 11)) none [1,0,1]]
def l17r7 : List AOper :=
  [.mk (some 20) (.mv (.tmp 1)) none [],.mk (some 4) (.mv (.tmp 20)) none [0,0]]
def l17 : AFn :=
  (AFn.mk 21 2 (.seq (.reg l17r0) (.seq (.seq (.reg l17r1) (.block 0 (.loop (.seq (.seq (.reg l17r2) (.cond (.tmp 9) .skip (.exit 0))) (.seq (.block 1 (.seq (.seq (.reg l17r3) (.cond (.tmp 17) (.seq (.reg l17r4) .ret) .skip)) (.reg l17r5))) (.reg l17r6)))))) (.seq (.reg l17r7) .ret))) [.tmp 4])
theorem l17_eq : lowFn Tryd.prog 17 = some l17 := by kernel_rfl
def l18r0 : List AOper :=
  [.mk (some 1) (.box (.tmp 0)) none [],.mk (some 2) (.mv (.const (.slice none 0 0))) none []]
def l18r1 : List AOper :=
  [.mk (some 5) (.load true 2 (.tmp 1)) none [],.mk (some 6) (.call 24 [.tmp 5]) none [0],.mk (some 7) (.un .not (.tmp 6)) none [1]]
def l18r2 : List AOper :=
  [.mk (some 2) (.mv (.const (.slice none 0 0))) none []]
def l18r3 : List AOper :=
  [.mk (some 8) (.bslice 1 [.int .i64 0] [] 0) none [],.mk (some 3) (.mv (.tmp 8)) none [0,0]]
def l18r4 : List AOper :=
  [.mk (some 4) (.mv (.const (.int .i64 0))) none []]
def l18r5 : List AOper :=
  [.mk (some 9) (.mv (.tmp 4)) none [],.mk (some 10) (.fld 1 (.tmp 1)) none [],.mk (some 11) (.load false 1 (.tmp 10)) none [1],.mk (some 12) (.len (.tmp 11)) none [2],.mk (some 13) (.bin .lss (.tmp 9) (.tmp 12)) none [0,3]]
def l18r6 : List AOper :=
  [.mk (some 16) (.fld 1 (.tmp 1)) none [],.mk (some 17) (.load false 1 (.tmp 16)) none [0],.mk (some 18) (.mv (.tmp 4)) none [],.mk (some 19) (.idxA 5 (.tmp 17) (.tmp 18)) none [1,2],.mk (some 20) (.fld 4 (.tmp 19)) none [3],.mk (some 21) (.load false 1 (.tmp 20)) none [4]]
def l18r7 : List AOper :=
  [.mk (some 22) (.mv (.tmp 3)) none [],.mk (some 23) (.mv (.tmp 4)) none [],.mk (some 24) (.bslice 1 [.int .i64 0] [(0,.tmp 23)] 1) none [1],.mk (some 25) (.append 1 (.tmp 22) (.tmp 24)) none [0,2],.mk (some 3) (.mv (.tmp 25)) none [3,3,0,1,2,3]]
def l18r8 : List AOper :=
  [.mk (some 14) (.mv (.tmp 4)) none [],.mk (some 15) (.bin .add (.tmp 14) (.const (.int .i64 1))) none [0],.mk (some 4) (.mv (.tmp 15)) none [1,0,1]]
def l18r9 : List AOper :=
  [.mk (some 26) (.mv (.tmp 3)) none [],.mk (some 2) (.mv (.tmp 26)) none [0,0]]
def l18 : AFn :=
  (AFn.mk 27 1 (.seq (.reg l18r0) (.seq (.seq (.reg l18r1) (.cond (.tmp 7) (.seq (.reg l18r2) .ret) .skip)) (.seq (.reg l18r3) (.seq (.seq (.reg l18r4) (.block 0 (.loop (.seq (.seq (.reg l18r5) (.cond (.tmp 13) .skip (.exit 0))) (.seq (.block 1 (.seq (.reg l18r6) (.cond (.tmp 21) (.reg l18r7) .skip))) (.reg l18r8)))))) (.seq (.reg l18r9) .ret))))) [.tmp 2])
theorem l18_eq : lowFn Tryd.prog 18 = some l18 := by kernel_rfl
def l19r0 : List AOper :=
  [.mk (some 1) (.box (.tmp 0)) none [],.mk (some 2) (.mv (.const (.slice none 0 0))) none []]
def l19r1 : List AOper :=
  [.mk (some 6) (.load true 2 (.tmp 1)) none [],.mk (some 7) (.call 10 [.tmp 6]) none [0],.mk (some 8) (.un .not (.tmp 7)) none [1]]
def l19r2 : List AOper :=
  [.mk (some 2) (.mv (.const (.slice none 0 0))) none []]
def l19r3 : List AOper :=
  [.mk (some 3) (.mv (.const (.slice none 0 0))) none []]
def l19r4 : List AOper :=
  [.mk (some 9) (.fld 1 (.tmp 1)) none [],.mk (some 10) (.load false 1 (.tmp 9)) none [0],.mk (some 11) (.len (.tmp 10)) none [1],.mk (some 12) (.mv (.const (.int .i64 0))) none []]
def l19r5 : List AOper :=
  [.mk (some 13) (.bin .lss (.tmp 12) (.tmp 11)) none []]
def l19r6 : List AOper :=
  [.mk (some 14) (.mv (.tmp 12)) none [],.mk (some 15) (.idxA 5 (.tmp 10) (.tmp 12)) none [],.mk (some 16) (.load true 5 (.tmp 15)) none [1],.mk (some 5) (.alloc [.int .i64 0,.int .i64 0,.slice none 0 0,.slice none 0 0,.bool false]) none [],.mk (some 4) (.mv (.tmp 14)) none [0,0,1,2,3],.mk none (.store 5 (.tmp 5) (.tmp 16)) none [3,2,4,0,1,2,3,4]]
def l19r7 : List AOper :=
  [.mk (some 17) (.fld 4 (.tmp 5)) none [],.mk (some 18) (.load false 1 (.tmp 17)) none [0]]
def l19r8 : List AOper :=
  [.mk (some 19) (.mv (.tmp 3)) none [],.mk (some 20) (.mv (.tmp 4)) none [],.mk (some 21) (.bslice 1 [.int .i64 0] [(0,.tmp 20)] 1) none [1],.mk (some 22) (.append 1 (.tmp 19) (.tmp 21)) none [0,2],.mk (some 3) (.mv (.tmp 22)) none [3,3,0,1,2,3]]
def l19r9 : List AOper :=
  [.mk (some 23) (.bin .add (.tmp 12) (.const (.int .i64 1))) none [],.mk (some 12) (.mv (.tmp 23)) none [0]]
def l19r10 : List AOper :=
  [.mk (some 24) (.mv (.tmp 3)) none [],.mk (some 2) (.mv (.tmp 24)) none [0,0]]
def l19 : AFn :=
  (AFn.mk 25 1 (.seq (.reg l19r0) (.seq (.seq (.reg l19r1) (.cond (.tmp 8) (.seq (.reg l19r2) .ret) .skip)) (.seq (.reg l19r3) (.seq (.seq (.reg l19r4) (.block 0 (.loop (.seq (.reg l19r5) (.seq (.cond (.tmp 13) .skip (.exit 0)) (.seq (.block 1 (.seq (.reg l19r6) (.seq (.reg l19r7) (.cond (.tmp 18) (.reg l19r8) .skip)))) (.reg l19r9))))))) (.seq (.reg l19r10) .ret))))) [.tmp 2])
theorem l19_eq : lowFn Tryd.prog 19 = some l19 := by kernel_rfl
def l20r0 : List AOper :=
  [.mk (some 2) (.box (.tmp 0)) none [],.mk (some 4) (.mv (.const (.slice none 0 0))) none []]
def l20r1 : List AOper :=
  [.mk (some 5) (.load true 2 (.tmp 2)) none [],.mk (some 6) (.call 24 [.tmp 5]) none [0],.mk (some 7) (.un .not (.tmp 6)) none [1],.mk (some 8) (.mv (.tmp 7)) none [2,1],.mk (some 9) (.load true 2 (.tmp 2)) (some (8,false)) [3],.mk (some 10) (.mv (.tmp 1)) (some (8,false)) [3],.mk (some 11) (.call 36 [.tmp 9,.tmp 10]) (some (8,false)) [4,5,3,3],.mk (some 12) (.un .not (.tmp 11)) (some (8,false)) [6,3],.mk (some 13) (.pick (.tmp 8) (.const (.bool true)) (.tmp 12)) none [3,7]]
def l20r2 : List AOper :=
  [.mk (some 4) (.mv (.const (.slice none 0 0))) none []]
def l20r3a : List AOper :=
  [.mk (some 14) (.fld 0 (.tmp 2)) none [],.mk (some 15) (.load false 1 (.tmp 14)) none [0],.mk (some 16) (.fld 1 (.tmp 2)) none [],.mk (some 17) (.load false 1 (.tmp 16)) none [2],.mk (some 18) (.mv (.tmp 1)) none [],.mk (some 19) (.idxA 5 (.tmp 17) (.tmp 18)) none [3,4],.mk (some 20) (.fld 1 (.tmp 19)) none [5],.mk (some 21) (.load true 3 (.tmp 20)) none [6]]
def l20r3b : List AOper :=
  [.mk (some 22) (.call 37 [.tmp 15,.tmp 21]) none [1,7],.mk (some 4) (.mv (.tmp 22)) none [8,8,0,1,2,3,4,5,6,7,8]]
def l20r3 : List AOper := l20r3a ++ l20r3b
def l20 : AFn :=
  (AFn.mk 23 2 (.seq (.reg l20r0) (.seq (.seq (.reg l20r1) (.cond (.tmp 13) (.seq (.reg l20r2) .ret) .skip)) (.seq (.draw l20r3) .ret))) [.tmp 4])
theorem l20_eq : lowFn Tryd.prog 20 = some l20 := by kernel_rfl
def l21r0 : List AOper :=
  [.mk (some 2) (.box (.tmp 0)) none [],.mk (some 4) (.mv (.const (.slice none 0 0))) none []]
def l21r1 : List AOper :=
  [.mk (some 5) (.load true 2 (.tmp 2)) none [],.mk (some 6) (.mv (.tmp 1)) none [],.mk (some 7) (.call 38 [.tmp 5,.tmp 6]) none [0,1],.mk (some 8) (.un .not (.tmp 7)) none [2]]
def l21r2 : List AOper :=
  [.mk (some 4) (.mv (.const (.slice none 0 0))) none []]
def l21r3a : List AOper :=
  [.mk (some 9) (.fld 0 (.tmp 2)) none [],.mk (some 10) (.load false 1 (.tmp 9)) none [0],.mk (some 11) (.fld 1 (.tmp 2)) none [],.mk (some 12) (.load false 1 (.tmp 11)) none [2],.mk (some 13) (.mv (.tmp 1)) none [],.mk (some 14) (.idxA 5 (.tmp 12) (.tmp 13)) none [3,4],.mk (some 15) (.fld 1 (.tmp 14)) none [5],.mk (some 16) (.load true 3 (.tmp 15)) none [6]]
def l21r3b : List AOper :=
  [.mk (some 17) (.call 39 [.tmp 10,.tmp 16]) none [1,7],.mk (some 4) (.mv (.tmp 17)) none [8,8,0,1,2,3,4,5,6,7,8]]
def l21r3 : List AOper := l21r3a ++ l21r3b
def l21 : AFn :=
  (AFn.mk 18 2 (.seq (.reg l21r0) (.seq (.seq (.reg l21r1) (.cond (.tmp 8) (.seq (.reg l21r2) .ret) .skip)) (.seq (.draw l21r3) .ret))) [.tmp 4])
theorem l21_eq : lowFn Tryd.prog 21 = some l21 := by kernel_rfl
def l22r0 : List AOper :=
  [.mk (some 4) (.mv (.const (.int .i64 0))) none []]
def l22r1 : List AOper :=
  [.mk (some 5) (.mv (.tmp 1)) none [],.mk (some 6) (.mv (.tmp 0)) none [],.mk (some 7) (.len (.tmp 6)) none [1],.mk (some 8) (.bin .sub (.tmp 5) (.tmp 7)) none [0,2],.mk (some 1) (.mv (.tmp 8)) none [3,0,1,2,3]]
def l22r2 : List AOper :=
  [.mk (some 9) (.mv (.tmp 1)) none [],.mk (some 10) (.bin .lss (.tmp 9) (.const (.int .i64 0))) none [0]]
def l22r3 : List AOper :=
  [.mk (some 4) (.mv (.const (.int .i64 (-1)))) none []]
def l22r4 : List AOper :=
  [.mk (some 11) (.mv (.tmp 1)) none [],.mk (some 4) (.mv (.tmp 11)) none [0,0]]
def l22 : AFn :=
  (AFn.mk 12 2 (.seq (.reg l22r0) (.seq (.reg l22r1) (.seq (.seq (.reg l22r2) (.cond (.tmp 10) (.seq (.reg l22r3) .ret) .skip)) (.seq (.reg l22r4) .ret)))) [.tmp 4])
theorem l22_eq : lowFn Tryd.prog 22 = some l22 := by kernel_rfl
def l23r0 : List AOper :=
  [.mk (some 4) (.mv (.const (.int .i64 0))) none []]
def l23r1 : List AOper :=
  [.mk (some 6) (.mv (.tmp 1)) none [],.mk (some 7) (.mv (.tmp 0)) none [],.mk (some 8) (.len (.tmp 7)) none [1],.mk (some 9) (.bin .sub (.tmp 6) (.tmp 8)) none [0,2],.mk (some 1) (.mv (.tmp 9)) none [3,0,1,2,3]]
def l23r2 : List AOper :=
  [.mk (some 10) (.mv (.tmp 1)) none [],.mk (some 11) (.bin .lss (.tmp 10) (.const (.int .i64 0))) none [0]]
def l23r3 : List AOper :=
  [.mk (some 4) (.mv (.const (.int .i64 (-1)))) none []]
def l23r4 : List AOper :=
  [.mk (some 5) (.mv (.const (.int .i64 0))) none []]
def l23r5 : List AOper :=
  [.mk (some 12) (.mv (.tmp 5)) none [],.mk (some 13) (.mv (.tmp 0)) none [],.mk (some 14) (.len (.tmp 13)) none [1],.mk (some 15) (.bin .lss (.tmp 12) (.tmp 14)) none [0,2]]
def l23r6 : List AOper :=
  [.mk (some 18) (.mv (.tmp 0)) none [],.mk (some 19) (.mv (.tmp 5)) none [],.mk (some 20) (.idxA 5 (.tmp 18) (.tmp 19)) none [0,1],.mk (some 21) (.load true 5 (.tmp 20)) none [2],.mk (some 22) (.mv (.tmp 1)) none [],.mk (some 23) (.call 40 [.tmp 21,.tmp 22]) none [3,4],.mk (some 1) (.mv (.tmp 23)) none [5,5,0,1,2,3,4,5]]
def l23r7 : List AOper :=
  [.mk (some 24) (.mv (.tmp 1)) none [],.mk (some 25) (.bin .lss (.tmp 24) (.const (.int .i64 0))) none [0]]
def l23r8 : List AOper :=
  [.mk (some 4) (.mv (.const (.int .i64 (-1)))) none []]
def l23r9 : List AOper :=
  [.mk (some 16) (.mv (.tmp 5)) none [],.mk (some 17) (.bin .add (.tmp 16) (.const (.int .i64 1))) none [0],.mk (some 5) (.mv (.tmp 17)) none [1,0,1]]
def l23r10 : List AOper :=
  [.mk (some 26) (.mv (.tmp 1)) none [],.mk (some 4) (.mv (.tmp 26)) none [0,0]]
def l23 : AFn :=
  (AFn.mk 27 2 (.seq (.reg l23r0) (.seq (.reg l23r1) (.seq (.seq (.reg l23r2) (.cond (.tmp 11) (.seq (.reg l23r3) .ret) .skip)) (.seq (.seq (.reg l23r4) (.block 0 (.loop (.seq (.seq (.reg l23r5) (.cond (.tmp 15) .skip (.exit 0))) (.seq (.block 1 (.seq (.reg l23r6) (.seq (.reg l23r7) (.cond (.tmp 25) (.seq (.reg l23r8) .ret) .skip)))) (.reg l23r9)))))) (.seq (.reg l23r10) .ret))))) [.tmp 4])
theorem l23_eq : lowFn Tryd.prog 23 = some l23 := by kernel_rfl
def l24r0 : List AOper :=
  [.mk (some 1) (.box (.tmp 0)) none [],.mk (some 2) (.mv (.const (.bool false))) none []]
def l24r1 : List AOper :=
  [.mk (some 3) (.mv (.const (.int .i64 0))) none []]
def l24r2 : List AOper :=
  [.mk (some 4) (.mv (.tmp 3)) none [],.mk (some 5) (.fld 1 (.tmp 1)) none [],.mk (some 6) (.load false 1 (.tmp 5)) none [1],.mk (some 7) (.len (.tmp 6)) none [2],.mk (some 8) (.bin .lss (.tmp 4) (.tmp 7)) none [0,3]]
def l24r3 : List AOper :=
  [.mk (some 11) (.load true 2 (.tmp 1)) none [],.mk (some 12) (.mv (.tmp 3)) none [],.mk (some 13) (.call 41 [.tmp 11,.tmp 12]) none [0,1],.mk (some 14) (.un .not (.tmp 13)) none [2]]
def l24r4 : List AOper :=
  [.mk (some 2) (.mv (.const (.bool false))) none []]
def l24r5 : List AOper :=
  [.mk (some 9) (.mv (.tmp 3)) none [],.mk (some 10) (.bin .add (.tmp 9) (.const (.int .i64 1))) none [0],.mk (some 3) (.mv (.tmp 10)) none [1,0,1]]
def l24r6 : List AOper :=
  [.mk (some 15) (.fld 0 (.tmp 1)) none [],.mk (some 16) (.load false 1 (.tmp 15)) none [0],.mk (some 17) (.call 42 [.tmp 16]) none [1],.mk (some 18) (.mv (.tmp 17)) none [2,2],.mk (some 19) (.fld 1 (.tmp 1)) (some (18,true)) [3],.mk (some 20) (.load false 1 (.tmp 19)) (some (18,true)) [4,3],.mk (some 21) (.len (.tmp 20)) (some (18,true)) [5,3],.mk (some 22) (.bin .leq (.tmp 21) (.const (.int .i64 8))) (some (18,true)) [6,3],.mk (some 23) (.pick (.tmp 18) (.tmp 22) (.const (.bool false))) none [3,7],.mk (some 2) (.mv (.tmp 23)) none [8,3,0,1,2,3,4,5,6,7,8]]
def l24 : AFn :=
  (AFn.mk 24 1 (.seq (.reg l24r0) (.seq (.seq (.reg l24r1) (.block 0 (.loop (.seq (.seq (.reg l24r2) (.cond (.tmp 8) .skip (.exit 0))) (.seq (.block 1 (.seq (.reg l24r3) (.cond (.tmp 14) (.seq (.reg l24r4) .ret) .skip))) (.reg l24r5)))))) (.seq (.reg l24r6) .ret))) [.tmp 2])
theorem l24_eq : lowFn Tryd.prog 24 = some l24 := by kernel_rfl
def l25r0 : List AOper :=
  [.mk (some 2) (.mv (.const (.slice none 0 0))) none []]
def l25r1 : List AOper :=
  [.mk (some 5) (.mv (.tmp 0)) none [],.mk (some 6) (.len (.tmp 5)) none [0],.mk (some 7) (.mkslice 1 [.int .i64 0] (.tmp 6) (.tmp 6)) none [1,1],.mk (some 3) (.mv (.tmp 7)) none [2,0,1,2]]
def l25r2 : List AOper :=
  [.mk (some 4) (.mv (.const (.int .i64 0))) none []]
def l25r3 : List AOper :=
  [.mk (some 8) (.mv (.tmp 4)) none [],.mk (some 9) (.mv (.tmp 0)) none [],.mk (some 10) (.len (.tmp 9)) none [1],.mk (some 11) (.bin .lss (.tmp 8) (.tmp 10)) none [0,2]]
def l25r4 : List AOper :=
  [.mk (some 14) (.mv (.tmp 3)) none [],.mk (some 15) (.mv (.tmp 4)) none [],.mk (some 16) (.mv (.tmp 0)) none [],.mk (some 17) (.mv (.tmp 4)) none [],.mk (some 18) (.idxA 1 (.tmp 16) (.tmp 17)) none [2,3],.mk (some 19) (.load false 1 (.tmp 18)) none [4],.mk (some 20) (.idxA 1 (.tmp 14) (.tmp 15)) none [0,1,0,1,2,3,4,5],.mk none (.store 1 (.tmp 20) (.tmp 19)) none [6,5,0,1,2,3,4,5]]
def l25r5 : List AOper :=
  [.mk (some 12) (.mv (.tmp 4)) none [],.mk (some 13) (.bin .add (.tmp 12) (.const (.int .i64 1))) none [0],.mk (some 4) (.mv (.tmp 13)) none [1,0,1]]
def l25r6 : List AOper :=
  [.mk (some 21) (.mv (.tmp 3)) none [],.mk (some 2) (.mv (.tmp 21)) none [0,0]]
def l25 : AFn :=
  (AFn.mk 22 1 (.seq (.reg l25r0) (.seq (.reg l25r1) (.seq (.seq (.reg l25r2) (.block 0 (.loop (.seq (.seq (.reg l25r3) (.cond (.tmp 11) .skip (.exit 0))) (.seq (.block 1 (.reg l25r4)) (.reg l25r5)))))) (.seq (.reg l25r6) .ret)))) [.tmp 2])
theorem l25_eq : lowFn Tryd.prog 25 = some l25 := by kernel_rfl
def l26r0 : List AOper :=
  [.mk (some 2) (.mv (.const (.slice none 0 0))) none []]
def l26r1 : List AOper :=
  [.mk (some 5) (.mv (.tmp 0)) none [],.mk (some 6) (.len (.tmp 5)) none [0],.mk (some 7) (.mkslice 5 [.int .i64 0,.int .i64 0,.slice none 0 0,.slice none 0 0,.bool false] (.tmp 6) (.tmp 6)) none [1,1],.mk (some 3) (.mv (.tmp 7)) none [2,0,1,2]]
def l26r2 : List AOper :=
  [.mk (some 4) (.mv (.const (.int .i64 0))) none []]
def l26r3 : List AOper :=
  [.mk (some 8) (.mv (.tmp 4)) none [],.mk (some 9) (.mv (.tmp 0)) none [],.mk (some 10) (.len (.tmp 9)) none [1],.mk (some 11) (.bin .lss (.tmp 8) (.tmp 10)) none [0,2]]
def l26r4 : List AOper :=
  [.mk (some 14) (.mv (.tmp 3)) none [],.mk (some 15) (.mv (.tmp 4)) none [],.mk (some 16) (.mv (.tmp 0)) none [],.mk (some 17) (.mv (.tmp 4)) none [],.mk (some 18) (.idxA 5 (.tmp 16) (.tmp 17)) none [2,3],.mk (some 19) (.load true 5 (.tmp 18)) none [4],.mk (some 20) (.call 43 [.tmp 19]) none [5],.mk (some 21) (.idxA 5 (.tmp 14) (.tmp 15)) none [0,1,0,1,2,3,4,5,6],.mk none (.store 5 (.tmp 21) (.tmp 20)) none [7,6,6,0,1,2,3,4,5,6]]
def l26r5 : List AOper :=
  [.mk (some 12) (.mv (.tmp 4)) none [],.mk (some 13) (.bin .add (.tmp 12) (.const (.int .i64 1))) none [0],.mk (some 4) (.mv (.tmp 13)) none [1,0,1]]
def l26r6 : List AOper :=
  [.mk (some 22) (.mv (.tmp 3)) none [],.mk (some 2) (.mv (.tmp 22)) none [0,0]]
def l26 : AFn :=
  (AFn.mk 23 1 (.seq (.reg l26r0) (.seq (.reg l26r1) (.seq (.seq (.reg l26r2) (.block 0 (.loop (.seq (.seq (.reg l26r3) (.cond (.tmp 11) .skip (.exit 0))) (.seq (.block 1 (.reg l26r4)) (.reg l26r5)))))) (.seq (.reg l26r6) .ret)))) [.tmp 2])
theorem l26_eq : lowFn Tryd.prog 26 = some l26 := by kernel_rfl
def l27r0 : List AOper :=
  [.mk (some 2) (.mv (.const (.bool false))) none []]
def l27r1 : List AOper :=
  [.mk (some 3) (.mv (.tmp 0)) none [],.mk (some 4) (.len (.tmp 3)) none [0],.mk (some 5) (.call 44 [.tmp 4]) none [1],.mk (some 6) (.mv (.tmp 5)) none [2,2],.mk (some 7) (.mv (.tmp 0)) (some (6,true)) [3],.mk (some 8) (.call 45 [.tmp 7]) (some (6,true)) [4,3,3],.mk (some 9) (.pick (.tmp 6) (.tmp 8) (.const (.bool false))) none [3,5],.mk (some 2) (.mv (.tmp 9)) none [6,5,0,1,2,3,4,5,6]]
def l27 : AFn :=
  (AFn.mk 10 1 (.seq (.reg l27r0) (.seq (.reg l27r1) .ret)) [.tmp 2])
theorem l27_eq : lowFn Tryd.prog 27 = some l27 := by kernel_rfl
def l28r0 : List AOper :=
  [.mk (some 3) (.box (.tmp 0)) none [],.mk (some 6) (.mv (.const (.bool false))) none []]
def l28r1 : List AOper :=
  [.mk (some 7) (.fld 1 (.tmp 3)) none [],.mk (some 8) (.load true 3 (.tmp 7)) none [0],.mk (some 9) (.call 46 [.tmp 8]) none [1],.mk (some 10) (.un .not (.tmp 9)) none [2],.mk (some 11) (.mv (.tmp 10)) none [3,2],.mk (some 12) (.fld 0 (.tmp 3)) (some (11,false)) [4],.mk (some 13) (.load false 1 (.tmp 12)) (some (11,false)) [5,4],.mk (some 14) (.bin .lss (.tmp 13) (.const (.int .i64 (-1)))) (some (11,false)) [6,4],.mk (some 15) (.pick (.tmp 11) (.const (.bool true)) (.tmp 14)) none [4,7],.mk (some 16) (.mv (.tmp 15)) none [8,4],.mk (some 17) (.fld 0 (.tmp 3)) (some (16,false)) [9],.mk (some 18) (.load false 1 (.tmp 17)) (some (16,false)) [10,9],.mk (some 19) (.mv (.tmp 1)) (some (16,false)) [9],.mk (some 20) (.bin .geq (.tmp 18) (.tmp 19)) (some (16,false)) [11,12,9],.mk (some 21) (.pick (.tmp 16) (.const (.bool true)) (.tmp 20)) none [9,13]]
def l28r2 : List AOper :=
  [.mk (some 6) (.mv (.const (.bool false))) none []]
def l28r3 : List AOper :=
  [.mk (some 22) (.fld 4 (.tmp 3)) none [],.mk (some 23) (.load false 1 (.tmp 22)) none [0],.mk (some 24) (.un .not (.tmp 23)) none [1],.mk (some 25) (.mv (.tmp 24)) none [2],.mk (some 26) (.fld 1 (.tmp 3)) (some (25,false)) [3],.mk (some 27) (.load true 3 (.tmp 26)) (some (25,false)) [4,3],.mk (some 28) (.mv (.tmp 2)) (some (25,false)) [3],.mk (some 29) (.call 47 [.tmp 27,.tmp 28]) (some (25,false)) [5,6,3,3],.mk (some 30) (.pick (.tmp 25) (.const (.bool true)) (.tmp 29)) none [3,7],.mk (some 6) (.mv (.tmp 30)) none [8,7,0,1,2,3,4,5,6,7,8]]
def l28 : AFn :=
  (AFn.mk 31 3 (.seq (.reg l28r0) (.seq (.seq (.reg l28r1) (.cond (.tmp 21) (.seq (.reg l28r2) .ret) .skip)) (.seq (.reg l28r3) .ret))) [.tmp 6])
theorem l28_eq : lowFn Tryd.prog 28 = some l28 := by kernel_rfl
def l29r0 : List AOper :=
  [.mk (some 4) (.mv (.const (.bool false))) none []]
def l29r1 : List AOper :=
  [.mk (some 6) (.mv (.tmp 0)) none [],.mk (some 7) (.bin .eql (.tmp 6) (.const .nilIface)) none [0],.mk (some 8) (.mv (.tmp 7)) none [1],.mk (some 9) (.mv (.tmp 1)) (some (8,false)) [2],.mk (some 10) (.bin .eql (.tmp 9) (.const .nilIface)) (some (8,false)) [3,2],.mk (some 11) (.pick (.tmp 8) (.const (.bool true)) (.tmp 10)) none [2,4]]
def l29r2 : List AOper :=
  [.mk (some 12) (.mv (.tmp 0)) none [],.mk (some 13) (.mv (.tmp 1)) none [],.mk (some 14) (.bin .eql (.tmp 12) (.tmp 13)) none [0,1],.mk (some 4) (.mv (.tmp 14)) none [2,0,1,2]]
def l29r3 : List AOper :=
  [.mk (some 15) (.mv (.tmp 1)) none [],.mk (some 16) (.raw (Op.call (Call.mk (Callee.value (.func 48)) (Array.mk [.tmp 15]) (Array.mk [20])))) none [0],.mk (some 17) (.raw (Op.call (Call.mk (Callee.invoke (.tmp 16) "Comparable") (Array.mk []) (Array.mk [])))) none [1,1],.mk (some 5) (.mv (.tmp 17)) none [2,2,0,1,2]]
def l29r4 : List AOper :=
  [.mk (some 18) (.mv (.tmp 0)) none [],.mk (some 19) (.mv (.tmp 1)) none [],.mk (some 20) (.mv (.tmp 5)) none [],.mk (some 21) (.call 49 [.tmp 18,.tmp 19,.tmp 20]) none [0,1,2],.mk (some 4) (.mv (.tmp 21)) none [3,3,0,1,2,3]]
def l29 : AFn :=
  (AFn.mk 22 2 (.seq (.reg l29r0) (.seq (.seq (.reg l29r1) (.cond (.tmp 11) (.seq (.reg l29r2) .ret) .skip)) (.seq (.reg l29r3) (.seq (.reg l29r4) .ret)))) [.tmp 4])
theorem l29_eq : lowFn Tryd.prog 29 = some l29 := by kernel_rfl
def l30r0 : List AOper :=
  [.mk (some 2) (.box (.tmp 0)) none [],.mk (some 4) (.mv (.const (.pointer none))) none []]
def l30r1 : List AOper :=
  [.mk (some 10) (.build [.slice none 0 0] []) none [],.mk (some 11) (.box (.tmp 10)) none [0],.mk (some 5) (.mv (.tmp 11)) none [1,0,1]]
def l30r2 : List AOper :=
  [.mk (some 6) (.mv (.const (.slice none 0 0))) none []]
def l30r3 : List AOper :=
  [.mk (some 12) (.fld 1 (.tmp 2)) none [],.mk (some 13) (.load false 1 (.tmp 12)) none [0],.mk (some 14) (.len (.tmp 13)) none [1],.mk (some 15) (.mv (.const (.int .i64 0))) none []]
def l30r4 : List AOper :=
  [.mk (some 16) (.bin .lss (.tmp 15) (.tmp 14)) none []]
def l30r5 : List AOper :=
  [.mk (some 17) (.mv (.tmp 15)) none [],.mk (some 18) (.idxA 5 (.tmp 13) (.tmp 15)) none [],.mk (some 19) (.load true 5 (.tmp 18)) none [1],.mk (some 8) (.alloc [.int .i64 0,.int .i64 0,.slice none 0 0,.slice none 0 0,.bool false]) none [],.mk (some 7) (.mv (.tmp 17)) none [0,0,1,2,3],.mk none (.store 5 (.tmp 8) (.tmp 19)) none [3,2,4,0,1,2,3,4]]
def l30r6 : List AOper :=
  [.mk (some 20) (.mv (.tmp 5)) none [],.mk (some 9) (.mv (.tmp 20)) none [0,0]]
def l30r7 : List AOper :=
  [.mk (some 21) (.fld 0 (.tmp 8)) none [],.mk (some 22) (.load false 1 (.tmp 21)) none [0],.mk (some 23) (.bin .neq (.tmp 22) (.const (.int .i64 (-1)))) none [1]]
def l30r8 : List AOper :=
  [.mk (some 24) (.mv (.tmp 6)) none [],.mk (some 25) (.fld 0 (.tmp 8)) none [],.mk (some 26) (.load false 1 (.tmp 25)) none [1],.mk (some 27) (.idxA 1 (.tmp 24) (.tmp 26)) none [0,2],.mk (some 28) (.load false 1 (.tmp 27)) none [3],.mk (some 9) (.mv (.tmp 28)) none [4,0,1,2,3,4]]
def l30r9 : List AOper :=
  [.mk (some 29) (.mv (.tmp 6)) none [],.mk (some 30) (.mv (.tmp 9)) none [],.mk (some 31) (.mv (.tmp 7)) none [],.mk (some 32) (.fld 4 (.tmp 8)) none [],.mk (some 33) (.load false 1 (.tmp 32)) none [3],.mk (some 34) (.call 50 [.tmp 30,.tmp 31,.tmp 33]) none [1,2,4],.mk (some 35) (.bslice 1 [.pointer none] [(0,.tmp 34)] 1) none [5],.mk (some 36) (.append 1 (.tmp 29) (.tmp 35)) none [0,6,5],.mk (some 6) (.mv (.tmp 36)) none [7,7,0,1,2,3,4,5,6,7]]
def l30r10 : List AOper :=
  [.mk (some 37) (.bin .add (.tmp 15) (.const (.int .i64 1))) none [],.mk (some 15) (.mv (.tmp 37)) none [0]]
def l30r11 : List AOper :=
  [.mk (some 38) (.mv (.tmp 1)) none [],.mk (some 39) (.bin .eql (.tmp 38) (.const (.int .i64 (-1)))) none [0]]
def l30r12 : List AOper :=
  [.mk (some 40) (.mv (.tmp 5)) none [],.mk (some 4) (.mv (.tmp 40)) none [0,0]]
def l30r13 : List AOper :=
  [.mk (some 41) (.mv (.tmp 6)) none [],.mk (some 42) (.mv (.tmp 1)) none [],.mk (some 43) (.idxA 1 (.tmp 41) (.tmp 42)) none [0,1],.mk (some 44) (.load false 1 (.tmp 43)) none [2],.mk (some 4) (.mv (.tmp 44)) none [3,0,1,2,3]]
def l30 : AFn :=
  (AFn.mk 45 2 (.seq (.reg l30r0) (.seq (.reg l30r1) (.seq (.reg l30r2) (.seq (.seq (.reg l30r3) (.block 0 (.loop (.seq (.reg l30r4) (.seq (.cond (.tmp 16) .skip (.exit 0)) (.seq (.block 1 (.seq (.reg l30r5) (.seq (.reg l30r6) (.seq (.seq (.reg l30r7) (.cond (.tmp 23) (.reg l30r8) .skip)) (.reg l30r9))))) (.reg l30r10))))))) (.seq (.seq (.reg l30r11) (.cond (.tmp 39) (.seq (.reg l30r12) .ret) .skip)) (.seq (.reg l30r13) .ret)))))) [.tmp 4])
theorem l30_eq : lowFn Tryd.prog 30 = some l30 := by kernel_rfl
def l31r0 : List AOper :=
  [.mk (some 2) (.mv (.const .nilIface)) none []]
def l31r1 : List AOper :=
  [.mk (some 3) (.mv (.tmp 0)) none [],.mk (some 4) (.nilck (.tmp 3)) none [0],.mk (some 5) (.fld 0 (.tmp 4)) none [1],.mk (some 6) (.load false 1 (.tmp 5)) none [2],.mk (some 7) (.len (.tmp 6)) none [3],.mk (some 8) (.bin .gtr (.tmp 7) (.const (.int .i64 0))) none [4]]
def l31r2 : List AOper :=
  [.mk (some 9) (.load false 1 (.global 0)) none [],.mk (some 2) (.mv (.tmp 9)) none [0,0]]
def l31r3 : List AOper :=
  [.mk (some 2) (.mv (.const .nilIface)) none []]
def l31 : AFn :=
  (AFn.mk 10 1 (.seq (.reg l31r0) (.seq (.seq (.reg l31r1) (.cond (.tmp 8) (.seq (.reg l31r2) .ret) .skip)) (.seq (.reg l31r3) .ret))) [.tmp 2])
theorem l31_eq : lowFn Tryd.prog 31 = some l31 := by kernel_rfl
def l32r0 : List AOper :=
  [.mk (some 4) (.mv (.const (.bool false))) none []]
def l32r1 : List AOper :=
  [.mk (some 6) (.mv (.tmp 0)) none [],.mk (some 7) (.len (.tmp 6)) none [0],.mk (some 8) (.mv (.tmp 1)) none [],.mk (some 9) (.len (.tmp 8)) none [2],.mk (some 10) (.bin .neq (.tmp 7) (.tmp 9)) none [1,3]]
def l32r2 : List AOper :=
  [.mk (some 4) (.mv (.const (.bool false))) none []]
def l32r3 : List AOper :=
  [.mk (some 5) (.mv (.const (.int .i64 0))) none []]
def l32r4 : List AOper :=
  [.mk (some 11) (.mv (.tmp 5)) none [],.mk (some 12) (.mv (.tmp 0)) none [],.mk (some 13) (.len (.tmp 12)) none [1],.mk (some 14) (.bin .lss (.tmp 11) (.tmp 13)) none [0,2]]
def l32r5a : List AOper :=
  [.mk (some 17) (.mv (.tmp 0)) none [],.mk (some 18) (.mv (.tmp 5)) none [],.mk (some 19) (.idxA 5 (.tmp 17) (.tmp 18)) none [0,1],.mk (some 20) (.load true 5 (.tmp 19)) none [2],.mk (some 21) (.mv (.tmp 1)) none [],.mk (some 22) (.mv (.tmp 5)) none [],.mk (some 23) (.idxA 5 (.tmp 21) (.tmp 22)) none [4,5],.mk (some 24) (.load true 5 (.tmp 23)) none [6]]
def l32r5b : List AOper :=
  [.mk (some 25) (.call 51 [.tmp 20,.tmp 24]) none [3,7],.mk (some 26) (.un .not (.tmp 25)) none [8]]
def l32r5 : List AOper := l32r5a ++ l32r5b
def l32r6 : List AOper :=
  [.mk (some 4) (.mv (.const (.bool false))) none []]
def l32r7 : List AOper :=
  [.mk (some 15) (.mv (.tmp 5)) none [],.mk (some 16) (.bin .add (.tmp 15) (.const (.int .i64 1))) none [0],.mk (some 5) (.mv (.tmp 16)) none [1,0,1]]
def l32r8 : List AOper :=
  [.mk (some 4) (.mv (.const (.bool true))) none []]
def l32 : AFn :=
  (AFn.mk 27 2 (.seq (.reg l32r0) (.seq (.seq (.reg l32r1) (.cond (.tmp 10) (.seq (.reg l32r2) .ret) .skip)) (.seq (.seq (.reg l32r3) (.block 0 (.loop (.seq (.seq (.reg l32r4) (.cond (.tmp 14) .skip (.exit 0))) (.seq (.block 1 (.seq (.draw l32r5) (.cond (.tmp 26) (.seq (.reg l32r6) .ret) .skip))) (.reg l32r7)))))) (.seq (.reg l32r8) .ret)))) [.tmp 4])
theorem l32_eq : lowFn Tryd.prog 32 = some l32 := by kernel_rfl
def l33r0 : List AOper :=
  [.mk (some 6) (.mv (.const (.bool false))) none []]
def l33r1 : List AOper :=
  [.mk (some 7) (.mv (.tmp 1)) none [],.mk (some 8) (.mv (.tmp 0)) none [],.mk (some 9) (.bin .leq (.tmp 7) (.tmp 8)) none [0,1],.mk (some 10) (.mv (.tmp 9)) none [2],.mk (some 11) (.mv (.tmp 0)) (some (10,true)) [3],.mk (some 12) (.mv (.tmp 2)) (some (10,true)) [3],.mk (some 13) (.bin .leq (.tmp 11) (.tmp 12)) (some (10,true)) [4,5,3],.mk (some 14) (.pick (.tmp 10) (.tmp 13) (.const (.bool false))) none [3,6],.mk (some 6) (.mv (.tmp 14)) none [7,3,0,1,2,3,4,5,6,7]]
def l33 : AFn :=
  (AFn.mk 15 3 (.seq (.reg l33r0) (.seq (.reg l33r1) .ret)) [.tmp 6])
theorem l33_eq : lowFn Tryd.prog 33 = some l33 := by kernel_rfl
def l34r0 : List AOper :=
  [.mk (some 2) (.box (.tmp 0)) none [],.mk (some 4) (.mv (.const (.slice none 0 0))) none []]
def l34r1 : List AOper :=
  [.mk (some 7) (.bslice 1 [.int .i64 0] [] 0) none [],.mk (some 5) (.mv (.tmp 7)) none [0,0]]
def l34r2 : List AOper :=
  [.mk (some 6) (.mv (.const (.int .i64 0))) none []]
def l34r3 : List AOper :=
  [.mk (some 8) (.mv (.tmp 6)) none [],.mk (some 9) (.fld 1 (.tmp 2)) none [],.mk (some 10) (.load false 1 (.tmp 9)) none [1],.mk (some 11) (.len (.tmp 10)) none [2],.mk (some 12) (.bin .lss (.tmp 8) (.tmp 11)) none [0,3]]
def l34r4 : List AOper :=
  [.mk (some 15) (.fld 1 (.tmp 2)) none [],.mk (some 16) (.load false 1 (.tmp 15)) none [0],.mk (some 17) (.mv (.tmp 6)) none [],.mk (some 18) (.idxA 5 (.tmp 16) (.tmp 17)) none [1,2],.mk (some 19) (.fld 4 (.tmp 18)) none [3],.mk (some 20) (.load false 1 (.tmp 19)) none [4],.mk (some 21) (.mv (.tmp 20)) none [5],.mk (some 22) (.fld 1 (.tmp 2)) (some (21,true)) [6],.mk (some 23) (.load false 1 (.tmp 22)) (some (21,true)) [7,6],.mk (some 24) (.mv (.tmp 6)) (some (21,true)) [6],.mk (some 25) (.idxA 5 (.tmp 23) (.tmp 24)) (some (21,true)) [8,9,6],.mk (some 26) (.fld 0 (.tmp 25)) (some (21,true)) [10,6],.mk (some 27) (.load false 1 (.tmp 26)) (some (21,true)) [11,6],.mk (some 28) (.mv (.tmp 1)) (some (21,true)) [6],.mk (some 29) (.bin .eql (.tmp 27) (.tmp 28)) (some (21,true)) [12,13,6],.mk (some 30) (.pick (.tmp 21) (.tmp 29) (.const (.bool false))) none [6,14]]
def l34r5 : List AOper :=
  [.mk (some 31) (.mv (.tmp 5)) none [],.mk (some 32) (.mv (.tmp 6)) none [],.mk (some 33) (.bslice 1 [.int .i64 0] [(0,.tmp 32)] 1) none [1],.mk (some 34) (.append 1 (.tmp 31) (.tmp 33)) none [0,2],.mk (some 5) (.mv (.tmp 34)) none [3,3,0,1,2,3]]
def l34r6 : List AOper :=
  [.mk (some 13) (.mv (.tmp 6)) none [],.mk (some 14) (.bin .add (.tmp 13) (.const (.int .i64 1))) none [0],.mk (some 6) (.mv (.tmp 14)) none [1,0,1]]
def l34r7 : List AOper :=
  [.mk (some 35) (.mv (.tmp 5)) none [],.mk (some 4) (.mv (.tmp 35)) none [0,0]]
def l34 : AFn :=
  (AFn.mk 36 2 (.seq (.reg l34r0) (.seq (.reg l34r1) (.seq (.seq (.reg l34r2) (.block 0 (.loop (.seq (.seq (.reg l34r3) (.cond (.tmp 12) .skip (.exit 0))) (.seq (.block 1 (.seq (.reg l34r4) (.cond (.tmp 30) (.reg l34r5) .skip))) (.reg l34r6)))))) (.seq (.reg l34r7) .ret)))) [.tmp 4])
theorem l34_eq : lowFn Tryd.prog 34 = some l34 := by kernel_rfl
def l35r0 : List AOper :=
  [.mk (some 4) (.mv (.const (.int .i64 0))) none []]
def l35r1 : List AOper :=
  [.mk (some 5) (.mv (.const (.int .i64 0))) none []]
def l35r2 : List AOper :=
  [.mk (some 6) (.mv (.tmp 5)) none [],.mk (some 7) (.mv (.tmp 0)) none [],.mk (some 8) (.len (.tmp 7)) none [1],.mk (some 9) (.bin .lss (.tmp 6) (.tmp 8)) none [0,2]]
def l35r3 : List AOper :=
  [.mk (some 12) (.mv (.tmp 0)) none [],.mk (some 13) (.mv (.tmp 5)) none [],.mk (some 14) (.mv (.tmp 1)) none [],.mk (some 15) (.idxA 5 (.tmp 12) (.tmp 13)) none [0,1,0,1,2],.mk (some 16) (.fld 0 (.tmp 15)) none [3,0,1,2],.mk none (.store 1 (.tmp 16) (.tmp 14)) none [4,2,0,1,2]]
def l35r4 : List AOper :=
  [.mk (some 17) (.mv (.tmp 1)) none [],.mk (some 18) (.bin .add (.tmp 17) (.const (.int .i64 1))) none [0],.mk (some 1) (.mv (.tmp 18)) none [1,0,1]]
def l35r5 : List AOper :=
  [.mk (some 19) (.mv (.tmp 0)) none [],.mk (some 20) (.mv (.tmp 5)) none [],.mk (some 21) (.mv (.tmp 1)) none [],.mk (some 22) (.idxA 5 (.tmp 19) (.tmp 20)) none [0,1,0,1,2],.mk (some 23) (.fld 1 (.tmp 22)) none [3,0,1,2],.mk (some 24) (.fld 0 (.tmp 23)) none [4,0,1,2],.mk none (.store 1 (.tmp 24) (.tmp 21)) none [5,2,0,1,2]]
def l35r6 : List AOper :=
  [.mk (some 25) (.mv (.tmp 1)) none [],.mk (some 26) (.bin .add (.tmp 25) (.const (.int .i64 1))) none [0],.mk (some 1) (.mv (.tmp 26)) none [1,0,1]]
def l35r7 : List AOper :=
  [.mk (some 27) (.mv (.tmp 0)) none [],.mk (some 28) (.mv (.tmp 5)) none [],.mk (some 29) (.idxA 5 (.tmp 27) (.tmp 28)) none [0,1],.mk (some 30) (.fld 1 (.tmp 29)) none [2],.mk (some 31) (.fld 1 (.tmp 30)) none [3],.mk (some 32) (.load false 1 (.tmp 31)) none [4],.mk (some 33) (.mv (.tmp 1)) none [],.mk (some 34) (.call 16 [.tmp 32,.tmp 33]) none [5,6],.mk (some 1) (.mv (.tmp 34)) none [7,7,0,1,2,3,4,5,6,7]]
def l35r8 : List AOper :=
  [.mk (some 35) (.mv (.tmp 0)) none [],.mk (some 36) (.mv (.tmp 5)) none [],.mk (some 37) (.idxA 5 (.tmp 35) (.tmp 36)) none [0,1],.mk (some 38) (.fld 1 (.tmp 37)) none [2],.mk (some 39) (.fld 2 (.tmp 38)) none [3],.mk (some 40) (.load false 1 (.tmp 39)) none [4],.mk (some 41) (.mv (.tmp 1)) none [],.mk (some 42) (.call 16 [.tmp 40,.tmp 41]) none [5,6],.mk (some 1) (.mv (.tmp 42)) none [7,7,0,1,2,3,4,5,6,7]]
def l35r9 : List AOper :=
  [.mk (some 43) (.mv (.tmp 0)) none [],.mk (some 44) (.mv (.tmp 5)) none [],.mk (some 45) (.mv (.tmp 1)) none [],.mk (some 46) (.bin .rem (.tmp 45) (.const (.int .i64 3))) none [2],.mk (some 47) (.bin .eql (.tmp 46) (.const (.int .i64 0))) none [3],.mk (some 48) (.idxA 5 (.tmp 43) (.tmp 44)) none [0,1,0,1,2,3,4],.mk (some 49) (.fld 4 (.tmp 48)) none [5,0,1,2,3,4],.mk none (.store 1 (.tmp 49) (.tmp 47)) none [6,4,0,1,2,3,4]]
def l35r10 : List AOper :=
  [.mk (some 50) (.mv (.tmp 1)) none [],.mk (some 51) (.bin .add (.tmp 50) (.const (.int .i64 1))) none [0],.mk (some 1) (.mv (.tmp 51)) none [1,0,1]]
def l35r11 : List AOper :=
  [.mk (some 10) (.mv (.tmp 5)) none [],.mk (some 11) (.bin .add (.tmp 10) (.const (.int .i64 1))) none [0],.mk (some 5) (.mv (.tmp 11)) none [1,0,1]]
def l35r12 : List AOper :=
  [.mk (some 52) (.mv (.tmp 1)) none [],.mk (some 4) (.mv (.tmp 52)) none [0,0]]
def l35 : AFn :=
  (AFn.mk 53 2 (.seq (.reg l35r0) (.seq (.seq (.reg l35r1) (.block 0 (.loop (.seq (.seq (.reg l35r2) (.cond (.tmp 9) .skip (.exit 0))) (.seq (.block 1 (.seq (.reg l35r3) (.seq (.reg l35r4) (.seq (.reg l35r5) (.seq (.reg l35r6) (.seq (.reg l35r7) (.seq (.reg l35r8) (.seq (.reg l35r9) (.reg l35r10))))))))) (.reg l35r11)))))) (.seq (.reg l35r12) .ret))) [.tmp 4])
theorem l35_eq : lowFn Tryd.prog 35 = some l35 := by kernel_rfl
def l36r0 : List AOper :=
  [.mk (some 2) (.box (.tmp 0)) none [],.mk (some 4) (.mv (.const (.bool false))) none []]
def l36r1 : List AOper :=
  [.mk (some 5) (.mv (.tmp 1)) none [],.mk (some 6) (.fld 1 (.tmp 2)) none [],.mk (some 7) (.load false 1 (.tmp 6)) none [1],.mk (some 8) (.len (.tmp 7)) none [2],.mk (some 9) (.bin .sub (.tmp 8) (.const (.int .i64 1))) none [3],.mk (some 10) (.call 33 [.tmp 5,.const (.int .i64 0),.tmp 9]) none [0,4],.mk (some 11) (.mv (.tmp 10)) none [5,5],.mk (some 12) (.fld 1 (.tmp 2)) (some (11,true)) [6],.mk (some 13) (.load false 1 (.tmp 12)) (some (11,true)) [7,6],.mk (some 14) (.mv (.tmp 1)) (some (11,true)) [6],.mk (some 15) (.idxA 5 (.tmp 13) (.tmp 14)) (some (11,true)) [8,9,6],.mk (some 16) (.fld 4 (.tmp 15)) (some (11,true)) [10,6],.mk (some 17) (.load false 1 (.tmp 16)) (some (11,true)) [11,6],.mk (some 18) (.pick (.tmp 11) (.tmp 17) (.const (.bool false))) none [6,12],.mk (some 4) (.mv (.tmp 18)) none [13,6,0,1,2,3,4,5,6,7,8,9,10,11,12,13]]
def l36 : AFn :=
  (AFn.mk 19 2 (.seq (.reg l36r0) (.seq (.reg l36r1) .ret)) [.tmp 4])
theorem l36_eq : lowFn Tryd.prog 36 = some l36 := by kernel_rfl
def l37r0 : List AOper :=
  [.mk (some 3) (.box (.tmp 1)) none [],.mk (some 4) (.mv (.const (.slice none 0 0))) none []]
def l37r1 : List AOper :=
  [.mk (some 8) (.bslice 1 [.int .i64 0] [] 0) none [],.mk (some 5) (.mv (.tmp 8)) none [0,0]]
def l37r2 : List AOper :=
  [.mk (some 9) (.load true 3 (.tmp 3)) none [],.mk (some 10) (.call 52 [.tmp 9]) none [0],.mk (some 6) (.mv (.tmp 10)) none [1,1,0,1]]
def l37r3 : List AOper :=
  [.mk (some 7) (.mv (.const (.int .i64 0))) none []]
def l37r4 : List AOper :=
  [.mk (some 11) (.mv (.tmp 7)) none [],.mk (some 12) (.mv (.tmp 6)) none [],.mk (some 13) (.len (.tmp 12)) none [1],.mk (some 14) (.bin .lss (.tmp 11) (.tmp 13)) none [0,2]]
def l37r5 : List AOper :=
  [.mk (some 17) (.mv (.tmp 5)) none [],.mk (some 18) (.mv (.tmp 0)) none [],.mk (some 19) (.mv (.tmp 6)) none [],.mk (some 20) (.mv (.tmp 7)) none [],.mk (some 21) (.idxA 1 (.tmp 19) (.tmp 20)) none [2,3],.mk (some 22) (.load false 1 (.tmp 21)) none [4],.mk (some 23) (.idxA 1 (.tmp 18) (.tmp 22)) none [1,5],.mk (some 24) (.load false 1 (.tmp 23)) none [6],.mk (some 25) (.bslice 1 [.int .i64 0] [(0,.tmp 24)] 1) none [7],.mk (some 26) (.append 1 (.tmp 17) (.tmp 25)) none [0,8],.mk (some 5) (.mv (.tmp 26)) none [9,9,0,1,2,3,4,5,6,7,8,9]]
def l37r6 : List AOper :=
  [.mk (some 15) (.mv (.tmp 7)) none [],.mk (some 16) (.bin .add (.tmp 15) (.const (.int .i64 1))) none [0],.mk (some 7) (.mv (.tmp 16)) none [1,0,1]]
def l37r7 : List AOper :=
  [.mk (some 27) (.mv (.tmp 5)) none [],.mk (some 4) (.mv (.tmp 27)) none [0,0]]
def l37 : AFn :=
  (AFn.mk 28 2 (.seq (.reg l37r0) (.seq (.reg l37r1) (.seq (.reg l37r2) (.seq (.seq (.reg l37r3) (.block 0 (.loop (.seq (.seq (.reg l37r4) (.cond (.tmp 14) .skip (.exit 0))) (.seq (.block 1 (.reg l37r5)) (.reg l37r6)))))) (.seq (.reg l37r7) .ret))))) [.tmp 4])
theorem l37_eq : lowFn Tryd.prog 37 = some l37 := by kernel_rfl
def l38r0 : List AOper :=
  [.mk (some 2) (.box (.tmp 0)) none [],.mk (some 4) (.mv (.const (.bool false))) none []]
def l38r1 : List AOper :=
  [.mk (some 5) (.load true 2 (.tmp 2)) none [],.mk (some 6) (.call 10 [.tmp 5]) none [0],.mk (some 7) (.mv (.tmp 6)) none [1,1],.mk (some 8) (.mv (.tmp 1)) (some (7,true)) [2],.mk (some 9) (.fld 1 (.tmp 2)) (some (7,true)) [2],.mk (some 10) (.load false 1 (.tmp 9)) (some (7,true)) [4,2],.mk (some 11) (.len (.tmp 10)) (some (7,true)) [5,2],.mk (some 12) (.bin .sub (.tmp 11) (.const (.int .i64 1))) (some (7,true)) [6,2],.mk (some 13) (.call 53 [.tmp 8,.tmp 12]) (some (7,true)) [3,7,2,2],.mk (some 14) (.pick (.tmp 7) (.tmp 13) (.const (.bool false))) none [2,8],.mk (some 15) (.mv (.tmp 14)) none [9,8],.mk (some 16) (.fld 1 (.tmp 2)) (some (15,true)) [10],.mk (some 17) (.load false 1 (.tmp 16)) (some (15,true)) [11,10],.mk (some 18) (.mv (.tmp 1)) (some (15,true)) [10],.mk (some 19) (.idxA 5 (.tmp 17) (.tmp 18)) (some (15,true)) [12,13,10],.mk (some 20) (.fld 4 (.tmp 19)) (some (15,true)) [14,10],.mk (some 21) (.load false 1 (.tmp 20)) (some (15,true)) [15,10],.mk (some 22) (.pick (.tmp 15) (.tmp 21) (.const (.bool false))) none [10,16],.mk (some 4) (.mv (.tmp 22)) none [17,10,0,1,2,3,4,5,6,7,8,9,10,11,12,13,14,15,16,17]]
def l38 : AFn :=
  (AFn.mk 23 2 (.seq (.reg l38r0) (.seq (.reg l38r1) .ret)) [.tmp 4])
theorem l38_eq : lowFn Tryd.prog 38 = some l38 := by kernel_rfl
def l39r0 : List AOper :=
  [.mk (some 3) (.box (.tmp 1)) none [],.mk (some 4) (.mv (.const (.slice none 0 0))) none []]
def l39r1 : List AOper :=
  [.mk (some 5) (.mv (.tmp 0)) none [],.mk (some 6) (.load true 3 (.tmp 3)) none [],.mk (some 7) (.call 54 [.tmp 5,.tmp 6]) none [0,1],.mk (some 8) (.un .not (.tmp 7)) none [2]]
def l39r2 : List AOper :=
  [.mk (some 4) (.mv (.const (.slice none 0 0))) none []]
def l39r3 : List AOper :=
  [.mk (some 9) (.mv (.tmp 0)) none [],.mk (some 10) (.load true 3 (.tmp 3)) none [],.mk (some 11) (.call 55 [.tmp 9,.tmp 10]) none [0,1],.mk (some 4) (.mv (.tmp 11)) none [2,2,0,1,2]]
def l39 : AFn :=
  (AFn.mk 12 2 (.seq (.reg l39r0) (.seq (.seq (.reg l39r1) (.cond (.tmp 8) (.seq (.reg l39r2) .ret) .skip)) (.seq (.reg l39r3) .ret))) [.tmp 4])
theorem l39_eq : lowFn Tryd.prog 39 = some l39 := by kernel_rfl
def l40r0 : List AOper :=
  [.mk (some 2) (.box (.tmp 0)) none [],.mk (some 4) (.mv (.const (.int .i64 0))) none []]
def l40r1 : List AOper :=
  [.mk (some 5) (.fld 1 (.tmp 2)) none [],.mk (some 6) (.load true 3 (.tmp 5)) none [0],.mk (some 7) (.mv (.tmp 1)) none [],.mk (some 8) (.call 56 [.tmp 6,.tmp 7]) none [1,2],.mk (some 1) (.mv (.tmp 8)) none [3,3,0,1,2,3]]
def l40r2 : List AOper :=
  [.mk (some 9) (.mv (.tmp 1)) none [],.mk (some 10) (.bin .lss (.tmp 9) (.const (.int .i64 0))) none [0]]
def l40r3 : List AOper :=
  [.mk (some 4) (.mv (.const (.int .i64 (-1)))) none []]
def l40r4 : List AOper :=
  [.mk (some 11) (.mv (.tmp 1)) none [],.mk (some 4) (.mv (.tmp 11)) none [0,0]]
def l40 : AFn :=
  (AFn.mk 12 2 (.seq (.reg l40r0) (.seq (.reg l40r1) (.seq (.seq (.reg l40r2) (.cond (.tmp 10) (.seq (.reg l40r3) .ret) .skip)) (.seq (.reg l40r4) .ret)))) [.tmp 4])
theorem l40_eq : lowFn Tryd.prog 40 = some l40 := by kernel_rfl
def l41r0 : List AOper :=
  [.mk (some 2) (.box (.tmp 0)) none [],.mk (some 4) (.mv (.const (.bool false))) none []]
def l41r1 : List AOper :=
  [.mk (some 6) (.fld 1 (.tmp 2)) none [],.mk (some 7) (.load false 1 (.tmp 6)) none [0],.mk (some 8) (.mv (.tmp 1)) none [],.mk (some 9) (.idxA 5 (.tmp 7) (.tmp 8)) none [1,2],.mk (some 10) (.load true 5 (.tmp 9)) none [3],.mk (some 5) (.alloc [.int .i64 0,.int .i64 0,.slice none 0 0,.slice none 0 0,.bool false]) none [],.mk none (.store 5 (.tmp 5) (.tmp 10)) none [5,4,0,1,2,3,4,5]]
def l41r2 : List AOper :=
  [.mk (some 11) (.fld 0 (.tmp 5)) none [],.mk (some 12) (.load false 1 (.tmp 11)) none [0],.mk (some 13) (.mv (.tmp 1)) none [],.mk (some 14) (.bin .sub (.tmp 13) (.const (.int .i64 1))) none [2],.mk (some 15) (.call 33 [.tmp 12,.const (.int .i64 (-1)),.tmp 14]) none [1,3],.mk (some 16) (.un .not (.tmp 15)) none [4],.mk (some 17) (.mv (.tmp 16)) none [5,4],.mk (some 18) (.fld 1 (.tmp 5)) (some (17,false)) [6],.mk (some 19) (.load true 3 (.tmp 18)) (some (17,false)) [7,6],.mk (some 20) (.call 57 [.tmp 19]) (some (17,false)) [8,6,6],.mk (some 21) (.un .not (.tmp 20)) (some (17,false)) [9,6],.mk (some 22) (.pick (.tmp 17) (.const (.bool true)) (.tmp 21)) none [6,10]]
def l41r3 : List AOper :=
  [.mk (some 4) (.mv (.const (.bool false))) none []]
def l41r4 : List AOper :=
  [.mk (some 23) (.fld 4 (.tmp 5)) none [],.mk (some 24) (.load false 1 (.tmp 23)) none [0],.mk (some 25) (.un .not (.tmp 24)) none [1],.mk (some 26) (.mv (.tmp 25)) none [2],.mk (some 27) (.fld 1 (.tmp 5)) (some (26,false)) [3],.mk (some 28) (.load true 3 (.tmp 27)) (some (26,false)) [4,3],.mk (some 29) (.fld 0 (.tmp 2)) (some (26,false)) [3],.mk (some 30) (.load false 1 (.tmp 29)) (some (26,false)) [6,3],.mk (some 31) (.len (.tmp 30)) (some (26,false)) [7,3],.mk (some 32) (.call 58 [.tmp 28,.tmp 31]) (some (26,false)) [5,8,3,3],.mk (some 33) (.mv (.tmp 32)) (some (26,false)) [9,9,3],.mk (some 34) (.fld 0 (.tmp 5)) (some (33,true)) [10],.mk (some 35) (.load false 1 (.tmp 34)) (some (33,true)) [11,10],.mk (some 36) (.bin .lss (.tmp 35) (.const (.int .i64 0))) (some (33,true)) [12,10],.mk (some 37) (.mv (.tmp 36)) (some (33,true)) [13,10,10],.mk (some 38) (.fld 1 (.tmp 2)) (some (37,false)) [14],.mk (some 39) (.load false 1 (.tmp 38)) (some (37,false)) [15,14],.mk (some 40) (.fld 0 (.tmp 5)) (some (37,false)) [14],.mk (some 41) (.load false 1 (.tmp 40)) (some (37,false)) [17,14],.mk (some 42) (.idxA 5 (.tmp 39) (.tmp 41)) (some (37,false)) [16,18,14],.mk (some 43) (.fld 4 (.tmp 42)) (some (37,false)) [19,14],.mk (some 44) (.load false 1 (.tmp 43)) (some (37,false)) [20,14],.mk (some 45) (.pick (.tmp 37) (.const (.bool true)) (.tmp 44)) (some (33,true)) [14,21,10],.mk (some 46) (.pick (.tmp 33) (.tmp 45) (.const (.bool false))) (some (26,false)) [10,22,3],.mk (some 47) (.pick (.tmp 26) (.const (.bool true)) (.tmp 46)) none [3,23],.mk (some 4) (.mv (.tmp 47)) none [24,14,0,1,2,3,4,5,6,7,8,9,10,11,12,13,14,15,16,17,18,19,20,21,22,23,24]]
def l41 : AFn :=
  (AFn.mk 48 2 (.seq (.reg l41r0) (.seq (.reg l41r1) (.seq (.seq (.reg l41r2) (.cond (.tmp 22) (.seq (.reg l41r3) .ret) .skip)) (.seq (.reg l41r4) .ret)))) [.tmp 4])
theorem l41_eq : lowFn Tryd.prog 41 = some l41 := by kernel_rfl
def l42r0 : List AOper :=
  [.mk (some 2) (.mv (.const (.bool false))) none []]
def l42r1 : List AOper :=
  [.mk (some 3) (.mv (.tmp 0)) none [],.mk (some 4) (.len (.tmp 3)) none [0],.mk (some 5) (.bin .leq (.tmp 4) (.const (.int .i64 60))) none [1],.mk (some 6) (.mv (.tmp 5)) none [2],.mk (some 7) (.mv (.tmp 0)) (some (6,true)) [3],.mk (some 8) (.call 59 [.tmp 7,.const (.int .i64 0),.const (.int .i64 255)]) (some (6,true)) [4,3,3],.mk (some 9) (.pick (.tmp 6) (.tmp 8) (.const (.bool false))) none [3,5],.mk (some 2) (.mv (.tmp 9)) none [6,5,0,1,2,3,4,5,6]]
def l42 : AFn :=
  (AFn.mk 10 1 (.seq (.reg l42r0) (.seq (.reg l42r1) .ret)) [.tmp 2])
theorem l42_eq : lowFn Tryd.prog 42 = some l42 := by kernel_rfl
def l43r0 : List AOper :=
  [.mk (some 1) (.box (.tmp 0)) none [],.mk (some 2) (.alloc [.int .i64 0,.int .i64 0,.slice none 0 0,.slice none 0 0,.bool false]) none []]
def l43r1 : List AOper :=
  [.mk (some 3) (.alloc [.int .i64 0,.int .i64 0,.slice none 0 0,.slice none 0 0,.bool false]) none []]
def l43r2 : List AOper :=
  [.mk (some 4) (.fld 0 (.tmp 1)) none [],.mk (some 5) (.load false 1 (.tmp 4)) none [0],.mk (some 6) (.fld 0 (.tmp 3)) none [0,1],.mk none (.store 1 (.tmp 6) (.tmp 5)) none [2,1,0,1]]
def l43r3 : List AOper :=
  [.mk (some 7) (.fld 1 (.tmp 1)) none [],.mk (some 8) (.load true 3 (.tmp 7)) none [0],.mk (some 9) (.call 60 [.tmp 8]) none [1],.mk (some 10) (.fld 1 (.tmp 3)) none [0,1,2],.mk none (.store 3 (.tmp 10) (.tmp 9)) none [3,2,2,0,1,2]]
def l43r4 : List AOper :=
  [.mk (some 11) (.fld 4 (.tmp 1)) none [],.mk (some 12) (.load false 1 (.tmp 11)) none [0],.mk (some 13) (.fld 4 (.tmp 3)) none [0,1],.mk none (.store 1 (.tmp 13) (.tmp 12)) none [2,1,0,1]]
def l43r5 : List AOper :=
  [.mk (some 14) (.load true 5 (.tmp 3)) none [],.mk none (.store 5 (.tmp 2) (.tmp 14)) none [0,0]]
def l43 : AFn :=
  (AFn.mk 15 1 (.seq (.reg l43r0) (.seq (.reg l43r1) (.seq (.reg l43r2) (.seq (.reg l43r3) (.seq (.reg l43r4) (.seq (.reg l43r5) .ret)))))) [.cell 2 true 5])
theorem l43_eq : lowFn Tryd.prog 43 = some l43 := by kernel_rfl
def l44r0 : List AOper :=
  [.mk (some 2) (.mv (.const (.bool false))) none []]
def l44r1 : List AOper :=
  [.mk (some 3) (.mv (.tmp 0)) none [],.mk (some 4) (.bin .leq (.const (.int .i64 0)) (.tmp 3)) none [0],.mk (some 5) (.mv (.tmp 4)) none [1],.mk (some 6) (.mv (.tmp 0)) (some (5,true)) [2],.mk (some 7) (.bin .leq (.tmp 6) (.const (.int .i64 60))) (some (5,true)) [3,2],.mk (some 8) (.pick (.tmp 5) (.tmp 7) (.const (.bool false))) none [2,4],.mk (some 2) (.mv (.tmp 8)) none [5,2,0,1,2,3,4,5]]
def l44 : AFn :=
  (AFn.mk 9 1 (.seq (.reg l44r0) (.seq (.reg l44r1) .ret)) [.tmp 2])
theorem l44_eq : lowFn Tryd.prog 44 = some l44 := by kernel_rfl
def l45r0 : List AOper :=
  [.mk (some 2) (.mv (.const (.bool false))) none []]
def l45r1 : List AOper :=
  [.mk (some 5) (.mv (.tmp 0)) none [],.mk (some 6) (.len (.tmp 5)) none [0],.mk (some 7) (.mv (.const (.int .i64 0))) none []]
def l45r2 : List AOper :=
  [.mk (some 8) (.bin .lss (.tmp 7) (.tmp 6)) none []]
def l45r3 : List AOper :=
  [.mk (some 9) (.idxA 1 (.tmp 5) (.tmp 7)) none [],.mk (some 10) (.load false 1 (.tmp 9)) none [0],.mk (some 4) (.mv (.tmp 10)) none [1,0,1]]
def l45r4 : List AOper :=
  [.mk (some 11) (.mv (.tmp 4)) none [],.mk (some 12) (.call 53 [.tmp 11,.const (.int .i64 255)]) none [0],.mk (some 13) (.un .not (.tmp 12)) none [1]]
def l45r5 : List AOper :=
  [.mk (some 2) (.mv (.const (.bool false))) none []]
def l45r6 : List AOper :=
  [.mk (some 14) (.bin .add (.tmp 7) (.const (.int .i64 1))) none [],.mk (some 7) (.mv (.tmp 14)) none [0]]
def l45r7 : List AOper :=
  [.mk (some 2) (.mv (.const (.bool true))) none []]
def l45 : AFn :=
  (AFn.mk 15 1 (.seq (.reg l45r0) (.seq (.seq (.reg l45r1) (.block 0 (.loop (.seq (.reg l45r2) (.seq (.cond (.tmp 8) .skip (.exit 0)) (.seq (.block 1 (.seq (.reg l45r3) (.seq (.reg l45r4) (.cond (.tmp 13) (.seq (.reg l45r5) .ret) .skip)))) (.reg l45r6))))))) (.seq (.reg l45r7) .ret))) [.tmp 2])
theorem l45_eq : lowFn Tryd.prog 45 = some l45 := by kernel_rfl
def l46r0 : List AOper :=
  [.mk (some 1) (.box (.tmp 0)) none [],.mk (some 2) (.mv (.const (.bool false))) none []]
def l46r1 : List AOper :=
  [.mk (some 5) (.fld 1 (.tmp 1)) none [],.mk (some 6) (.load false 1 (.tmp 5)) none [0],.mk (some 7) (.call 61 [.tmp 6]) none [1],.mk (some 8) (.un .not (.tmp 7)) none [2],.mk (some 9) (.mv (.tmp 8)) none [3,2],.mk (some 10) (.fld 2 (.tmp 1)) (some (9,false)) [4],.mk (some 11) (.load false 1 (.tmp 10)) (some (9,false)) [5,4],.mk (some 12) (.fld 1 (.tmp 1)) (some (9,false)) [4],.mk (some 13) (.load false 1 (.tmp 12)) (some (9,false)) [7,4],.mk (some 14) (.len (.tmp 13)) (some (9,false)) [8,4],.mk (some 15) (.call 62 [.tmp 11,.tmp 14]) (some (9,false)) [6,9,4,4],.mk (some 16) (.un .not (.tmp 15)) (some (9,false)) [10,4],.mk (some 17) (.pick (.tmp 9) (.const (.bool true)) (.tmp 16)) none [4,11],.mk (some 18) (.mv (.tmp 17)) none [12,10],.mk (some 19) (.fld 0 (.tmp 1)) (some (18,false)) [13],.mk (some 20) (.load false 1 (.tmp 19)) (some (18,false)) [14,13],.mk (some 21) (.call 53 [.tmp 20,.const (.int .i64 60)]) (some (18,false)) [15,13,13],.mk (some 22) (.un .not (.tmp 21)) (some (18,false)) [16,13],.mk (some 23) (.pick (.tmp 18) (.const (.bool true)) (.tmp 22)) none [13,17]]
def l46r2 : List AOper :=
  [.mk (some 2) (.mv (.const (.bool false))) none []]
def l46r3 : List AOper :=
  [.mk (some 25) (.load true 3 (.tmp 1)) none [],.mk (some 26) (.call 63 [.tmp 25]) none [0],.mk (some 24) (.mv (.tmp 26)) none [1],.mk (some 27) (.extract (.tmp 24) 0) none [2],.mk (some 28) (.extract (.tmp 24) 1) none [2],.mk (some 3) (.mv (.tmp 27)) none [3,1,0,1,2,3],.mk (some 4) (.mv (.tmp 28)) none [4,5,0,1,2,3,4,5]]
def l46r4 : List AOper :=
  [.mk (some 29) (.load true 3 (.tmp 1)) none [],.mk (some 30) (.call 64 [.tmp 29]) none [0],.mk (some 31) (.bin .eql (.tmp 30) (.const (.int .i64 0))) none [1],.mk (some 32) (.mv (.tmp 31)) none [2,1],.mk (some 33) (.mv (.tmp 3)) (some (32,false)) [3],.mk (some 34) (.bin .geq (.tmp 33) (.const (.int .i64 0))) (some (32,false)) [4,3],.mk (some 35) (.mv (.tmp 34)) (some (32,false)) [5,3,3],.mk (some 36) (.mv (.tmp 4)) (some (35,true)) [6],.mk (some 37) (.bin .lss (.tmp 36) (.const (.int .i64 60))) (some (35,true)) [7,6],.mk (some 38) (.pick (.tmp 35) (.tmp 37) (.const (.bool false))) (some (32,false)) [6,8,3],.mk (some 39) (.pick (.tmp 32) (.const (.bool true)) (.tmp 38)) none [3,9],.mk (some 2) (.mv (.tmp 39)) none [10,6,0,1,2,3,4,5,6,7,8,9,10]]
def l46 : AFn :=
  (AFn.mk 40 1 (.seq (.reg l46r0) (.seq (.seq (.reg l46r1) (.cond (.tmp 23) (.seq (.reg l46r2) .ret) .skip)) (.seq (.reg l46r3) (.seq (.reg l46r4) .ret)))) [.tmp 2])
theorem l46_eq : lowFn Tryd.prog 46 = some l46 := by kernel_rfl
def l47r0 : List AOper :=
  [.mk (some 2) (.box (.tmp 0)) none [],.mk (some 4) (.mv (.const (.bool false))) none []]
def l47r1 : List AOper :=
  [.mk (some 7) (.load true 3 (.tmp 2)) none [],.mk (some 8) (.call 46 [.tmp 7]) none [0],.mk (some 9) (.un .not (.tmp 8)) none [1],.mk (some 10) (.mv (.tmp 9)) none [2,1],.mk (some 11) (.mv (.tmp 1)) (some (10,false)) [3],.mk (some 12) (.call 53 [.tmp 11,.const (.int .i64 60)]) (some (10,false)) [4,3,3],.mk (some 13) (.un .not (.tmp 12)) (some (10,false)) [5,3],.mk (some 14) (.pick (.tmp 10) (.const (.bool true)) (.tmp 13)) none [3,6]]
def l47r2 : List AOper :=
  [.mk (some 4) (.mv (.const (.bool false))) none []]
def l47r3 : List AOper :=
  [.mk (some 16) (.load true 3 (.tmp 2)) none [],.mk (some 17) (.call 63 [.tmp 16]) none [0],.mk (some 15) (.mv (.tmp 17)) none [1],.mk (some 18) (.extract (.tmp 15) 0) none [2],.mk (some 19) (.extract (.tmp 15) 1) none [2],.mk (some 5) (.mv (.tmp 18)) none [3,1,0,1,2,3],.mk (some 6) (.mv (.tmp 19)) none [4,5,0,1,2,3,4,5]]
def l47r4 : List AOper :=
  [.mk (some 20) (.mv (.tmp 6)) none [],.mk (some 21) (.mv (.tmp 1)) none [],.mk (some 22) (.bin .lss (.tmp 20) (.tmp 21)) none [0,1],.mk (some 4) (.mv (.tmp 22)) none [2,0,1,2]]
def l47 : AFn :=
  (AFn.mk 23 2 (.seq (.reg l47r0) (.seq (.seq (.reg l47r1) (.cond (.tmp 14) (.seq (.reg l47r2) .ret) .skip)) (.seq (.reg l47r3) (.seq (.reg l47r4) .ret)))) [.tmp 4])
theorem l47_eq : lowFn Tryd.prog 47 = some l47 := by kernel_rfl
def l49r0 : List AOper :=
  [.mk (some 6) (.mv (.const (.bool false))) none []]
def l49r1 : List AOper :=
  [.mk (some 14) (.mv (.tmp 2)) none [],.mk (some 15) (.mv (.tmp 14)) none [0],.mk (some 16) (.mv (.tmp 0)) (some (15,true)) [1],.mk (some 17) (.mv (.tmp 1)) (some (15,true)) [1],.mk (some 18) (.bin .eql (.tmp 16) (.tmp 17)) (some (15,true)) [2,3,1],.mk (some 19) (.pick (.tmp 15) (.tmp 18) (.const (.bool false))) none [1,4]]
def l49r2 : List AOper :=
  [.mk (some 6) (.mv (.const (.bool true))) none []]
def l49r3 : List AOper :=
  [.mk (some 21) (.mv (.tmp 0)) none [],.mk (some 22) (.raw (Op.typeAssert (.tmp 21) 51 92 true)) none [0],.mk (some 20) (.mv (.tmp 22)) none [1],.mk (some 23) (.extract (.tmp 20) 0) none [2],.mk (some 24) (.extract (.tmp 20) 1) none [2],.mk (some 7) (.mv (.tmp 23)) none [3,0,1,2,3],.mk (some 8) (.mv (.tmp 24)) none [4,5,0,1,2,3,4,5]]
def l49r4 : List AOper :=
  [.mk (some 25) (.mv (.tmp 8)) none [],.mk (some 26) (.mv (.tmp 25)) none [0],.mk (some 27) (.mv (.tmp 7)) (some (26,true)) [1],.mk (some 28) (.mv (.tmp 1)) (some (26,true)) [1],.mk (some 29) (.raw (Op.call (Call.mk (Callee.invoke (.tmp 27) "Is") (Array.mk [.tmp 28]) (Array.mk [51])))) (some (26,true)) [2,3,1,1],.mk (some 30) (.pick (.tmp 26) (.tmp 29) (.const (.bool false))) none [1,4]]
def l49r5 : List AOper :=
  [.mk (some 6) (.mv (.const (.bool true))) none []]
def l49r6 : List AOper :=
  [.mk (some 31) (.mv (.tmp 0)) none []]
def l49r7 : List AOper :=
  [.mk (some 32) (.raw (Op.typeAssert (.tmp 31) 51 95 true)) none [],.mk (some 33) (.extract (.tmp 32) 1) none [0],.mk (some 34) (.extract (.tmp 32) 0) none [0]]
def l49r8 : List AOper :=
  [.mk (some 9) (.mv (.tmp 34)) none []]
def l49r9 : List AOper :=
  [.mk (some 35) (.mv (.tmp 9)) none [],.mk (some 36) (.raw (Op.call (Call.mk (Callee.invoke (.tmp 35) "Unwrap") (Array.mk []) (Array.mk [])))) none [0],.mk (some 0) (.mv (.tmp 36)) none [1,1,0,1]]
def l49r10 : List AOper :=
  [.mk (some 37) (.mv (.tmp 0)) none [],.mk (some 38) (.bin .eql (.tmp 37) (.const .nilIface)) none [0]]
def l49r11 : List AOper :=
  [.mk (some 6) (.mv (.const (.bool false))) none []]
def l49r12 : List AOper :=
  [.mk (some 39) (.raw (Op.typeAssert (.tmp 31) 51 96 true)) none [],.mk (some 40) (.extract (.tmp 39) 1) none [0],.mk (some 41) (.extract (.tmp 39) 0) none [0]]
def l49r13 : List AOper :=
  [.mk (some 10) (.mv (.tmp 41)) none []]
def l49r14 : List AOper :=
  [.mk (some 42) (.mv (.tmp 10)) none [],.mk (some 43) (.raw (Op.call (Call.mk (Callee.invoke (.tmp 42) "Unwrap") (Array.mk []) (Array.mk [])))) none [0],.mk (some 44) (.len (.tmp 43)) none [1],.mk (some 45) (.mv (.const (.int .i64 0))) none []]
def l49r15 : List AOper :=
  [.mk (some 46) (.bin .lss (.tmp 45) (.tmp 44)) none []]
def l49r16 : List AOper :=
  [.mk (some 47) (.idxA 1 (.tmp 43) (.tmp 45)) none [],.mk (some 48) (.load false 1 (.tmp 47)) none [0],.mk (some 12) (.mv (.tmp 48)) none [1,0,1]]
def l49r17 : List AOper :=
  [.mk (some 49) (.mv (.tmp 12)) none [],.mk (some 50) (.mv (.tmp 1)) none [],.mk (some 51) (.mv (.tmp 2)) none [],.mk (some 52) (.call 49 [.tmp 49,.tmp 50,.tmp 51]) none [0,1,2]]
def l49r18 : List AOper :=
  [.mk (some 6) (.mv (.const (.bool true))) none []]
def l49r19 : List AOper :=
  [.mk (some 53) (.bin .add (.tmp 45) (.const (.int .i64 1))) none [],.mk (some 45) (.mv (.tmp 53)) none [0]]
def l49r20 : List AOper :=
  [.mk (some 6) (.mv (.const (.bool false))) none []]
def l49r21 : List AOper :=
  [.mk (some 13) (.mv (.tmp 31)) none []]
def l49r22 : List AOper :=
  [.mk (some 6) (.mv (.const (.bool false))) none []]
def l49 : AFn :=
  (AFn.mk 54 3 (.seq (.reg l49r0) (.block 0 (.loop (.block 1 (.seq (.seq (.reg l49r1) (.cond (.tmp 19) (.seq (.reg l49r2) .ret) .skip)) (.seq (.seq (.reg l49r3) (.seq (.reg l49r4) (.cond (.tmp 30) (.seq (.reg l49r5) .ret) .skip))) (.seq (.reg l49r6) (.block 2 (.seq (.reg l49r7) (.cond (.tmp 33) (.seq (.reg l49r8) (.seq (.reg l49r9) (.seq (.reg l49r10) (.cond (.tmp 38) (.seq (.reg l49r11) .ret) .skip)))) (.seq (.reg l49r12) (.cond (.tmp 40) (.seq (.reg l49r13) (.seq (.seq (.reg l49r14) (.block 3 (.loop (.seq (.reg l49r15) (.seq (.cond (.tmp 46) .skip (.exit 3)) (.seq (.block 4 (.seq (.reg l49r16) (.seq (.reg l49r17) (.cond (.tmp 52) (.seq (.reg l49r18) .ret) .skip)))) (.reg l49r19))))))) (.seq (.reg l49r20) .ret))) (.seq (.reg l49r21) (.seq (.reg l49r22) .ret)))))))))))))) [.tmp 6])
theorem l49_eq : lowFn Tryd.prog 49 = some l49 := by kernel_rfl
def l50r0 : List AOper :=
  [.mk (some 6) (.mv (.const (.pointer none))) none []]
def l50r1 : List AOper :=
  [.mk (some 7) (.mv (.tmp 2)) none []]
def l50r2 : List AOper :=
  [.mk (some 8) (.mv (.tmp 0)) none [],.mk (some 9) (.mv (.tmp 0)) none [],.mk (some 10) (.nilck (.tmp 9)) none [1],.mk (some 11) (.fld 0 (.tmp 10)) none [2],.mk (some 12) (.load false 1 (.tmp 11)) none [3],.mk (some 13) (.mv (.tmp 1)) none [],.mk (some 14) (.bslice 1 [.int .i64 0] [(0,.tmp 13)] 1) none [5],.mk (some 15) (.append 1 (.tmp 12) (.tmp 14)) none [4,6],.mk (some 16) (.nilck (.tmp 8)) none [0,0,1,2,3,4,5,6,7],.mk (some 17) (.fld 0 (.tmp 16)) none [8,0,1,2,3,4,5,6,7],.mk none (.store 1 (.tmp 17) (.tmp 15)) none [9,7,7,0,1,2,3,4,5,6,7]]
def l50r3 : List AOper :=
  [.mk (some 18) (.build [.slice none 0 0] []) none [],.mk (some 19) (.box (.tmp 18)) none [0],.mk (some 6) (.mv (.tmp 19)) none [1,0,1]]
def l50 : AFn :=
  (AFn.mk 20 3 (.seq (.reg l50r0) (.seq (.seq (.reg l50r1) (.cond (.tmp 7) (.reg l50r2) .skip)) (.seq (.reg l50r3) .ret))) [.tmp 6])
theorem l50_eq : lowFn Tryd.prog 50 = some l50 := by kernel_rfl
def l51r0 : List AOper :=
  [.mk (some 2) (.box (.tmp 0)) none [],.mk (some 3) (.box (.tmp 1)) none [],.mk (some 4) (.mv (.const (.bool false))) none []]
def l51r1 : List AOper :=
  [.mk (some 5) (.fld 0 (.tmp 2)) none [],.mk (some 6) (.load false 1 (.tmp 5)) none [0],.mk (some 7) (.fld 0 (.tmp 3)) none [],.mk (some 8) (.load false 1 (.tmp 7)) none [2],.mk (some 9) (.bin .neq (.tmp 6) (.tmp 8)) none [1,3]]
def l51r2 : List AOper :=
  [.mk (some 4) (.mv (.const (.bool false))) none []]
def l51r3 : List AOper :=
  [.mk (some 10) (.fld 1 (.tmp 2)) none [],.mk (some 11) (.load true 3 (.tmp 10)) none [0],.mk (some 12) (.fld 1 (.tmp 3)) none [],.mk (some 13) (.load true 3 (.tmp 12)) none [2],.mk (some 14) (.call 65 [.tmp 11,.tmp 13]) none [1,3],.mk (some 15) (.un .not (.tmp 14)) none [4]]
def l51r4 : List AOper :=
  [.mk (some 4) (.mv (.const (.bool false))) none []]
def l51r5 : List AOper :=
  [.mk (some 16) (.fld 4 (.tmp 2)) none [],.mk (some 17) (.load false 1 (.tmp 16)) none [0],.mk (some 18) (.fld 4 (.tmp 3)) none [],.mk (some 19) (.load false 1 (.tmp 18)) none [2],.mk (some 20) (.binB .neq (.tmp 17) (.tmp 19)) none [1,3]]
def l51r6 : List AOper :=
  [.mk (some 4) (.mv (.const (.bool false))) none []]
def l51r7 : List AOper :=
  [.mk (some 4) (.mv (.const (.bool true))) none []]
def l51 : AFn :=
  (AFn.mk 21 2 (.seq (.reg l51r0) (.seq (.seq (.reg l51r1) (.cond (.tmp 9) (.seq (.reg l51r2) .ret) .skip)) (.seq (.seq (.reg l51r3) (.cond (.tmp 15) (.seq (.reg l51r4) .ret) .skip)) (.seq (.seq (.reg l51r5) (.cond (.tmp 20) (.seq (.reg l51r6) .ret) .skip)) (.seq (.reg l51r7) .ret))))) [.tmp 4])
theorem l51_eq : lowFn Tryd.prog 51 = some l51 := by kernel_rfl
def l52r0 : List AOper :=
  [.mk (some 1) (.box (.tmp 0)) none [],.mk (some 2) (.mv (.const (.slice none 0 0))) none []]
def l52r1 : List AOper :=
  [.mk (some 5) (.bslice 1 [.int .i64 0] [] 0) none [],.mk (some 3) (.mv (.tmp 5)) none [0,0]]
def l52r2 : List AOper :=
  [.mk (some 4) (.mv (.const (.int .i64 0))) none []]
def l52r3 : List AOper :=
  [.mk (some 6) (.mv (.tmp 4)) none [],.mk (some 7) (.fld 1 (.tmp 1)) none [],.mk (some 8) (.load false 1 (.tmp 7)) none [1],.mk (some 9) (.call 66 [.tmp 8]) none [2],.mk (some 10) (.bin .lss (.tmp 6) (.tmp 9)) none [0,3]]
def l52r4a : List AOper :=
  [.mk (some 13) (.mv (.tmp 3)) none [],.mk (some 14) (.load true 3 (.tmp 1)) none [],.mk (some 15) (.fld 1 (.tmp 1)) none [],.mk (some 16) (.load false 1 (.tmp 15)) none [2],.mk (some 17) (.mv (.tmp 4)) none [],.mk (some 18) (.call 68 [.tmp 16,.tmp 17]) none [3,4],.mk (some 19) (.call 67 [.tmp 14,.tmp 18]) none [1,5,5],.mk (some 20) (.bslice 1 [.int .i64 0] [(0,.tmp 19)] 1) none [6]]
def l52r4b : List AOper :=
  [.mk (some 21) (.append 1 (.tmp 13) (.tmp 20)) none [0,7,6],.mk (some 3) (.mv (.tmp 21)) none [8,8,0,1,2,3,4,5,6,7,8]]
def l52r4 : List AOper := l52r4a ++ l52r4b
def l52r5 : List AOper :=
  [.mk (some 11) (.mv (.tmp 4)) none [],.mk (some 12) (.bin .add (.tmp 11) (.const (.int .i64 1))) none [0],.mk (some 4) (.mv (.tmp 12)) none [1,0,1]]
def l52r6 : List AOper :=
  [.mk (some 22) (.mv (.tmp 3)) none [],.mk (some 2) (.mv (.tmp 22)) none [0,0]]
def l52 : AFn :=
  (AFn.mk 23 1 (.seq (.reg l52r0) (.seq (.reg l52r1) (.seq (.seq (.reg l52r2) (.block 0 (.loop (.seq (.seq (.reg l52r3) (.cond (.tmp 10) .skip (.exit 0))) (.seq (.block 1 (.draw l52r4)) (.reg l52r5)))))) (.seq (.reg l52r6) .ret)))) [.tmp 2])
theorem l52_eq : lowFn Tryd.prog 52 = some l52 := by kernel_rfl
def l53r0 : List AOper :=
  [.mk (some 4) (.mv (.const (.bool false))) none []]
def l53r1 : List AOper :=
  [.mk (some 5) (.mv (.tmp 0)) none [],.mk (some 6) (.bin .leq (.const (.int .i64 0)) (.tmp 5)) none [0],.mk (some 7) (.mv (.tmp 6)) none [1],.mk (some 8) (.mv (.tmp 0)) (some (7,true)) [2],.mk (some 9) (.mv (.tmp 1)) (some (7,true)) [2],.mk (some 10) (.bin .leq (.tmp 8) (.tmp 9)) (some (7,true)) [3,4,2],.mk (some 11) (.pick (.tmp 7) (.tmp 10) (.const (.bool false))) none [2,5],.mk (some 4) (.mv (.tmp 11)) none [6,2,0,1,2,3,4,5,6]]
def l53 : AFn :=
  (AFn.mk 12 2 (.seq (.reg l53r0) (.seq (.reg l53r1) .ret)) [.tmp 4])
theorem l53_eq : lowFn Tryd.prog 53 = some l53 := by kernel_rfl
def l54r0 : List AOper :=
  [.mk (some 3) (.box (.tmp 1)) none [],.mk (some 4) (.mv (.const (.bool false))) none []]
def l54r1 : List AOper :=
  [.mk (some 5) (.mv (.tmp 0)) none [],.mk (some 6) (.call 27 [.tmp 5]) none [0],.mk (some 7) (.mv (.tmp 6)) none [1,1],.mk (some 8) (.load true 3 (.tmp 3)) (some (7,true)) [2],.mk (some 9) (.mv (.tmp 0)) (some (7,true)) [2],.mk (some 10) (.len (.tmp 9)) (some (7,true)) [4,2],.mk (some 11) (.call 47 [.tmp 8,.tmp 10]) (some (7,true)) [3,5,2,2],.mk (some 12) (.pick (.tmp 7) (.tmp 11) (.const (.bool false))) none [2,6],.mk (some 4) (.mv (.tmp 12)) none [7,6,0,1,2,3,4,5,6,7]]
def l54 : AFn :=
  (AFn.mk 13 2 (.seq (.reg l54r0) (.seq (.reg l54r1) .ret)) [.tmp 4])
theorem l54_eq : lowFn Tryd.prog 54 = some l54 := by kernel_rfl
def l55r0 : List AOper :=
  [.mk (some 3) (.box (.tmp 1)) none [],.mk (some 4) (.mv (.const (.slice none 0 0))) none []]
def l55r1a : List AOper :=
  [.mk (some 9) (.load true 3 (.tmp 3)) none [],.mk (some 10) (.call 69 [.tmp 9]) none [0],.mk (some 11) (.load true 3 (.tmp 3)) none []]
def l55r1b : List AOper :=
  [.mk (some 12) (.call 70 [.tmp 11]) none [2,1],.mk (some 5) (.mv (.tmp 10)) none [1,3,0,1],.mk (some 6) (.mv (.tmp 12)) none [3,4,0,1,2,3,4]]
def l55r1 : List AOper := l55r1a ++ l55r1b
def l55r2 : List AOper :=
  [.mk (some 13) (.mv (.tmp 5)) none [],.mk (some 14) (.len (.tmp 13)) none [0],.mk (some 15) (.mkslice 1 [.int .i64 0] (.tmp 14) (.tmp 14)) none [1,1],.mk (some 7) (.mv (.tmp 15)) none [2,0,1,2]]
def l55r3 : List AOper :=
  [.mk (some 8) (.mv (.const (.int .i64 0))) none []]
def l55r4 : List AOper :=
  [.mk (some 16) (.mv (.tmp 8)) none [],.mk (some 17) (.mv (.tmp 5)) none [],.mk (some 18) (.len (.tmp 17)) none [1],.mk (some 19) (.bin .lss (.tmp 16) (.tmp 18)) none [0,2]]
def l55r5a : List AOper :=
  [.mk (some 23) (.mv (.tmp 7)) none [],.mk (some 24) (.mv (.tmp 8)) none [],.mk (some 25) (.mv (.tmp 6)) none [],.mk (some 26) (.call 71 [.tmp 23,.tmp 24,.tmp 25]) none [0,1,2],.mk (some 27) (.mv (.tmp 0)) none [],.mk (some 28) (.mv (.tmp 5)) none [],.mk (some 29) (.mv (.tmp 8)) none [],.mk (some 30) (.idxA 1 (.tmp 28) (.tmp 29)) none [5,6],.mk (some 31) (.load false 1 (.tmp 30)) none [7],.mk (some 32) (.mv (.tmp 6)) none []]
def l55r5b : List AOper :=
  [.mk (some 33) (.call 71 [.tmp 27,.tmp 31,.tmp 32]) none [4,8,9,3],.mk (some 34) (.cpy 1 (.tmp 26) (.tmp 33)) none [3,10,10]]
def l55r5 : List AOper := l55r5a ++ l55r5b
def l55r6 : List AOper :=
  [.mk (some 20) (.mv (.tmp 8)) none [],.mk (some 21) (.mv (.tmp 6)) none [],.mk (some 22) (.bin .add (.tmp 20) (.tmp 21)) none [0,1],.mk (some 8) (.mv (.tmp 22)) none [2,0,1,2]]
def l55r7 : List AOper :=
  [.mk (some 35) (.mv (.tmp 7)) none [],.mk (some 4) (.mv (.tmp 35)) none [0,0]]
def l55 : AFn :=
  (AFn.mk 36 2 (.seq (.reg l55r0) (.seq (.draw l55r1) (.seq (.reg l55r2) (.seq (.seq (.reg l55r3) (.block 0 (.loop (.seq (.seq (.reg l55r4) (.cond (.tmp 19) .skip (.exit 0))) (.seq (.block 1 (.draw l55r5)) (.reg l55r6)))))) (.seq (.reg l55r7) .ret))))) [.tmp 4])
theorem l55_eq : lowFn Tryd.prog 55 = some l55 := by kernel_rfl
def l56r0 : List AOper :=
  [.mk (some 2) (.box (.tmp 0)) none [],.mk (some 4) (.mv (.const (.int .i64 0))) none []]
def l56r1 : List AOper :=
  [.mk (some 5) (.fld 1 (.tmp 2)) none [],.mk (some 6) (.load false 1 (.tmp 5)) none [0],.mk (some 7) (.mv (.tmp 1)) none [],.mk (some 8) (.call 22 [.tmp 6,.tmp 7]) none [1,2],.mk (some 1) (.mv (.tmp 8)) none [3,3,0,1,2,3]]
def l56r2 : List AOper :=
  [.mk (some 9) (.mv (.tmp 1)) none [],.mk (some 10) (.bin .lss (.tmp 9) (.const (.int .i64 0))) none [0]]
def l56r3 : List AOper :=
  [.mk (some 4) (.mv (.const (.int .i64 (-1)))) none []]
def l56r4 : List AOper :=
  [.mk (some 11) (.fld 2 (.tmp 2)) none [],.mk (some 12) (.load false 1 (.tmp 11)) none [0],.mk (some 13) (.mv (.tmp 1)) none [],.mk (some 14) (.call 22 [.tmp 12,.tmp 13]) none [1,2],.mk (some 1) (.mv (.tmp 14)) none [3,3,0,1,2,3]]
def l56r5 : List AOper :=
  [.mk (some 15) (.mv (.tmp 1)) none [],.mk (some 16) (.bin .lss (.tmp 15) (.const (.int .i64 0))) none [0]]
def l56r6 : List AOper :=
  [.mk (some 4) (.mv (.const (.int .i64 (-1)))) none []]
def l56r7 : List AOper :=
  [.mk (some 17) (.mv (.tmp 1)) none [],.mk (some 4) (.mv (.tmp 17)) none [0,0]]
def l56 : AFn :=
  (AFn.mk 18 2 (.seq (.reg l56r0) (.seq (.reg l56r1) (.seq (.seq (.reg l56r2) (.cond (.tmp 10) (.seq (.reg l56r3) .ret) .skip)) (.seq (.reg l56r4) (.seq (.seq (.reg l56r5) (.cond (.tmp 16) (.seq (.reg l56r6) .ret) .skip)) (.seq (.reg l56r7) .ret)))))) [.tmp 4])
theorem l56_eq : lowFn Tryd.prog 56 = some l56 := by kernel_rfl
def l57r0 : List AOper :=
  [.mk (some 1) (.box (.tmp 0)) none [],.mk (some 2) (.mv (.const (.bool false))) none []]
def l57r1 : List AOper :=
  [.mk (some 3) (.fld 1 (.tmp 1)) none [],.mk (some 4) (.load false 1 (.tmp 3)) none [0],.mk (some 5) (.call 72 [.tmp 4]) none [1],.mk (some 6) (.mv (.tmp 5)) none [2,2],.mk (some 7) (.fld 2 (.tmp 1)) (some (6,true)) [3],.mk (some 8) (.load false 1 (.tmp 7)) (some (6,true)) [4,3],.mk (some 9) (.len (.tmp 8)) (some (6,true)) [5,3],.mk (some 10) (.fld 1 (.tmp 1)) (some (6,true)) [3],.mk (some 11) (.load false 1 (.tmp 10)) (some (6,true)) [7,3],.mk (some 12) (.len (.tmp 11)) (some (6,true)) [8,3],.mk (some 13) (.bin .eql (.tmp 9) (.tmp 12)) (some (6,true)) [6,9,3],.mk (some 14) (.pick (.tmp 6) (.tmp 13) (.const (.bool false))) none [3,10],.mk (some 15) (.mv (.tmp 14)) none [11,3],.mk (some 16) (.fld 2 (.tmp 1)) (some (15,true)) [12],.mk (some 17) (.load false 1 (.tmp 16)) (some (15,true)) [13,12],.mk (some 18) (.call 59 [.tmp 17,.const (.int .i64 (-60)),.const (.int .i64 60)]) (some (15,true)) [14,12,12],.mk (some 19) (.pick (.tmp 15) (.tmp 18) (.const (.bool false))) none [12,15],.mk (some 20) (.mv (.tmp 19)) none [16,15],.mk (some 21) (.fld 0 (.tmp 1)) (some (20,true)) [17],.mk (some 22) (.load false 1 (.tmp 21)) (some (20,true)) [18,17],.mk (some 23) (.call 33 [.tmp 22,.const (.int .i64 0),.const (.int .i64 60)]) (some (20,true)) [19,17,17],.mk (some 24) (.pick (.tmp 20) (.tmp 23) (.const (.bool false))) none [17,20],.mk (some 25) (.mv (.tmp 24)) none [21,20],.mk (some 26) (.fld 1 (.tmp 1)) (some (25,true)) [22],.mk (some 27) (.load false 1 (.tmp 26)) (some (25,true)) [23,22],.mk (some 28) (.call 66 [.tmp 27]) (some (25,true)) [24,22,22],.mk (some 29) (.bin .eql (.tmp 28) (.const (.int .i64 0))) (some (25,true)) [25,22],.mk (some 30) (.mv (.tmp 29)) (some (25,true)) [26,25,22],.mk (some 31) (.load true 3 (.tmp 1)) (some (30,false)) [27],.mk (some 32) (.call 52 [.tmp 31]) (some (30,false)) [28,27,27],.mk (some 33) (.call 59 [.tmp 32,.const (.int .i64 0),.const (.int .i64 59)]) (some (30,false)) [29,29,27],.mk (some 34) (.pick (.tmp 30) (.const (.bool true)) (.tmp 33)) (some (25,true)) [27,30,22],.mk (some 35) (.pick (.tmp 25) (.tmp 34) (.const (.bool false))) none [22,31],.mk (some 2) (.mv (.tmp 35)) none [32,30,0,1,2,3,4,5,6,7,8,9,10,11,12,13,14,15,16,17,18,19,20,21,22,23,24,25,26,27,28,29,30,31,32]]
def l57 : AFn :=
  (AFn.mk 36 1 (.seq (.reg l57r0) (.seq (.reg l57r1) .ret)) [.tmp 2])
theorem l57_eq : lowFn Tryd.prog 57 = some l57 := by kernel_rfl
def l58r0 : List AOper :=
  [.mk (some 2) (.box (.tmp 0)) none [],.mk (some 4) (.mv (.const (.bool false))) none []]
def l58r1 : List AOper :=
  [.mk (some 5) (.load true 3 (.tmp 2)) none [],.mk (some 6) (.call 52 [.tmp 5]) none [0],.mk (some 7) (.mv (.tmp 1)) none [],.mk (some 8) (.bin .sub (.tmp 7) (.const (.int .i64 1))) none [2],.mk (some 9) (.call 59 [.tmp 6,.const (.int .i64 0),.tmp 8]) none [1,3,1],.mk (some 4) (.mv (.tmp 9)) none [4,4,0,1,2,3,4]]
def l58 : AFn :=
  (AFn.mk 10 2 (.seq (.reg l58r0) (.seq (.reg l58r1) .ret)) [.tmp 4])
theorem l58_eq : lowFn Tryd.prog 58 = some l58 := by kernel_rfl
def l59r0 : List AOper :=
  [.mk (some 6) (.mv (.const (.bool false))) none []]
def l59r1 : List AOper :=
  [.mk (some 7) (.mv (.const (.int .i64 0))) none []]
def l59r2 : List AOper :=
  [.mk (some 8) (.mv (.tmp 7)) none [],.mk (some 9) (.mv (.tmp 0)) none [],.mk (some 10) (.len (.tmp 9)) none [1],.mk (some 11) (.bin .lss (.tmp 8) (.tmp 10)) none [0,2]]
def l59r3 : List AOper :=
  [.mk (some 14) (.mv (.tmp 0)) none [],.mk (some 15) (.mv (.tmp 7)) none [],.mk (some 16) (.idxA 1 (.tmp 14) (.tmp 15)) none [0,1],.mk (some 17) (.load false 1 (.tmp 16)) none [2],.mk (some 18) (.mv (.tmp 1)) none [],.mk (some 19) (.mv (.tmp 2)) none [],.mk (some 20) (.call 33 [.tmp 17,.tmp 18,.tmp 19]) none [3,4,5],.mk (some 21) (.un .not (.tmp 20)) none [6]]
def l59r4 : List AOper :=
  [.mk (some 6) (.mv (.const (.bool false))) none []]
def l59r5 : List AOper :=
  [.mk (some 12) (.mv (.tmp 7)) none [],.mk (some 13) (.bin .add (.tmp 12) (.const (.int .i64 1))) none [0],.mk (some 7) (.mv (.tmp 13)) none [1,0,1]]
def l59r6 : List AOper :=
  [.mk (some 6) (.mv (.const (.bool true))) none []]
def l59 : AFn :=
  (AFn.mk 22 3 (.seq (.reg l59r0) (.seq (.seq (.reg l59r1) (.block 0 (.loop (.seq (.seq (.reg l59r2) (.cond (.tmp 11) .skip (.exit 0))) (.seq (.block 1 (.seq (.reg l59r3) (.cond (.tmp 21) (.seq (.reg l59r4) .ret) .skip))) (.reg l59r5)))))) (.seq (.reg l59r6) .ret))) [.tmp 6])
theorem l59_eq : lowFn Tryd.prog 59 = some l59 := by kernel_rfl
def l60r0 : List AOper :=
  [.mk (some 1) (.box (.tmp 0)) none [],.mk (some 2) (.alloc [.int .i64 0,.slice none 0 0,.slice none 0 0]) none []]
def l60r1 : List AOper :=
  [.mk (some 3) (.alloc [.int .i64 0,.slice none 0 0,.slice none 0 0]) none []]
def l60r2 : List AOper :=
  [.mk (some 4) (.fld 0 (.tmp 1)) none [],.mk (some 5) (.load false 1 (.tmp 4)) none [0],.mk (some 6) (.fld 0 (.tmp 3)) none [0,1],.mk none (.store 1 (.tmp 6) (.tmp 5)) none [2,1,0,1]]
def l60r3 : List AOper :=
  [.mk (some 7) (.fld 1 (.tmp 1)) none [],.mk (some 8) (.load false 1 (.tmp 7)) none [0],.mk (some 9) (.call 25 [.tmp 8]) none [1],.mk (some 10) (.fld 1 (.tmp 3)) none [0,1,2],.mk none (.store 1 (.tmp 10) (.tmp 9)) none [3,2,2,0,1,2]]
def l60r4 : List AOper :=
  [.mk (some 11) (.fld 2 (.tmp 1)) none [],.mk (some 12) (.load false 1 (.tmp 11)) none [0],.mk (some 13) (.call 25 [.tmp 12]) none [1],.mk (some 14) (.fld 2 (.tmp 3)) none [0,1,2],.mk none (.store 1 (.tmp 14) (.tmp 13)) none [3,2,2,0,1,2]]
def l60r5 : List AOper :=
  [.mk (some 15) (.load true 3 (.tmp 3)) none [],.mk none (.store 3 (.tmp 2) (.tmp 15)) none [0,0]]
def l60 : AFn :=
  (AFn.mk 16 1 (.seq (.reg l60r0) (.seq (.reg l60r1) (.seq (.reg l60r2) (.seq (.reg l60r3) (.seq (.reg l60r4) (.seq (.reg l60r5) .ret)))))) [.cell 2 true 3])
theorem l60_eq : lowFn Tryd.prog 60 = some l60 := by kernel_rfl
def l61r0 : List AOper :=
  [.mk (some 2) (.mv (.const (.bool false))) none []]
def l61r1 : List AOper :=
  [.mk (some 5) (.mv (.tmp 0)) none [],.mk (some 6) (.len (.tmp 5)) none [0],.mk (some 7) (.bin .gtr (.tmp 6) (.const (.int .i64 4))) none [1]]
def l61r2 : List AOper :=
  [.mk (some 2) (.mv (.const (.bool false))) none []]
def l61r3 : List AOper :=
  [.mk (some 8) (.mv (.tmp 0)) none [],.mk (some 9) (.len (.tmp 8)) none [0],.mk (some 10) (.mv (.const (.int .i64 0))) none []]
def l61r4 : List AOper :=
  [.mk (some 11) (.bin .lss (.tmp 10) (.tmp 9)) none []]
def l61r5 : List AOper :=
  [.mk (some 12) (.idxA 1 (.tmp 8) (.tmp 10)) none [],.mk (some 13) (.load false 1 (.tmp 12)) none [0],.mk (some 4) (.mv (.tmp 13)) none [1,0,1]]
def l61r6 : List AOper :=
  [.mk (some 14) (.mv (.tmp 4)) none [],.mk (some 15) (.call 53 [.tmp 14,.const (.int .i64 60)]) none [0],.mk (some 16) (.un .not (.tmp 15)) none [1]]
def l61r7 : List AOper :=
  [.mk (some 2) (.mv (.const (.bool false))) none []]
def l61r8 : List AOper :=
  [.mk (some 17) (.bin .add (.tmp 10) (.const (.int .i64 1))) none [],.mk (some 10) (.mv (.tmp 17)) none [0]]
def l61r9 : List AOper :=
  [.mk (some 18) (.mv (.tmp 0)) none [],.mk (some 19) (.call 73 [.tmp 18]) none [0],.mk (some 20) (.bin .leq (.tmp 19) (.const (.int .i64 60))) none [1],.mk (some 2) (.mv (.tmp 20)) none [2,1,0,1,2]]
def l61 : AFn :=
  (AFn.mk 21 1 (.seq (.reg l61r0) (.seq (.seq (.reg l61r1) (.cond (.tmp 7) (.seq (.reg l61r2) .ret) .skip)) (.seq (.seq (.reg l61r3) (.block 0 (.loop (.seq (.reg l61r4) (.seq (.cond (.tmp 11) .skip (.exit 0)) (.seq (.block 1 (.seq (.reg l61r5) (.seq (.reg l61r6) (.cond (.tmp 16) (.seq (.reg l61r7) .ret) .skip)))) (.reg l61r8))))))) (.seq (.reg l61r9) .ret)))) [.tmp 2])
theorem l61_eq : lowFn Tryd.prog 61 = some l61 := by kernel_rfl
def l62r0 : List AOper :=
  [.mk (some 4) (.mv (.const (.bool false))) none []]
def l62r1 : List AOper :=
  [.mk (some 7) (.mv (.tmp 0)) none [],.mk (some 8) (.len (.tmp 7)) none [0],.mk (some 9) (.mv (.tmp 1)) none [],.mk (some 10) (.bin .neq (.tmp 8) (.tmp 9)) none [1,2]]
def l62r2 : List AOper :=
  [.mk (some 4) (.mv (.const (.bool false))) none []]
def l62r3 : List AOper :=
  [.mk (some 11) (.mv (.tmp 0)) none [],.mk (some 12) (.len (.tmp 11)) none [0],.mk (some 13) (.mv (.const (.int .i64 0))) none []]
def l62r4 : List AOper :=
  [.mk (some 14) (.bin .lss (.tmp 13) (.tmp 12)) none []]
def l62r5 : List AOper :=
  [.mk (some 15) (.idxA 1 (.tmp 11) (.tmp 13)) none [],.mk (some 16) (.load false 1 (.tmp 15)) none [0],.mk (some 6) (.mv (.tmp 16)) none [1,0,1]]
def l62r6 : List AOper :=
  [.mk (some 17) (.mv (.tmp 6)) none [],.mk (some 18) (.call 74 [.tmp 17,.const (.int .i64 60)]) none [0],.mk (some 19) (.un .not (.tmp 18)) none [1]]
def l62r7 : List AOper :=
  [.mk (some 4) (.mv (.const (.bool false))) none []]
def l62r8 : List AOper :=
  [.mk (some 20) (.bin .add (.tmp 13) (.const (.int .i64 1))) none [],.mk (some 13) (.mv (.tmp 20)) none [0]]
def l62r9 : List AOper :=
  [.mk (some 4) (.mv (.const (.bool true))) none []]
def l62 : AFn :=
  (AFn.mk 21 2 (.seq (.reg l62r0) (.seq (.seq (.reg l62r1) (.cond (.tmp 10) (.seq (.reg l62r2) .ret) .skip)) (.seq (.seq (.reg l62r3) (.block 0 (.loop (.seq (.reg l62r4) (.seq (.cond (.tmp 14) .skip (.exit 0)) (.seq (.block 1 (.seq (.reg l62r5) (.seq (.reg l62r6) (.cond (.tmp 19) (.seq (.reg l62r7) .ret) .skip)))) (.reg l62r8))))))) (.seq (.reg l62r9) .ret)))) [.tmp 4])
theorem l62_eq : lowFn Tryd.prog 62 = some l62 := by kernel_rfl
def l63r0 : List AOper :=
  [.mk (some 1) (.box (.tmp 0)) none [],.mk (some 2) (.mv (.const (.int .i64 0))) none [],.mk (some 3) (.mv (.const (.int .i64 0))) none [1]]
def l63r1 : List AOper :=
  [.mk (some 9) (.load true 3 (.tmp 1)) none [],.mk (some 10) (.call 64 [.tmp 9]) none [0],.mk (some 11) (.bin .eql (.tmp 10) (.const (.int .i64 0))) none [1]]
def l63r2 : List AOper :=
  [.mk (some 2) (.mv (.const (.int .i64 (-1)))) none [],.mk (some 3) (.mv (.const (.int .i64 (-1)))) none [0,0]]
def l63r3a : List AOper :=
  [.mk (some 12) (.fld 0 (.tmp 1)) none [],.mk (some 13) (.load false 1 (.tmp 12)) none [0],.mk (some 14) (.fld 0 (.tmp 1)) none [],.mk (some 15) (.load false 1 (.tmp 14)) none [2],.mk (some 4) (.mv (.tmp 13)) none [1,0,1]]
def l63r3b : List AOper :=
  [.mk (some 5) (.mv (.tmp 15)) none [3,4,0,1,2,3,4]]
def l63r3 : List AOper := l63r3a ++ l63r3b
def l63r4 : List AOper :=
  [.mk (some 16) (.fld 2 (.tmp 1)) none [],.mk (some 17) (.load false 1 (.tmp 16)) none [0],.mk (some 18) (.len (.tmp 17)) none [1],.mk (some 19) (.mv (.const (.int .i64 0))) none []]
def l63r5 : List AOper :=
  [.mk (some 20) (.bin .lss (.tmp 19) (.tmp 18)) none []]
def l63r6 : List AOper :=
  [.mk (some 21) (.mv (.tmp 19)) none [],.mk (some 22) (.idxA 1 (.tmp 17) (.tmp 19)) none [],.mk (some 23) (.load false 1 (.tmp 22)) none [1],.mk (some 6) (.mv (.tmp 21)) none [0,0,1,2],.mk (some 7) (.mv (.tmp 23)) none [2,3,0,1,2,3]]
def l63r7 : List AOper :=
  [.mk (some 24) (.fld 1 (.tmp 1)) none [],.mk (some 25) (.load false 1 (.tmp 24)) none [0],.mk (some 26) (.mv (.tmp 6)) none [],.mk (some 27) (.idxA 1 (.tmp 25) (.tmp 26)) none [1,2],.mk (some 28) (.load false 1 (.tmp 27)) none [3],.mk (some 29) (.bin .sub (.tmp 28) (.const (.int .i64 1))) none [4],.mk (some 30) (.mv (.tmp 7)) none [],.mk (some 31) (.bin .mul (.tmp 29) (.tmp 30)) none [5,6],.mk (some 8) (.mv (.tmp 31)) none [7,0,1,2,3,4,5,6,7]]
def l63r8 : List AOper :=
  [.mk (some 32) (.mv (.tmp 4)) none [],.mk (some 33) (.mv (.tmp 8)) none [],.mk (some 34) (.minmax false (.tmp 33) (.const (.int .i64 0))) none [1],.mk (some 35) (.bin .add (.tmp 32) (.tmp 34)) none [0,2],.mk (some 4) (.mv (.tmp 35)) none [3,0,1,2,3]]
def l63r9 : List AOper :=
  [.mk (some 36) (.mv (.tmp 5)) none [],.mk (some 37) (.mv (.tmp 8)) none [],.mk (some 38) (.minmax true (.tmp 37) (.const (.int .i64 0))) none [1],.mk (some 39) (.bin .add (.tmp 36) (.tmp 38)) none [0,2],.mk (some 5) (.mv (.tmp 39)) none [3,0,1,2,3]]
def l63r10 : List AOper :=
  [.mk (some 40) (.bin .add (.tmp 19) (.const (.int .i64 1))) none [],.mk (some 19) (.mv (.tmp 40)) none [0]]
def l63r11 : List AOper :=
  [.mk (some 41) (.mv (.tmp 4)) none [],.mk (some 42) (.mv (.tmp 5)) none [],.mk (some 2) (.mv (.tmp 41)) none [0,0],.mk (some 3) (.mv (.tmp 42)) none [1,2,0,1,2]]
def l63 : AFn :=
  (AFn.mk 43 1 (.seq (.reg l63r0) (.seq (.seq (.reg l63r1) (.cond (.tmp 11) (.seq (.reg l63r2) .ret) .skip)) (.seq (.draw l63r3) (.seq (.seq (.reg l63r4) (.block 0 (.loop (.seq (.reg l63r5) (.seq (.cond (.tmp 20) .skip (.exit 0)) (.seq (.block 1 (.seq (.reg l63r6) (.seq (.reg l63r7) (.seq (.reg l63r8) (.reg l63r9))))) (.reg l63r10))))))) (.seq (.reg l63r11) .ret))))) [.tmp 2,.tmp 3])
theorem l63_eq : lowFn Tryd.prog 63 = some l63 := by kernel_rfl
def l64r0 : List AOper :=
  [.mk (some 1) (.box (.tmp 0)) none [],.mk (some 2) (.mv (.const (.int .i64 0))) none []]
def l64r1 : List AOper :=
  [.mk (some 3) (.fld 1 (.tmp 1)) none [],.mk (some 4) (.load false 1 (.tmp 3)) none [0],.mk (some 5) (.call 73 [.tmp 4]) none [1],.mk (some 2) (.mv (.tmp 5)) none [2,2,0,1,2]]
def l64 : AFn :=
  (AFn.mk 6 1 (.seq (.reg l64r0) (.seq (.reg l64r1) .ret)) [.tmp 2])
theorem l64_eq : lowFn Tryd.prog 64 = some l64 := by kernel_rfl
def l65r0 : List AOper :=
  [.mk (some 2) (.box (.tmp 0)) none [],.mk (some 3) (.box (.tmp 1)) none [],.mk (some 4) (.mv (.const (.bool false))) none []]
def l65r1 : List AOper :=
  [.mk (some 5) (.fld 0 (.tmp 2)) none [],.mk (some 6) (.load false 1 (.tmp 5)) none [0],.mk (some 7) (.fld 0 (.tmp 3)) none [],.mk (some 8) (.load false 1 (.tmp 7)) none [2],.mk (some 9) (.bin .neq (.tmp 6) (.tmp 8)) none [1,3]]
def l65r2 : List AOper :=
  [.mk (some 4) (.mv (.const (.bool false))) none []]
def l65r3 : List AOper :=
  [.mk (some 10) (.fld 1 (.tmp 2)) none [],.mk (some 11) (.load false 1 (.tmp 10)) none [0],.mk (some 12) (.fld 1 (.tmp 3)) none [],.mk (some 13) (.load false 1 (.tmp 12)) none [2],.mk (some 14) (.call 14 [.tmp 11,.tmp 13]) none [1,3],.mk (some 15) (.un .not (.tmp 14)) none [4]]
def l65r4 : List AOper :=
  [.mk (some 4) (.mv (.const (.bool false))) none []]
def l65r5 : List AOper :=
  [.mk (some 16) (.fld 2 (.tmp 2)) none [],.mk (some 17) (.load false 1 (.tmp 16)) none [0],.mk (some 18) (.fld 2 (.tmp 3)) none [],.mk (some 19) (.load false 1 (.tmp 18)) none [2],.mk (some 20) (.call 14 [.tmp 17,.tmp 19]) none [1,3],.mk (some 21) (.un .not (.tmp 20)) none [4]]
def l65r6 : List AOper :=
  [.mk (some 4) (.mv (.const (.bool false))) none []]
def l65r7 : List AOper :=
  [.mk (some 4) (.mv (.const (.bool true))) none []]
def l65 : AFn :=
  (AFn.mk 22 2 (.seq (.reg l65r0) (.seq (.seq (.reg l65r1) (.cond (.tmp 9) (.seq (.reg l65r2) .ret) .skip)) (.seq (.seq (.reg l65r3) (.cond (.tmp 15) (.seq (.reg l65r4) .ret) .skip)) (.seq (.seq (.reg l65r5) (.cond (.tmp 21) (.seq (.reg l65r6) .ret) .skip)) (.seq (.reg l65r7) .ret))))) [.tmp 4])
theorem l65_eq : lowFn Tryd.prog 65 = some l65 := by kernel_rfl
def l66r0 : List AOper :=
  [.mk (some 2) (.mv (.const (.int .i64 0))) none []]
def l66r1 : List AOper :=
  [.mk (some 3) (.mv (.const (.int .i64 1))) none []]
def l66r2 : List AOper :=
  [.mk (some 4) (.mv (.const (.int .i64 0))) none []]
def l66r3 : List AOper :=
  [.mk (some 5) (.mv (.tmp 4)) none [],.mk (some 6) (.mv (.tmp 0)) none [],.mk (some 7) (.len (.tmp 6)) none [1],.mk (some 8) (.bin .lss (.tmp 5) (.tmp 7)) none [0,2]]
def l66r4 : List AOper :=
  [.mk (some 11) (.mv (.tmp 3)) none [],.mk (some 12) (.mv (.tmp 0)) none [],.mk (some 13) (.mv (.tmp 4)) none [],.mk (some 14) (.idxA 1 (.tmp 12) (.tmp 13)) none [1,2],.mk (some 15) (.load false 1 (.tmp 14)) none [3],.mk (some 16) (.bin .mul (.tmp 11) (.tmp 15)) none [0,4],.mk (some 3) (.mv (.tmp 16)) none [5,0,1,2,3,4,5]]
def l66r5 : List AOper :=
  [.mk (some 9) (.mv (.tmp 4)) none [],.mk (some 10) (.bin .add (.tmp 9) (.const (.int .i64 1))) none [0],.mk (some 4) (.mv (.tmp 10)) none [1,0,1]]
def l66r6 : List AOper :=
  [.mk (some 17) (.mv (.tmp 3)) none [],.mk (some 2) (.mv (.tmp 17)) none [0,0]]
def l66 : AFn :=
  (AFn.mk 18 1 (.seq (.reg l66r0) (.seq (.reg l66r1) (.seq (.seq (.reg l66r2) (.block 0 (.loop (.seq (.seq (.reg l66r3) (.cond (.tmp 8) .skip (.exit 0))) (.seq (.block 1 (.reg l66r4)) (.reg l66r5)))))) (.seq (.reg l66r6) .ret)))) [.tmp 2])
theorem l66_eq : lowFn Tryd.prog 66 = some l66 := by kernel_rfl
def l67r0 : List AOper :=
  [.mk (some 2) (.box (.tmp 0)) none [],.mk (some 4) (.mv (.const (.int .i64 0))) none []]
def l67r1 : List AOper :=
  [.mk (some 7) (.fld 0 (.tmp 2)) none [],.mk (some 8) (.load false 1 (.tmp 7)) none [0],.mk (some 5) (.mv (.tmp 8)) none [1,0,1]]
def l67r2 : List AOper :=
  [.mk (some 6) (.mv (.const (.int .i64 0))) none []]
def l67r3 : List AOper :=
  [.mk (some 9) (.mv (.tmp 6)) none [],.mk (some 10) (.mv (.tmp 1)) none [],.mk (some 11) (.len (.tmp 10)) none [1],.mk (some 12) (.bin .lss (.tmp 9) (.tmp 11)) none [0,2]]
def l67r4a : List AOper :=
  [.mk (some 15) (.mv (.tmp 5)) none [],.mk (some 16) (.mv (.tmp 1)) none [],.mk (some 17) (.mv (.tmp 6)) none [],.mk (some 18) (.idxA 1 (.tmp 16) (.tmp 17)) none [1,2],.mk (some 19) (.load false 1 (.tmp 18)) none [3],.mk (some 20) (.fld 2 (.tmp 2)) none [],.mk (some 21) (.load false 1 (.tmp 20)) none [5],.mk (some 22) (.mv (.tmp 6)) none [],.mk (some 23) (.idxA 1 (.tmp 21) (.tmp 22)) none [6,7],.mk (some 24) (.load false 1 (.tmp 23)) none [8],.mk (some 25) (.bin .mul (.tmp 19) (.tmp 24)) none [4,9]]
def l67r4b : List AOper :=
  [.mk (some 26) (.bin .add (.tmp 15) (.tmp 25)) none [0,10],.mk (some 5) (.mv (.tmp 26)) none [11,0,1,2,3,4,5,6,7,8,9,10,11]]
def l67r4 : List AOper := l67r4a ++ l67r4b
def l67r5 : List AOper :=
  [.mk (some 13) (.mv (.tmp 6)) none [],.mk (some 14) (.bin .add (.tmp 13) (.const (.int .i64 1))) none [0],.mk (some 6) (.mv (.tmp 14)) none [1,0,1]]
def l67r6 : List AOper :=
  [.mk (some 27) (.mv (.tmp 5)) none [],.mk (some 4) (.mv (.tmp 27)) none [0,0]]
def l67 : AFn :=
  (AFn.mk 28 2 (.seq (.reg l67r0) (.seq (.reg l67r1) (.seq (.seq (.reg l67r2) (.block 0 (.loop (.seq (.seq (.reg l67r3) (.cond (.tmp 12) .skip (.exit 0))) (.seq (.block 1 (.draw l67r4)) (.reg l67r5)))))) (.seq (.reg l67r6) .ret)))) [.tmp 4])
theorem l67_eq : lowFn Tryd.prog 67 = some l67 := by kernel_rfl
def l68r0 : List AOper :=
  [.mk (some 4) (.mv (.const (.slice none 0 0))) none []]
def l68r1 : List AOper :=
  [.mk (some 7) (.mv (.tmp 0)) none [],.mk (some 8) (.len (.tmp 7)) none [0],.mk (some 9) (.mkslice 1 [.int .i64 0] (.tmp 8) (.tmp 8)) none [1,1],.mk (some 5) (.mv (.tmp 9)) none [2,0,1,2]]
def l68r2 : List AOper :=
  [.mk (some 10) (.mv (.tmp 0)) none [],.mk (some 11) (.len (.tmp 10)) none [0],.mk (some 12) (.bin .sub (.tmp 11) (.const (.int .i64 1))) none [1],.mk (some 6) (.mv (.tmp 12)) none [2,0,1,2]]
def l68r3 : List AOper :=
  [.mk (some 13) (.mv (.tmp 6)) none [],.mk (some 14) (.bin .geq (.tmp 13) (.const (.int .i64 0))) none [0]]
def l68r4 : List AOper :=
  [.mk (some 17) (.mv (.tmp 5)) none [],.mk (some 18) (.mv (.tmp 6)) none [],.mk (some 19) (.mv (.tmp 1)) none [],.mk (some 20) (.mv (.tmp 0)) none [],.mk (some 21) (.mv (.tmp 6)) none [],.mk (some 22) (.idxA 1 (.tmp 20) (.tmp 21)) none [3,4],.mk (some 23) (.load false 1 (.tmp 22)) none [5],.mk (some 24) (.bin .rem (.tmp 19) (.tmp 23)) none [2,6],.mk (some 25) (.idxA 1 (.tmp 17) (.tmp 18)) none [0,1,0,1,2,3,4,5,6,7],.mk none (.store 1 (.tmp 25) (.tmp 24)) none [8,7,0,1,2,3,4,5,6,7]]
def l68r5 : List AOper :=
  [.mk (some 26) (.mv (.tmp 1)) none [],.mk (some 27) (.mv (.tmp 0)) none [],.mk (some 28) (.mv (.tmp 6)) none [],.mk (some 29) (.idxA 1 (.tmp 27) (.tmp 28)) none [1,2],.mk (some 30) (.load false 1 (.tmp 29)) none [3],.mk (some 31) (.bin .quo (.tmp 26) (.tmp 30)) none [0,4],.mk (some 1) (.mv (.tmp 31)) none [5,0,1,2,3,4,5]]
def l68r6 : List AOper :=
  [.mk (some 15) (.mv (.tmp 6)) none [],.mk (some 16) (.bin .sub (.tmp 15) (.const (.int .i64 1))) none [0],.mk (some 6) (.mv (.tmp 16)) none [1,0,1]]
def l68r7 : List AOper :=
  [.mk (some 32) (.mv (.tmp 5)) none [],.mk (some 4) (.mv (.tmp 32)) none [0,0]]
def l68 : AFn :=
  (AFn.mk 33 2 (.seq (.reg l68r0) (.seq (.reg l68r1) (.seq (.seq (.reg l68r2) (.block 0 (.loop (.seq (.seq (.reg l68r3) (.cond (.tmp 14) .skip (.exit 0))) (.seq (.block 1 (.seq (.reg l68r4) (.reg l68r5))) (.reg l68r6)))))) (.seq (.reg l68r7) .ret)))) [.tmp 4])
theorem l68_eq : lowFn Tryd.prog 68 = some l68 := by kernel_rfl
def l69r0 : List AOper :=
  [.mk (some 1) (.box (.tmp 0)) none [],.mk (some 2) (.mv (.const (.slice none 0 0))) none []]
def l69r1 : List AOper :=
  [.mk (some 5) (.load true 3 (.tmp 1)) none [],.mk (some 6) (.call 64 [.tmp 5]) none [0],.mk (some 7) (.mkslice 1 [.int .i64 0] (.tmp 6) (.tmp 6)) none [1,1],.mk (some 3) (.mv (.tmp 7)) none [2,1,0,1,2]]
def l69r2 : List AOper :=
  [.mk (some 8) (.mv (.tmp 3)) none [],.mk (some 9) (.len (.tmp 8)) none [0],.mk (some 10) (.mv (.const (.int .i64 0))) none []]
def l69r3 : List AOper :=
  [.mk (some 11) (.bin .lss (.tmp 10) (.tmp 9)) none []]
def l69r4 : List AOper :=
  [.mk (some 12) (.mv (.tmp 10)) none [],.mk (some 4) (.mv (.tmp 12)) none [0,0]]
def l69r5a : List AOper :=
  [.mk (some 13) (.mv (.tmp 3)) none [],.mk (some 14) (.mv (.tmp 4)) none [],.mk (some 15) (.load true 3 (.tmp 1)) none [],.mk (some 16) (.fld 1 (.tmp 1)) none [],.mk (some 17) (.load false 1 (.tmp 16)) none [3],.mk (some 18) (.mv (.tmp 4)) none [],.mk (some 19) (.call 76 [.tmp 17,.tmp 18]) none [4,5],.mk (some 20) (.call 75 [.tmp 15,.tmp 19]) none [2,6,6]]
def l69r5b : List AOper :=
  [.mk (some 21) (.idxA 1 (.tmp 13) (.tmp 14)) none [0,1,0,1,2,3,4,5,6,7],.mk none (.store 1 (.tmp 21) (.tmp 20)) none [8,7,7,0,1,2,3,4,5,6,7]]
def l69r5 : List AOper := l69r5a ++ l69r5b
def l69r6 : List AOper :=
  [.mk (some 22) (.bin .add (.tmp 10) (.const (.int .i64 1))) none [],.mk (some 10) (.mv (.tmp 22)) none [0]]
def l69r7 : List AOper :=
  [.mk (some 23) (.mv (.tmp 3)) none [],.mk (some 2) (.mv (.tmp 23)) none [0,0]]
def l69 : AFn :=
  (AFn.mk 24 1 (.seq (.reg l69r0) (.seq (.reg l69r1) (.seq (.seq (.reg l69r2) (.block 0 (.loop (.seq (.reg l69r3) (.seq (.cond (.tmp 11) .skip (.exit 0)) (.seq (.block 1 (.seq (.reg l69r4) (.draw l69r5))) (.reg l69r6))))))) (.seq (.reg l69r7) .ret)))) [.tmp 2])
theorem l69_eq : lowFn Tryd.prog 69 = some l69 := by kernel_rfl
def l70r0 : List AOper :=
  [.mk (some 1) (.box (.tmp 0)) none [],.mk (some 2) (.mv (.const (.int .i64 0))) none []]
def l70r1 : List AOper :=
  [.mk (some 4) (.fld 1 (.tmp 1)) none [],.mk (some 5) (.load false 1 (.tmp 4)) none [0],.mk (some 6) (.len (.tmp 5)) none [1],.mk (some 7) (.bin .sub (.tmp 6) (.const (.int .i64 1))) none [2],.mk (some 3) (.mv (.tmp 7)) none [3,0,1,2,3]]
def l70r2 : List AOper :=
  [.mk (some 8) (.mv (.tmp 3)) none [],.mk (some 9) (.bin .lss (.tmp 8) (.const (.int .i64 0))) none [0],.mk (some 10) (.mv (.tmp 9)) none [1],.mk (some 11) (.fld 2 (.tmp 1)) (some (10,false)) [2],.mk (some 12) (.load false 1 (.tmp 11)) (some (10,false)) [3,2],.mk (some 13) (.mv (.tmp 3)) (some (10,false)) [2],.mk (some 14) (.idxA 1 (.tmp 12) (.tmp 13)) (some (10,false)) [4,5,2],.mk (some 15) (.load false 1 (.tmp 14)) (some (10,false)) [6,2],.mk (some 16) (.bin .neq (.tmp 15) (.const (.int .i64 1))) (some (10,false)) [7,2],.mk (some 17) (.pick (.tmp 10) (.const (.bool true)) (.tmp 16)) none [2,8]]
def l70r3 : List AOper :=
  [.mk (some 2) (.mv (.const (.int .i64 1))) none []]
def l70r4 : List AOper :=
  [.mk (some 18) (.fld 1 (.tmp 1)) none [],.mk (some 19) (.load false 1 (.tmp 18)) none [0],.mk (some 20) (.mv (.tmp 3)) none [],.mk (some 21) (.idxA 1 (.tmp 19) (.tmp 20)) none [1,2],.mk (some 22) (.load false 1 (.tmp 21)) none [3],.mk (some 2) (.mv (.tmp 22)) none [4,0,1,2,3,4]]
def l70 : AFn :=
  (AFn.mk 23 1 (.seq (.reg l70r0) (.seq (.reg l70r1) (.seq (.seq (.reg l70r2) (.cond (.tmp 17) (.seq (.reg l70r3) .ret) .skip)) (.seq (.reg l70r4) .ret)))) [.tmp 2])
theorem l70_eq : lowFn Tryd.prog 70 = some l70 := by kernel_rfl
def l71r0 : List AOper :=
  [.mk (some 6) (.mv (.const (.slice none 0 0))) none []]
def l71r1 : List AOper :=
  [.mk (some 8) (.mv (.tmp 1)) none [],.mk (some 9) (.mv (.tmp 2)) none [],.mk (some 10) (.bin .add (.tmp 8) (.tmp 9)) none [0,1],.mk (some 7) (.mv (.tmp 10)) none [2,0,1,2]]
def l71r2 : List AOper :=
  [.mk (some 11) (.mv (.tmp 0)) none [],.mk (some 12) (.mv (.tmp 1)) none [],.mk (some 13) (.mv (.tmp 7)) none [],.mk (some 14) (.mv (.tmp 7)) none [],.mk (some 15) (.slice3 1 (.tmp 11) (some (.tmp 12)) (.tmp 13) (.tmp 14)) none [0,1,2,3],.mk (some 6) (.mv (.tmp 15)) none [4,0,1,2,3,4]]
def l71 : AFn :=
  (AFn.mk 16 3 (.seq (.reg l71r0) (.seq (.reg l71r1) (.seq (.reg l71r2) .ret))) [.tmp 6])
theorem l71_eq : lowFn Tryd.prog 71 = some l71 := by kernel_rfl
def l72r0 : List AOper :=
  [.mk (some 2) (.mv (.const (.bool false))) none []]
def l72r1 : List AOper :=
  [.mk (some 3) (.mv (.tmp 0)) none [],.mk (some 4) (.len (.tmp 3)) none [0],.mk (some 5) (.bin .leq (.tmp 4) (.const (.int .i64 4))) none [1],.mk (some 6) (.mv (.tmp 5)) none [2],.mk (some 7) (.mv (.tmp 0)) (some (6,true)) [3],.mk (some 8) (.call 59 [.tmp 7,.const (.int .i64 0),.const (.int .i64 60)]) (some (6,true)) [4,3,3],.mk (some 9) (.pick (.tmp 6) (.tmp 8) (.const (.bool false))) none [3,5],.mk (some 10) (.mv (.tmp 9)) none [6,5],.mk (some 11) (.mv (.tmp 0)) (some (10,true)) [7],.mk (some 12) (.call 66 [.tmp 11]) (some (10,true)) [8,7,7],.mk (some 13) (.bin .leq (.tmp 12) (.const (.int .i64 60))) (some (10,true)) [9,7],.mk (some 14) (.pick (.tmp 10) (.tmp 13) (.const (.bool false))) none [7,10],.mk (some 2) (.mv (.tmp 14)) none [11,9,0,1,2,3,4,5,6,7,8,9,10,11]]
def l72 : AFn :=
  (AFn.mk 15 1 (.seq (.reg l72r0) (.seq (.reg l72r1) .ret)) [.tmp 2])
theorem l72_eq : lowFn Tryd.prog 72 = some l72 := by kernel_rfl
def l73r0 : List AOper :=
  [.mk (some 2) (.mv (.const (.int .i64 0))) none []]
def l73r1 : List AOper :=
  [.mk (some 3) (.mv (.const (.int .i64 1))) none []]
def l73r2 : List AOper :=
  [.mk (some 6) (.mv (.tmp 0)) none [],.mk (some 7) (.len (.tmp 6)) none [0],.mk (some 8) (.mv (.const (.int .i64 0))) none []]
def l73r3 : List AOper :=
  [.mk (some 9) (.bin .lss (.tmp 8) (.tmp 7)) none []]
def l73r4 : List AOper :=
  [.mk (some 10) (.idxA 1 (.tmp 6) (.tmp 8)) none [],.mk (some 11) (.load false 1 (.tmp 10)) none [0],.mk (some 5) (.mv (.tmp 11)) none [1,0,1]]
def l73r5 : List AOper :=
  [.mk (some 12) (.mv (.tmp 3)) none [],.mk (some 13) (.mv (.tmp 5)) none [],.mk (some 14) (.bin .mul (.tmp 12) (.tmp 13)) none [0,1],.mk (some 3) (.mv (.tmp 14)) none [2,0,1,2]]
def l73r6 : List AOper :=
  [.mk (some 15) (.bin .add (.tmp 8) (.const (.int .i64 1))) none [],.mk (some 8) (.mv (.tmp 15)) none [0]]
def l73r7 : List AOper :=
  [.mk (some 16) (.mv (.tmp 3)) none [],.mk (some 2) (.mv (.tmp 16)) none [0,0]]
def l73 : AFn :=
  (AFn.mk 17 1 (.seq (.reg l73r0) (.seq (.reg l73r1) (.seq (.seq (.reg l73r2) (.block 0 (.loop (.seq (.reg l73r3) (.seq (.cond (.tmp 9) .skip (.exit 0)) (.seq (.block 1 (.seq (.reg l73r4) (.reg l73r5))) (.reg l73r6))))))) (.seq (.reg l73r7) .ret)))) [.tmp 2])
theorem l73_eq : lowFn Tryd.prog 73 = some l73 := by kernel_rfl
def l74r0 : List AOper :=
  [.mk (some 4) (.mv (.const (.bool false))) none []]
def l74r1 : List AOper :=
  [.mk (some 5) (.mv (.tmp 1)) none [],.mk (some 6) (.un .neg (.tmp 5)) none [0],.mk (some 7) (.mv (.tmp 0)) none [],.mk (some 8) (.bin .leq (.tmp 6) (.tmp 7)) none [1,2],.mk (some 9) (.mv (.tmp 8)) none [3],.mk (some 10) (.mv (.tmp 0)) (some (9,true)) [4],.mk (some 11) (.mv (.tmp 1)) (some (9,true)) [4],.mk (some 12) (.bin .leq (.tmp 10) (.tmp 11)) (some (9,true)) [5,6,4],.mk (some 13) (.pick (.tmp 9) (.tmp 12) (.const (.bool false))) none [4,7],.mk (some 4) (.mv (.tmp 13)) none [8,4,0,1,2,3,4,5,6,7,8]]
def l74 : AFn :=
  (AFn.mk 14 2 (.seq (.reg l74r0) (.seq (.reg l74r1) .ret)) [.tmp 4])
theorem l74_eq : lowFn Tryd.prog 74 = some l74 := by kernel_rfl
def l75r0 : List AOper :=
  [.mk (some 2) (.box (.tmp 0)) none [],.mk (some 3) (.box (.tmp 1)) none [],.mk (some 4) (.mv (.const (.int .i64 0))) none []]
def l75r1a : List AOper :=
  [.mk (some 5) (.fld 0 (.tmp 2)) none [],.mk (some 6) (.load false 1 (.tmp 5)) none [0],.mk (some 7) (.load true 4 (.tmp 3)) none [],.mk (some 8) (.fld 2 (.tmp 2)) none [],.mk (some 9) (.load false 1 (.tmp 8)) none [3],.mk (some 10) (.call 77 [.tmp 7,.tmp 9]) none [2,4]]
def l75r1b : List AOper :=
  [.mk (some 11) (.bin .add (.tmp 6) (.tmp 10)) none [1,5],.mk (some 4) (.mv (.tmp 11)) none [6,5,0,1,2,3,4,5,6]]
def l75r1 : List AOper := l75r1a ++ l75r1b
def l75 : AFn :=
  (AFn.mk 12 2 (.seq (.reg l75r0) (.seq (.draw l75r1) .ret)) [.tmp 4])
theorem l75_eq : lowFn Tryd.prog 75 = some l75 := by kernel_rfl
def l76r0 : List AOper :=
  [.mk (some 4) (.alloc [.int .i64 0,.int .i64 0,.int .i64 0,.int .i64 0]) none []]
def l76r1 : List AOper :=
  [.mk (some 5) (.alloc [.int .i64 0,.int .i64 0,.int .i64 0,.int .i64 0]) none []]
def l76r2 : List AOper :=
  [.mk (some 7) (.mv (.tmp 0)) none [],.mk (some 8) (.len (.tmp 7)) none [0],.mk (some 9) (.bin .sub (.tmp 8) (.const (.int .i64 1))) none [1],.mk (some 6) (.mv (.tmp 9)) none [2,0,1,2]]
def l76r3 : List AOper :=
  [.mk (some 10) (.mv (.tmp 6)) none [],.mk (some 11) (.bin .geq (.tmp 10) (.const (.int .i64 0))) none [0]]
def l76r4 : List AOper :=
  [.mk (some 14) (.mv (.tmp 6)) none [],.mk (some 15) (.mv (.tmp 1)) none [],.mk (some 16) (.mv (.tmp 0)) none [],.mk (some 17) (.mv (.tmp 6)) none [],.mk (some 18) (.idxA 1 (.tmp 16) (.tmp 17)) none [2,3],.mk (some 19) (.load false 1 (.tmp 18)) none [4],.mk (some 20) (.bin .rem (.tmp 15) (.tmp 19)) none [1,5],.mk (some 21) (.idxP 1 4 (.tmp 5) (.tmp 14)) none [0,0,1,2,3,4,5,6],.mk none (.store 1 (.tmp 21) (.tmp 20)) none [7,6,0,1,2,3,4,5,6]]
def l76r5 : List AOper :=
  [.mk (some 22) (.mv (.tmp 1)) none [],.mk (some 23) (.mv (.tmp 0)) none [],.mk (some 24) (.mv (.tmp 6)) none [],.mk (some 25) (.idxA 1 (.tmp 23) (.tmp 24)) none [1,2],.mk (some 26) (.load false 1 (.tmp 25)) none [3],.mk (some 27) (.bin .quo (.tmp 22) (.tmp 26)) none [0,4],.mk (some 1) (.mv (.tmp 27)) none [5,0,1,2,3,4,5]]
def l76r6 : List AOper :=
  [.mk (some 12) (.mv (.tmp 6)) none [],.mk (some 13) (.bin .sub (.tmp 12) (.const (.int .i64 1))) none [0],.mk (some 6) (.mv (.tmp 13)) none [1,0,1]]
def l76r7 : List AOper :=
  [.mk (some 28) (.load true 4 (.tmp 5)) none [],.mk none (.store 4 (.tmp 4) (.tmp 28)) none [0,0]]
def l76 : AFn :=
  (AFn.mk 29 2 (.seq (.reg l76r0) (.seq (.reg l76r1) (.seq (.seq (.reg l76r2) (.block 0 (.loop (.seq (.seq (.reg l76r3) (.cond (.tmp 11) .skip (.exit 0))) (.seq (.block 1 (.seq (.reg l76r4) (.reg l76r5))) (.reg l76r6)))))) (.seq (.reg l76r7) .ret)))) [.cell 4 true 4])
theorem l76_eq : lowFn Tryd.prog 76 = some l76 := by kernel_rfl
def l77r0 : List AOper :=
  [.mk (some 2) (.box (.tmp 0)) none [],.mk (some 4) (.mv (.const (.int .i64 0))) none []]
def l77r1 : List AOper :=
  [.mk (some 5) (.mv (.const (.int .i64 0))) none []]
def l77r2 : List AOper :=
  [.mk (some 8) (.mv (.tmp 1)) none [],.mk (some 9) (.len (.tmp 8)) none [0],.mk (some 10) (.mv (.const (.int .i64 0))) none []]
def l77r3 : List AOper :=
  [.mk (some 11) (.bin .lss (.tmp 10) (.tmp 9)) none []]
def l77r4 : List AOper :=
  [.mk (some 12) (.mv (.tmp 10)) none [],.mk (some 13) (.idxA 1 (.tmp 8) (.tmp 10)) none [],.mk (some 14) (.load false 1 (.tmp 13)) none [1],.mk (some 6) (.mv (.tmp 12)) none [0,0,1,2],.mk (some 7) (.mv (.tmp 14)) none [2,3,0,1,2,3]]
def l77r5 : List AOper :=
  [.mk (some 15) (.mv (.tmp 5)) none [],.mk (some 16) (.mv (.tmp 6)) none [],.mk (some 17) (.idxP 1 4 (.tmp 2) (.tmp 16)) none [1],.mk (some 18) (.load false 1 (.tmp 17)) none [2],.mk (some 19) (.mv (.tmp 7)) none [],.mk (some 20) (.bin .mul (.tmp 18) (.tmp 19)) none [3,4],.mk (some 21) (.bin .add (.tmp 15) (.tmp 20)) none [0,5],.mk (some 5) (.mv (.tmp 21)) none [6,0,1,2,3,4,5,6]]
def l77r6 : List AOper :=
  [.mk (some 22) (.bin .add (.tmp 10) (.const (.int .i64 1))) none [],.mk (some 10) (.mv (.tmp 22)) none [0]]
def l77r7 : List AOper :=
  [.mk (some 23) (.mv (.tmp 5)) none [],.mk (some 4) (.mv (.tmp 23)) none [0,0]]
def l77 : AFn :=
  (AFn.mk 24 2 (.seq (.reg l77r0) (.seq (.reg l77r1) (.seq (.seq (.reg l77r2) (.block 0 (.loop (.seq (.reg l77r3) (.seq (.cond (.tmp 11) .skip (.exit 0)) (.seq (.block 1 (.seq (.reg l77r4) (.reg l77r5))) (.reg l77r6))))))) (.seq (.reg l77r7) .ret)))) [.tmp 4])
theorem l77_eq : lowFn Tryd.prog 77 = some l77 := by kernel_rfl
end Go.Proofs.YtiknpnnhbhfipaaDoor
