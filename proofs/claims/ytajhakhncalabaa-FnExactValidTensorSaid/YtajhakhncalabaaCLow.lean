import Derived.Test.YtajhakhncalabaaCW3
import Derived.Test.YtajhakhncalabaaProg
import Derived.KernelRfl
set_option maxRecDepth 100000
namespace Go.Proofs.Ytajhakhncalabaa
open Vw Go
instance globs : Inhabited GlobT := ⟨⟨[]⟩⟩
attribute [push_cast] Bool.false_eq_true List.length_replicate
attribute [bitvec_to_nat] decide_eq_true_eq decide_eq_false_iff_not Bool.not_eq_true' Bool.not_eq_false' Bool.and_eq_true Bool.or_eq_true Bool.and_eq_false_iff Bool.or_eq_false_iff Int.not_le Int.not_lt bne_iff_ne ne_eq beq_iff_eq Bool.not_eq_true Bool.not_eq_false
theorem sd {P : Prop} (h : P := by first | assumption | rfl | omega | (simp <;> omega) | (simp_all <;> omega)) : P := h
def l3r0 : List AOper :=
  [.mk (some 1) (.box (.tmp 0)) none [],.mk (some 2) (.mv (.const (.bool false))) none []]
def l3r1 : List AOper :=
  [.mk (some 3) (.mv (.const (.int .i64 1048576))) none []]
def l3r2 : List AOper :=
  [.mk (some 7) (.load true 2 (.tmp 1)) none [],.mk (some 8) (.mv (.tmp 3)) none [],.mk (some 9) (.call 12 [.tmp 7,.tmp 8]) none [0,1],.mk (some 3) (.mv (.tmp 9)) none [2,2,0,1,2]]
def l3r3 : List AOper :=
  [.mk (some 10) (.mv (.tmp 3)) none [],.mk (some 11) (.bin .lss (.tmp 10) (.const (.int .i64 0))) none [0]]
def l3r4 : List AOper :=
  [.mk (some 2) (.mv (.const (.bool true))) none []]
def l3r5 : List AOper :=
  [.mk (some 12) (.load true 2 (.tmp 1)) none [],.mk (some 13) (.call 14 [.tmp 12]) none [0],.mk (some 14) (.call 13 [.tmp 13]) none [1,1],.mk (some 4) (.mv (.tmp 14)) none [2,2,0,1,2]]
def l3r6 : List AOper :=
  [.mk (some 15) (.load true 2 (.tmp 1)) none [],.mk (some 16) (.call 14 [.tmp 15]) none [0],.mk (some 5) (.alloc [.slice none 0 0,.slice none 0 0]) none [],.mk none (.store 2 (.tmp 5) (.tmp 16)) none [2,1,1,0,1,2]]
def l3r7 : List AOper :=
  [.mk (some 17) (.load true 2 (.tmp 5)) none [],.mk (some 18) (.call 15 [.tmp 17]) none [0],.mk (some 6) (.mv (.tmp 18)) none [1,1,0,1]]
def l3r8 : List AOper :=
  [.mk (some 19) (.mv (.tmp 6)) none [],.mk (some 20) (.mv (.tmp 4)) none [],.mk (some 21) (.binB .neq (.tmp 19) (.tmp 20)) none [0,1]]
def l3r9 : List AOper :=
  [.mk (some 2) (.mv (.const (.bool false))) none []]
def l3r10a : List AOper :=
  [.mk (some 22) (.load true 2 (.tmp 5)) none [],.mk (some 23) (.load true 2 (.tmp 1)) none [],.mk (some 24) (.call 14 [.tmp 23]) none [1]]
def l3r10b : List AOper :=
  [.mk (some 25) (.call 16 [.tmp 22,.tmp 24]) none [0,2,2],.mk (some 26) (.un .not (.tmp 25)) none [3]]
def l3r10 : List AOper := l3r10a ++ l3r10b
def l3r11 : List AOper :=
  [.mk (some 2) (.mv (.const (.bool false))) none []]
def l3r12 : List AOper :=
  [.mk (some 2) (.mv (.const (.bool true))) none []]
def l3 : AFn :=
  (AFn.mk 27 1 (.seq (.reg l3r0) (.seq (.reg l3r1) (.seq (.reg l3r2) (.seq (.seq (.reg l3r3) (.cond (.tmp 11) (.seq (.reg l3r4) .ret) .skip)) (.seq (.reg l3r5) (.seq (.reg l3r6) (.seq (.reg l3r7) (.seq (.seq (.reg l3r8) (.cond (.tmp 21) (.seq (.reg l3r9) .ret) .skip)) (.seq (.seq (.draw l3r10) (.cond (.tmp 26) (.seq (.reg l3r11) .ret) .skip)) (.seq (.reg l3r12) .ret)))))))))) [.tmp 2])
theorem l3_eq : lowFn Try.prog 3 = some l3 := by kernel_rfl
def l4r0 : List AOper :=
  [.mk (some 3) (.box (.tmp 1)) none [],.mk (some 4) (.mv (.const (.bool false))) none []]
def l4r1 : List AOper :=
  [.mk (some 17) (.mv (.tmp 0)) none [],.mk (some 18) (.len (.tmp 17)) none [0],.mk (some 19) (.bin .gtr (.tmp 18) (.const (.int .i64 1048576))) none [1]]
def l4r2 : List AOper :=
  [.mk (some 4) (.mv (.const (.bool true))) none []]
def l4r3 : List AOper :=
  [.mk (some 5) (.mv (.const (.int .i64 1048576))) none []]
def l4r4 : List AOper :=
  [.mk (some 20) (.load true 3 (.tmp 3)) none [],.mk (some 21) (.mv (.tmp 5)) none [],.mk (some 22) (.call 17 [.tmp 20,.tmp 21]) none [0,1],.mk (some 5) (.mv (.tmp 22)) none [2,2,0,1,2]]
def l4r5 : List AOper :=
  [.mk (some 23) (.mv (.tmp 5)) none [],.mk (some 24) (.bin .lss (.tmp 23) (.const (.int .i64 0))) none [0]]
def l4r6 : List AOper :=
  [.mk (some 4) (.mv (.const (.bool true))) none []]
def l4r7a : List AOper :=
  [.mk (some 26) (.mv (.tmp 0)) none [],.mk (some 27) (.call 19 [.tmp 26]) none [0],.mk (some 28) (.load true 3 (.tmp 3)) none [],.mk (some 29) (.call 20 [.tmp 28]) none [2,1],.mk (some 30) (.call 18 [.tmp 27,.tmp 29]) none [1,3,3],.mk (some 25) (.mv (.tmp 30)) none [4],.mk (some 31) (.extract (.tmp 25) 0) none [5],.mk (some 32) (.extract (.tmp 25) 1) none [5],.mk (some 6) (.alloc [.slice none 0 0,.slice none 0 0]) none [],.mk none (.store 2 (.tmp 6) (.tmp 31)) none [8,6,4,0,1,2,3,4,5,6,8]]
def l4r7b : List AOper :=
  [.mk (some 7) (.mv (.tmp 32)) none [7,9,0,1,2,3,4,5,6,7,8,9]]
def l4r7 : List AOper := l4r7a ++ l4r7b
def l4r8 : List AOper :=
  [.mk (some 33) (.mv (.tmp 0)) none [],.mk (some 34) (.call 19 [.tmp 33]) none [0],.mk (some 8) (.mv (.tmp 34)) none [1,1,0,1]]
def l4r9 : List AOper :=
  [.mk (some 35) (.load true 3 (.tmp 3)) none [],.mk (some 36) (.call 20 [.tmp 35]) none [0],.mk (some 9) (.alloc [.int .i64 0,.slice none 0 0,.slice none 0 0]) none [],.mk none (.store 3 (.tmp 9) (.tmp 36)) none [2,1,1,0,1,2]]
def l4r10 : List AOper :=
  [.mk (some 38) (.mv (.tmp 8)) none [],.mk (some 39) (.load true 3 (.tmp 9)) none [],.mk (some 40) (.call 21 [.tmp 38,.tmp 39]) none [0,1],.mk (some 37) (.mv (.tmp 40)) none [2],.mk (some 41) (.extract (.tmp 37) 0) none [3],.mk (some 42) (.extract (.tmp 37) 1) none [3],.mk (some 10) (.alloc [.slice none 0 0,.slice none 0 0]) none [],.mk none (.store 2 (.tmp 10) (.tmp 41)) none [6,4,2,0,1,2,3,4,6],.mk (some 11) (.mv (.tmp 42)) none [5,7,0,1,2,3,4,5,6,7]]
def l4r11 : List AOper :=
  [.mk (some 43) (.load true 2 (.tmp 10)) none [],.mk (some 44) (.load true 2 (.tmp 6)) none [],.mk (some 45) (.call 16 [.tmp 43,.tmp 44]) none [0,1],.mk (some 46) (.un .not (.tmp 45)) none [2],.mk (some 47) (.mv (.tmp 46)) none [3,2],.mk (some 48) (.mv (.tmp 11)) (some (47,false)) [4],.mk (some 49) (.mv (.tmp 7)) (some (47,false)) [4],.mk (some 50) (.binB .neq (.tmp 48) (.tmp 49)) (some (47,false)) [5,6,4],.mk (some 51) (.pick (.tmp 47) (.const (.bool true)) (.tmp 50)) none [4,7]]
def l4r12 : List AOper :=
  [.mk (some 4) (.mv (.const (.bool false))) none []]
def l4r13 : List AOper :=
  [.mk (some 52) (.mv (.tmp 8)) none [],.mk (some 53) (.mv (.tmp 0)) none [],.mk (some 54) (.call 19 [.tmp 53]) none [1],.mk (some 55) (.call 22 [.tmp 52,.tmp 54]) none [0,2,2],.mk (some 56) (.un .not (.tmp 55)) none [3]]
def l4r14 : List AOper :=
  [.mk (some 4) (.mv (.const (.bool false))) none []]
def l4r15a : List AOper :=
  [.mk (some 57) (.load true 3 (.tmp 9)) none [],.mk (some 58) (.load true 3 (.tmp 3)) none [],.mk (some 59) (.call 20 [.tmp 58]) none [1]]
def l4r15b : List AOper :=
  [.mk (some 60) (.call 23 [.tmp 57,.tmp 59]) none [0,2,2],.mk (some 61) (.un .not (.tmp 60)) none [3]]
def l4r15 : List AOper := l4r15a ++ l4r15b
def l4r16 : List AOper :=
  [.mk (some 4) (.mv (.const (.bool false))) none []]
def l4r17 : List AOper :=
  [.mk (some 12) (.mv (.const (.int .i64 1))) none []]
def l4r18 : List AOper :=
  [.mk (some 62) (.mv (.tmp 8)) none [],.mk (some 63) (.mv (.tmp 12)) none [],.mk (some 64) (.call 24 [.tmp 62,.tmp 63]) none [0,1],.mk (some 12) (.mv (.tmp 64)) none [2,2,0,1,2]]
def l4r19 : List AOper :=
  [.mk (some 65) (.load true 3 (.tmp 9)) none [],.mk (some 66) (.mv (.tmp 12)) none [],.mk (some 67) (.call 25 [.tmp 65,.tmp 66]) none [0,1],.mk (some 12) (.mv (.tmp 67)) none [2,2,0,1,2]]
def l4r20 : List AOper :=
  [.mk (some 68) (.mv (.tmp 12)) none [],.mk (some 69) (.bin .lss (.tmp 68) (.const (.int .i64 0))) none [0],.mk (some 70) (.mv (.tmp 69)) none [1],.mk (some 71) (.load true 2 (.tmp 10)) (some (70,false)) [2],.mk (some 72) (.load true 2 (.tmp 6)) (some (70,false)) [2],.mk (some 73) (.call 16 [.tmp 71,.tmp 72]) (some (70,false)) [3,4,2,2],.mk (some 74) (.un .not (.tmp 73)) (some (70,false)) [5,2],.mk (some 75) (.pick (.tmp 70) (.const (.bool true)) (.tmp 74)) none [2,6],.mk (some 76) (.mv (.tmp 75)) none [7,5],.mk (some 77) (.mv (.tmp 11)) (some (76,false)) [8],.mk (some 78) (.mv (.tmp 7)) (some (76,false)) [8],.mk (some 79) (.binB .neq (.tmp 77) (.tmp 78)) (some (76,false)) [9,10,8],.mk (some 80) (.pick (.tmp 76) (.const (.bool true)) (.tmp 79)) none [8,11]]
def l4r21 : List AOper :=
  [.mk (some 4) (.mv (.const (.bool false))) none []]
def l4r22 : List AOper :=
  [.mk (some 13) (.mv (.const (.int .i64 1))) none []]
def l4r23 : List AOper :=
  [.mk (some 81) (.load true 2 (.tmp 10)) none [],.mk (some 82) (.mv (.tmp 13)) none [],.mk (some 83) (.call 26 [.tmp 81,.tmp 82]) none [0,1],.mk (some 13) (.mv (.tmp 83)) none [2,2,0,1,2]]
def l4r24 : List AOper :=
  [.mk (some 14) (.mv (.const (.int .i64 1))) none []]
def l4r25 : List AOper :=
  [.mk (some 84) (.load true 2 (.tmp 10)) none [],.mk (some 85) (.mv (.tmp 14)) none [],.mk (some 86) (.call 27 [.tmp 84,.tmp 85]) none [0,1],.mk (some 14) (.mv (.tmp 86)) none [2,2,0,1,2]]
def l4r26 : List AOper :=
  [.mk (some 87) (.mv (.tmp 14)) none [],.mk (some 88) (.bin .lss (.tmp 87) (.const (.int .i64 0))) none [0]]
def l4r27 : List AOper :=
  [.mk (some 4) (.mv (.const (.bool false))) none []]
def l4r28 : List AOper :=
  [.mk (some 89) (.mv (.tmp 14)) none [],.mk (some 90) (.mv (.tmp 13)) none [],.mk (some 91) (.bin .neq (.tmp 89) (.tmp 90)) none [0,1]]
def l4r29 : List AOper :=
  [.mk (some 4) (.mv (.const (.bool false))) none []]
def l4r30a : List AOper :=
  [.mk (some 93) (.mv (.tmp 0)) none [],.mk (some 94) (.call 19 [.tmp 93]) none [0],.mk (some 95) (.load true 3 (.tmp 3)) none [],.mk (some 96) (.call 20 [.tmp 95]) none [2,1],.mk (some 97) (.call 21 [.tmp 94,.tmp 96]) none [1,3,3],.mk (some 92) (.mv (.tmp 97)) none [4],.mk (some 98) (.extract (.tmp 92) 0) none [5],.mk (some 99) (.extract (.tmp 92) 1) none [5],.mk (some 15) (.alloc [.slice none 0 0,.slice none 0 0]) none [],.mk none (.store 2 (.tmp 15) (.tmp 98)) none [8,6,4,0,1,2,3,4,5,6,8]]
def l4r30b : List AOper :=
  [.mk (some 16) (.mv (.tmp 99)) none [7,9,0,1,2,3,4,5,6,7,8,9]]
def l4r30 : List AOper := l4r30a ++ l4r30b
def l4r31 : List AOper :=
  [.mk (some 100) (.load true 2 (.tmp 15)) none [],.mk (some 101) (.load true 2 (.tmp 6)) none [],.mk (some 102) (.call 16 [.tmp 100,.tmp 101]) none [0,1],.mk (some 103) (.un .not (.tmp 102)) none [2],.mk (some 104) (.mv (.tmp 103)) none [3,2],.mk (some 105) (.mv (.tmp 16)) (some (104,false)) [4],.mk (some 106) (.mv (.tmp 7)) (some (104,false)) [4],.mk (some 107) (.binB .neq (.tmp 105) (.tmp 106)) (some (104,false)) [5,6,4],.mk (some 108) (.pick (.tmp 104) (.const (.bool true)) (.tmp 107)) none [4,7]]
def l4r32 : List AOper :=
  [.mk (some 4) (.mv (.const (.bool false))) none []]
def l4r33 : List AOper :=
  [.mk (some 14) (.mv (.const (.int .i64 1))) none []]
def l4r34 : List AOper :=
  [.mk (some 109) (.load true 2 (.tmp 10)) none [],.mk (some 110) (.mv (.tmp 14)) none [],.mk (some 111) (.call 27 [.tmp 109,.tmp 110]) none [0,1],.mk (some 14) (.mv (.tmp 111)) none [2,2,0,1,2]]
def l4r35 : List AOper :=
  [.mk (some 112) (.mv (.tmp 14)) none [],.mk (some 113) (.bin .lss (.tmp 112) (.const (.int .i64 0))) none [0]]
def l4r36 : List AOper :=
  [.mk (some 4) (.mv (.const (.bool false))) none []]
def l4r37 : List AOper :=
  [.mk (some 114) (.mv (.tmp 14)) none [],.mk (some 115) (.mv (.tmp 13)) none [],.mk (some 116) (.bin .neq (.tmp 114) (.tmp 115)) none [0,1]]
def l4r38 : List AOper :=
  [.mk (some 4) (.mv (.const (.bool false))) none []]
def l4r39 : List AOper :=
  [.mk (some 4) (.mv (.const (.bool true))) none []]
def l4 : AFn :=
  (AFn.mk 117 2 (.seq (.reg l4r0) (.seq (.seq (.reg l4r1) (.cond (.tmp 19) (.seq (.reg l4r2) .ret) .skip)) (.seq (.reg l4r3) (.seq (.reg l4r4) (.seq (.seq (.reg l4r5) (.cond (.tmp 24) (.seq (.reg l4r6) .ret) .skip)) (.seq (.draw l4r7) (.seq (.reg l4r8) (.seq (.reg l4r9) (.seq (.reg l4r10) (.seq (.seq (.reg l4r11) (.cond (.tmp 51) (.seq (.reg l4r12) .ret) .skip)) (.seq (.seq (.reg l4r13) (.cond (.tmp 56) (.seq (.reg l4r14) .ret) .skip)) (.seq (.seq (.draw l4r15) (.cond (.tmp 61) (.seq (.reg l4r16) .ret) .skip)) (.seq (.reg l4r17) (.seq (.reg l4r18) (.seq (.reg l4r19) (.seq (.seq (.reg l4r20) (.cond (.tmp 80) (.seq (.reg l4r21) .ret) .skip)) (.seq (.reg l4r22) (.seq (.reg l4r23) (.seq (.reg l4r24) (.seq (.reg l4r25) (.seq (.seq (.reg l4r26) (.cond (.tmp 88) (.seq (.reg l4r27) .ret) .skip)) (.seq (.seq (.reg l4r28) (.cond (.tmp 91) (.seq (.reg l4r29) .ret) .skip)) (.seq (.draw l4r30) (.seq (.seq (.reg l4r31) (.cond (.tmp 108) (.seq (.reg l4r32) .ret) .skip)) (.seq (.reg l4r33) (.seq (.reg l4r34) (.seq (.seq (.reg l4r35) (.cond (.tmp 113) (.seq (.reg l4r36) .ret) .skip)) (.seq (.seq (.reg l4r37) (.cond (.tmp 116) (.seq (.reg l4r38) .ret) .skip)) (.seq (.reg l4r39) .ret))))))))))))))))))))))))))))) [.tmp 4])
theorem l4_eq : lowFn Try.prog 4 = some l4 := by kernel_rfl
def l5r0 : List AOper :=
  [.mk (some 4) (.mv (.const (.bool false))) none []]
def l5r1 : List AOper :=
  [.mk (some 5) (.mv (.const (.int .i64 1048576))) none []]
def l5r2 : List AOper :=
  [.mk (some 10) (.mv (.tmp 0)) none [],.mk (some 11) (.mv (.tmp 5)) none [],.mk (some 12) (.call 28 [.tmp 10,.tmp 11]) none [0,1],.mk (some 5) (.mv (.tmp 12)) none [2,2,0,1,2]]
def l5r3 : List AOper :=
  [.mk (some 13) (.mv (.tmp 5)) none [],.mk (some 14) (.bin .lss (.tmp 13) (.const (.int .i64 0))) none [0]]
def l5r4 : List AOper :=
  [.mk (some 4) (.mv (.const (.bool true))) none []]
def l5r5 : List AOper :=
  [.mk (some 15) (.mv (.tmp 1)) none [],.mk (some 16) (.mv (.tmp 5)) none [],.mk (some 17) (.call 29 [.tmp 15,.tmp 16]) none [0,1],.mk (some 5) (.mv (.tmp 17)) none [2,2,0,1,2]]
def l5r6 : List AOper :=
  [.mk (some 18) (.mv (.tmp 5)) none [],.mk (some 19) (.bin .lss (.tmp 18) (.const (.int .i64 0))) none [0]]
def l5r7 : List AOper :=
  [.mk (some 4) (.mv (.const (.bool true))) none []]
def l5r8 : List AOper :=
  [.mk (some 20) (.mv (.tmp 0)) none [],.mk (some 21) (.call 31 [.tmp 20]) none [0],.mk (some 22) (.mv (.tmp 1)) none [],.mk (some 23) (.call 32 [.tmp 22]) none [2,1],.mk (some 24) (.call 30 [.tmp 21,.tmp 23]) none [1,3,3],.mk (some 6) (.mv (.tmp 24)) none [4,4,0,1,2,3,4]]
def l5r9 : List AOper :=
  [.mk (some 25) (.mv (.tmp 0)) none [],.mk (some 26) (.call 31 [.tmp 25]) none [0],.mk (some 7) (.mv (.tmp 26)) none [1,1,0,1]]
def l5r10 : List AOper :=
  [.mk (some 27) (.mv (.tmp 1)) none [],.mk (some 28) (.call 32 [.tmp 27]) none [0],.mk (some 8) (.mv (.tmp 28)) none [1,1,0,1]]
def l5r11 : List AOper :=
  [.mk (some 29) (.mv (.tmp 7)) none [],.mk (some 30) (.mv (.tmp 8)) none [],.mk (some 31) (.call 33 [.tmp 29,.tmp 30]) none [0,1],.mk (some 9) (.mv (.tmp 31)) none [2,2,0,1,2]]
def l5r12 : List AOper :=
  [.mk (some 32) (.mv (.tmp 9)) none [],.mk (some 33) (.mv (.tmp 6)) none [],.mk (some 34) (.bin .neq (.tmp 32) (.tmp 33)) none [0,1]]
def l5r13 : List AOper :=
  [.mk (some 4) (.mv (.const (.bool false))) none []]
def l5r14 : List AOper :=
  [.mk (some 35) (.mv (.tmp 7)) none [],.mk (some 36) (.mv (.tmp 0)) none [],.mk (some 37) (.call 31 [.tmp 36]) none [1],.mk (some 38) (.call 34 [.tmp 35,.tmp 37]) none [0,2,2],.mk (some 39) (.un .not (.tmp 38)) none [3]]
def l5r15 : List AOper :=
  [.mk (some 4) (.mv (.const (.bool false))) none []]
def l5r16 : List AOper :=
  [.mk (some 40) (.mv (.tmp 8)) none [],.mk (some 41) (.mv (.tmp 1)) none [],.mk (some 42) (.call 32 [.tmp 41]) none [1],.mk (some 43) (.call 35 [.tmp 40,.tmp 42]) none [0,2,2],.mk (some 44) (.un .not (.tmp 43)) none [3]]
def l5r17 : List AOper :=
  [.mk (some 4) (.mv (.const (.bool false))) none []]
def l5r18 : List AOper :=
  [.mk (some 4) (.mv (.const (.bool true))) none []]
def l5 : AFn :=
  (AFn.mk 45 2 (.seq (.reg l5r0) (.seq (.reg l5r1) (.seq (.reg l5r2) (.seq (.seq (.reg l5r3) (.cond (.tmp 14) (.seq (.reg l5r4) .ret) .skip)) (.seq (.reg l5r5) (.seq (.seq (.reg l5r6) (.cond (.tmp 19) (.seq (.reg l5r7) .ret) .skip)) (.seq (.reg l5r8) (.seq (.reg l5r9) (.seq (.reg l5r10) (.seq (.reg l5r11) (.seq (.seq (.reg l5r12) (.cond (.tmp 34) (.seq (.reg l5r13) .ret) .skip)) (.seq (.seq (.reg l5r14) (.cond (.tmp 39) (.seq (.reg l5r15) .ret) .skip)) (.seq (.seq (.reg l5r16) (.cond (.tmp 44) (.seq (.reg l5r17) .ret) .skip)) (.seq (.reg l5r18) .ret)))))))))))))) [.tmp 4])
theorem l5_eq : lowFn Try.prog 5 = some l5 := by kernel_rfl
def l12r0 : List AOper :=
  [.mk (some 2) (.box (.tmp 0)) none [],.mk (some 4) (.mv (.const (.int .i64 0))) none []]
def l12r1 : List AOper :=
  [.mk (some 5) (.fld 0 (.tmp 2)) none [],.mk (some 6) (.load false 1 (.tmp 5)) none [0],.mk (some 7) (.mv (.tmp 1)) none [],.mk (some 8) (.call 48 [.tmp 6,.tmp 7]) none [1,2],.mk (some 1) (.mv (.tmp 8)) none [3,3,0,1,2,3]]
def l12r2 : List AOper :=
  [.mk (some 9) (.mv (.tmp 1)) none [],.mk (some 10) (.bin .lss (.tmp 9) (.const (.int .i64 0))) none [0]]
def l12r3 : List AOper :=
  [.mk (some 4) (.mv (.const (.int .i64 (-1)))) none []]
def l12r4 : List AOper :=
  [.mk (some 11) (.fld 1 (.tmp 2)) none [],.mk (some 12) (.load false 1 (.tmp 11)) none [0],.mk (some 13) (.mv (.tmp 1)) none [],.mk (some 14) (.call 48 [.tmp 12,.tmp 13]) none [1,2],.mk (some 1) (.mv (.tmp 14)) none [3,3,0,1,2,3]]
def l12r5 : List AOper :=
  [.mk (some 15) (.mv (.tmp 1)) none [],.mk (some 16) (.bin .lss (.tmp 15) (.const (.int .i64 0))) none [0]]
def l12r6 : List AOper :=
  [.mk (some 4) (.mv (.const (.int .i64 (-1)))) none []]
def l12r7 : List AOper :=
  [.mk (some 17) (.mv (.tmp 1)) none [],.mk (some 4) (.mv (.tmp 17)) none [0,0]]
def l12 : AFn :=
  (AFn.mk 18 2 (.seq (.reg l12r0) (.seq (.reg l12r1) (.seq (.seq (.reg l12r2) (.cond (.tmp 10) (.seq (.reg l12r3) .ret) .skip)) (.seq (.reg l12r4) (.seq (.seq (.reg l12r5) (.cond (.tmp 16) (.seq (.reg l12r6) .ret) .skip)) (.seq (.reg l12r7) .ret)))))) [.tmp 4])
theorem l12_eq : lowFn Try.prog 12 = some l12 := by kernel_rfl
def l13r0 : List AOper :=
  [.mk (some 1) (.box (.tmp 0)) none [],.mk (some 2) (.mv (.const (.bool false))) none []]
def l13r1 : List AOper :=
  [.mk (some 3) (.load true 2 (.tmp 1)) none [],.mk (some 4) (.call 49 [.tmp 3]) none [0],.mk (some 2) (.mv (.tmp 4)) none [1,1,0,1]]
def l13 : AFn :=
  (AFn.mk 5 1 (.seq (.reg l13r0) (.seq (.reg l13r1) .ret)) [.tmp 2])
theorem l13_eq : lowFn Try.prog 13 = some l13 := by kernel_rfl
def l14r0 : List AOper :=
  [.mk (some 1) (.box (.tmp 0)) none [],.mk (some 2) (.alloc [.slice none 0 0,.slice none 0 0]) none []]
def l14r1 : List AOper :=
  [.mk (some 3) (.alloc [.slice none 0 0,.slice none 0 0]) none []]
def l14r2 : List AOper :=
  [.mk (some 4) (.fld 0 (.tmp 1)) none [],.mk (some 5) (.load false 1 (.tmp 4)) none [0],.mk (some 6) (.call 19 [.tmp 5]) none [1],.mk (some 7) (.fld 0 (.tmp 3)) none [0,1,2],.mk none (.store 1 (.tmp 7) (.tmp 6)) none [3,2,2,0,1,2]]
def l14r3 : List AOper :=
  [.mk (some 8) (.fld 1 (.tmp 1)) none [],.mk (some 9) (.load false 1 (.tmp 8)) none [0],.mk (some 10) (.call 19 [.tmp 9]) none [1],.mk (some 11) (.fld 1 (.tmp 3)) none [0,1,2],.mk none (.store 1 (.tmp 11) (.tmp 10)) none [3,2,2,0,1,2]]
def l14r4 : List AOper :=
  [.mk (some 12) (.load true 2 (.tmp 3)) none [],.mk none (.store 2 (.tmp 2) (.tmp 12)) none [0,0]]
def l14 : AFn :=
  (AFn.mk 13 1 (.seq (.reg l14r0) (.seq (.reg l14r1) (.seq (.reg l14r2) (.seq (.reg l14r3) (.seq (.reg l14r4) .ret))))) [.cell 2 true 2])
theorem l14_eq : lowFn Try.prog 14 = some l14 := by kernel_rfl
def l15r0 : List AOper :=
  [.mk (some 1) (.box (.tmp 0)) none [],.mk (some 2) (.mv (.const (.bool false))) none []]
def l15r1a : List AOper :=
  [.mk (some 5) (.fld 0 (.tmp 1)) none [],.mk (some 6) (.load false 1 (.tmp 5)) none [0],.mk (some 7) (.call 50 [.tmp 6]) none [1],.mk (some 8) (.un .not (.tmp 7)) none [2],.mk (some 9) (.mv (.tmp 8)) none [3,2],.mk (some 10) (.fld 1 (.tmp 1)) (some (9,false)) [4],.mk (some 11) (.load false 1 (.tmp 10)) (some (9,false)) [5,4],.mk (some 12) (.len (.tmp 11)) (some (9,false)) [6,4],.mk (some 13) (.fld 0 (.tmp 1)) (some (9,false)) [4],.mk (some 14) (.load false 1 (.tmp 13)) (some (9,false)) [8,4],.mk (some 15) (.call 51 [.tmp 14]) (some (9,false)) [9,4,4]]
def l15r1b : List AOper :=
  [.mk (some 16) (.bin .neq (.tmp 12) (.tmp 15)) (some (9,false)) [7,10,4],.mk (some 17) (.pick (.tmp 9) (.const (.bool true)) (.tmp 16)) none [4,11]]
def l15r1 : List AOper := l15r1a ++ l15r1b
def l15r2 : List AOper :=
  [.mk (some 2) (.mv (.const (.bool false))) none []]
def l15r3 : List AOper :=
  [.mk (some 18) (.fld 1 (.tmp 1)) none [],.mk (some 19) (.load false 1 (.tmp 18)) none [0],.mk (some 20) (.len (.tmp 19)) none [1],.mk (some 21) (.mv (.const (.int .i64 0))) none []]
def l15r4 : List AOper :=
  [.mk (some 22) (.bin .lss (.tmp 21) (.tmp 20)) none []]
def l15r5 : List AOper :=
  [.mk (some 23) (.idxA 1 (.tmp 19) (.tmp 21)) none [],.mk (some 24) (.load false 1 (.tmp 23)) none [0],.mk (some 4) (.mv (.tmp 24)) none [1,0,1]]
def l15r6 : List AOper :=
  [.mk (some 25) (.mv (.tmp 4)) none [],.mk (some 26) (.call 52 [.tmp 25,.const (.int .i64 1000000)]) none [0],.mk (some 27) (.un .not (.tmp 26)) none [1]]
def l15r7 : List AOper :=
  [.mk (some 2) (.mv (.const (.bool false))) none []]
def l15r8 : List AOper :=
  [.mk (some 28) (.bin .add (.tmp 21) (.const (.int .i64 1))) none [],.mk (some 21) (.mv (.tmp 28)) none [0]]
def l15r9 : List AOper :=
  [.mk (some 2) (.mv (.const (.bool true))) none []]
def l15 : AFn :=
  (AFn.mk 29 1 (.seq (.reg l15r0) (.seq (.seq (.draw l15r1) (.cond (.tmp 17) (.seq (.reg l15r2) .ret) .skip)) (.seq (.seq (.reg l15r3) (.block 0 (.loop (.seq (.reg l15r4) (.seq (.cond (.tmp 22) .skip (.exit 0)) (.seq (.block 1 (.seq (.reg l15r5) (.seq (.reg l15r6) (.cond (.tmp 27) (.seq (.reg l15r7) .ret) .skip)))) (.reg l15r8))))))) (.seq (.reg l15r9) .ret)))) [.tmp 2])
theorem l15_eq : lowFn Try.prog 15 = some l15 := by kernel_rfl
def l16r0 : List AOper :=
  [.mk (some 2) (.box (.tmp 0)) none [],.mk (some 3) (.box (.tmp 1)) none [],.mk (some 4) (.mv (.const (.bool false))) none []]
def l16r1 : List AOper :=
  [.mk (some 5) (.fld 0 (.tmp 2)) none [],.mk (some 6) (.load false 1 (.tmp 5)) none [0],.mk (some 7) (.fld 0 (.tmp 3)) none [],.mk (some 8) (.load false 1 (.tmp 7)) none [2],.mk (some 9) (.call 22 [.tmp 6,.tmp 8]) none [1,3],.mk (some 10) (.un .not (.tmp 9)) none [4]]
def l16r2 : List AOper :=
  [.mk (some 4) (.mv (.const (.bool false))) none []]
def l16r3 : List AOper :=
  [.mk (some 11) (.fld 1 (.tmp 2)) none [],.mk (some 12) (.load false 1 (.tmp 11)) none [0],.mk (some 13) (.fld 1 (.tmp 3)) none [],.mk (some 14) (.load false 1 (.tmp 13)) none [2],.mk (some 15) (.call 22 [.tmp 12,.tmp 14]) none [1,3],.mk (some 16) (.un .not (.tmp 15)) none [4]]
def l16r4 : List AOper :=
  [.mk (some 4) (.mv (.const (.bool false))) none []]
def l16r5 : List AOper :=
  [.mk (some 4) (.mv (.const (.bool true))) none []]
def l16 : AFn :=
  (AFn.mk 17 2 (.seq (.reg l16r0) (.seq (.seq (.reg l16r1) (.cond (.tmp 10) (.seq (.reg l16r2) .ret) .skip)) (.seq (.seq (.reg l16r3) (.cond (.tmp 16) (.seq (.reg l16r4) .ret) .skip)) (.seq (.reg l16r5) .ret)))) [.tmp 4])
theorem l16_eq : lowFn Try.prog 16 = some l16 := by kernel_rfl
def l17r0 : List AOper :=
  [.mk (some 2) (.box (.tmp 0)) none [],.mk (some 4) (.mv (.const (.int .i64 0))) none []]
def l17r1 : List AOper :=
  [.mk (some 5) (.fld 1 (.tmp 2)) none [],.mk (some 6) (.load false 1 (.tmp 5)) none [0],.mk (some 7) (.mv (.tmp 1)) none [],.mk (some 8) (.call 48 [.tmp 6,.tmp 7]) none [1,2],.mk (some 1) (.mv (.tmp 8)) none [3,3,0,1,2,3]]
def l17r2 : List AOper :=
  [.mk (some 9) (.mv (.tmp 1)) none [],.mk (some 10) (.bin .lss (.tmp 9) (.const (.int .i64 0))) none [0]]
def l17r3 : List AOper :=
  [.mk (some 4) (.mv (.const (.int .i64 (-1)))) none []]
def l17r4 : List AOper :=
  [.mk (some 11) (.fld 2 (.tmp 2)) none [],.mk (some 12) (.load false 1 (.tmp 11)) none [0],.mk (some 13) (.mv (.tmp 1)) none [],.mk (some 14) (.call 48 [.tmp 12,.tmp 13]) none [1,2],.mk (some 1) (.mv (.tmp 14)) none [3,3,0,1,2,3]]
def l17r5 : List AOper :=
  [.mk (some 15) (.mv (.tmp 1)) none [],.mk (some 16) (.bin .lss (.tmp 15) (.const (.int .i64 0))) none [0]]
def l17r6 : List AOper :=
  [.mk (some 4) (.mv (.const (.int .i64 (-1)))) none []]
def l17r7 : List AOper :=
  [.mk (some 17) (.mv (.tmp 1)) none [],.mk (some 4) (.mv (.tmp 17)) none [0,0]]
def l17 : AFn :=
  (AFn.mk 18 2 (.seq (.reg l17r0) (.seq (.reg l17r1) (.seq (.seq (.reg l17r2) (.cond (.tmp 10) (.seq (.reg l17r3) .ret) .skip)) (.seq (.reg l17r4) (.seq (.seq (.reg l17r5) (.cond (.tmp 16) (.seq (.reg l17r6) .ret) .skip)) (.seq (.reg l17r7) .ret)))))) [.tmp 4])
theorem l17_eq : lowFn Try.prog 17 = some l17 := by kernel_rfl
def l18r0 : List AOper :=
  [.mk (some 3) (.box (.tmp 1)) none [],.mk (some 4) (.alloc [.slice none 0 0,.slice none 0 0]) none [],.mk (some 5) (.mv (.const (.bool false))) none []]
def l18r1 : List AOper :=
  [.mk (some 6) (.mv (.tmp 0)) none [],.mk (some 7) (.load true 3 (.tmp 3)) none [],.mk (some 8) (.call 53 [.tmp 6,.tmp 7]) none [0,1],.mk (some 9) (.un .not (.tmp 8)) none [2]]
def l18r2 : List AOper :=
  [.mk (some 10) (.build [.slice none 0 0,.slice none 0 0] []) none [],.mk none (.store 2 (.tmp 4) (.tmp 10)) none [0,0],.mk (some 5) (.mv (.const (.bool false))) none [1,0,1]]
def l18r3a : List AOper :=
  [.mk (some 11) (.fld 1 (.tmp 3)) none [],.mk (some 12) (.load false 1 (.tmp 11)) none [0],.mk (some 13) (.call 54 [.tmp 12]) none [1],.mk (some 14) (.mv (.tmp 0)) none [],.mk (some 15) (.load true 3 (.tmp 3)) none []]
def l18r3b : List AOper :=
  [.mk (some 16) (.call 55 [.tmp 14,.tmp 15]) none [3,4,2],.mk (some 17) (.build [.slice none 0 0,.slice none 0 0] [(0,1,.tmp 13),(1,1,.tmp 16)]) none [2,5],.mk none (.store 2 (.tmp 4) (.tmp 17)) none [6,5,0,1,2,3,4,5,6],.mk (some 5) (.mv (.const (.bool true))) none [7,0,1,2,3,4,5,6,7]]
def l18r3 : List AOper := l18r3a ++ l18r3b
def l18 : AFn :=
  (AFn.mk 18 2 (.seq (.reg l18r0) (.seq (.seq (.reg l18r1) (.cond (.tmp 9) (.seq (.reg l18r2) .ret) .skip)) (.seq (.draw l18r3) .ret))) [.cell 4 true 2,.tmp 5])
theorem l18_eq : lowFn Try.prog 18 = some l18 := by kernel_rfl
def l19r0 : List AOper :=
  [.mk (some 2) (.mv (.const (.slice none 0 0))) none []]
def l19r1 : List AOper :=
  [.mk (some 5) (.mv (.tmp 0)) none [],.mk (some 6) (.len (.tmp 5)) none [0],.mk (some 7) (.mkslice 1 [.int .i64 0] (.tmp 6) (.tmp 6)) none [1,1],.mk (some 3) (.mv (.tmp 7)) none [2,0,1,2]]
def l19r2 : List AOper :=
  [.mk (some 4) (.mv (.const (.int .i64 0))) none []]
def l19r3 : List AOper :=
  [.mk (some 8) (.mv (.tmp 4)) none [],.mk (some 9) (.mv (.tmp 0)) none [],.mk (some 10) (.len (.tmp 9)) none [1],.mk (some 11) (.bin .lss (.tmp 8) (.tmp 10)) none [0,2]]
def l19r4 : List AOper :=
  [.mk (some 14) (.mv (.tmp 3)) none [],.mk (some 15) (.mv (.tmp 4)) none [],.mk (some 16) (.mv (.tmp 0)) none [],.mk (some 17) (.mv (.tmp 4)) none [],.mk (some 18) (.idxA 1 (.tmp 16) (.tmp 17)) none [2,3],.mk (some 19) (.load false 1 (.tmp 18)) none [4],.mk (some 20) (.idxA 1 (.tmp 14) (.tmp 15)) none [0,1,0,1,2,3,4,5],.mk none (.store 1 (.tmp 20) (.tmp 19)) none [6,5,0,1,2,3,4,5]]
def l19r5 : List AOper :=
  [.mk (some 12) (.mv (.tmp 4)) none [],.mk (some 13) (.bin .add (.tmp 12) (.const (.int .i64 1))) none [0],.mk (some 4) (.mv (.tmp 13)) none [1,0,1]]
def l19r6 : List AOper :=
  [.mk (some 21) (.mv (.tmp 3)) none [],.mk (some 2) (.mv (.tmp 21)) none [0,0]]
def l19 : AFn :=
  (AFn.mk 22 1 (.seq (.reg l19r0) (.seq (.reg l19r1) (.seq (.seq (.reg l19r2) (.block 0 (.loop (.seq (.seq (.reg l19r3) (.cond (.tmp 11) .skip (.exit 0))) (.seq (.block 1 (.reg l19r4)) (.reg l19r5)))))) (.seq (.reg l19r6) .ret)))) [.tmp 2])
theorem l19_eq : lowFn Try.prog 19 = some l19 := by kernel_rfl
def l20r0 : List AOper :=
  [.mk (some 1) (.box (.tmp 0)) none [],.mk (some 2) (.alloc [.int .i64 0,.slice none 0 0,.slice none 0 0]) none []]
def l20r1 : List AOper :=
  [.mk (some 3) (.alloc [.int .i64 0,.slice none 0 0,.slice none 0 0]) none []]
def l20r2 : List AOper :=
  [.mk (some 4) (.fld 0 (.tmp 1)) none [],.mk (some 5) (.load false 1 (.tmp 4)) none [0],.mk (some 6) (.fld 0 (.tmp 3)) none [0,1],.mk none (.store 1 (.tmp 6) (.tmp 5)) none [2,1,0,1]]
def l20r3 : List AOper :=
  [.mk (some 7) (.fld 1 (.tmp 1)) none [],.mk (some 8) (.load false 1 (.tmp 7)) none [0],.mk (some 9) (.call 19 [.tmp 8]) none [1],.mk (some 10) (.fld 1 (.tmp 3)) none [0,1,2],.mk none (.store 1 (.tmp 10) (.tmp 9)) none [3,2,2,0,1,2]]
def l20r4 : List AOper :=
  [.mk (some 11) (.fld 2 (.tmp 1)) none [],.mk (some 12) (.load false 1 (.tmp 11)) none [0],.mk (some 13) (.call 19 [.tmp 12]) none [1],.mk (some 14) (.fld 2 (.tmp 3)) none [0,1,2],.mk none (.store 1 (.tmp 14) (.tmp 13)) none [3,2,2,0,1,2]]
def l20r5 : List AOper :=
  [.mk (some 15) (.load true 3 (.tmp 3)) none [],.mk none (.store 3 (.tmp 2) (.tmp 15)) none [0,0]]
def l20 : AFn :=
  (AFn.mk 16 1 (.seq (.reg l20r0) (.seq (.reg l20r1) (.seq (.reg l20r2) (.seq (.reg l20r3) (.seq (.reg l20r4) (.seq (.reg l20r5) .ret)))))) [.cell 2 true 3])
theorem l20_eq : lowFn Try.prog 20 = some l20 := by kernel_rfl
def l21r0 : List AOper :=
  [.mk (some 3) (.box (.tmp 1)) none [],.mk (some 4) (.alloc [.slice none 0 0,.slice none 0 0]) none [],.mk (some 5) (.mv (.const (.bool false))) none []]
def l21r1 : List AOper :=
  [.mk (some 6) (.mv (.tmp 0)) none [],.mk (some 7) (.load true 3 (.tmp 3)) none [],.mk (some 8) (.call 56 [.tmp 6,.tmp 7]) none [0,1],.mk (some 9) (.un .not (.tmp 8)) none [2]]
def l21r2 : List AOper :=
  [.mk (some 10) (.build [.slice none 0 0,.slice none 0 0] []) none [],.mk none (.store 2 (.tmp 4) (.tmp 10)) none [0,0],.mk (some 5) (.mv (.const (.bool false))) none [1,0,1]]
def l21r3a : List AOper :=
  [.mk (some 11) (.fld 1 (.tmp 3)) none [],.mk (some 12) (.load false 1 (.tmp 11)) none [0],.mk (some 13) (.call 57 [.tmp 12]) none [1],.mk (some 14) (.mv (.tmp 0)) none [],.mk (some 15) (.load true 3 (.tmp 3)) none []]
def l21r3b : List AOper :=
  [.mk (some 16) (.call 58 [.tmp 14,.tmp 15]) none [3,4,2],.mk (some 17) (.build [.slice none 0 0,.slice none 0 0] [(0,1,.tmp 13),(1,1,.tmp 16)]) none [2,5],.mk none (.store 2 (.tmp 4) (.tmp 17)) none [6,5,0,1,2,3,4,5,6],.mk (some 5) (.mv (.const (.bool true))) none [7,0,1,2,3,4,5,6,7]]
def l21r3 : List AOper := l21r3a ++ l21r3b
def l21 : AFn :=
  (AFn.mk 18 2 (.seq (.reg l21r0) (.seq (.seq (.reg l21r1) (.cond (.tmp 9) (.seq (.reg l21r2) .ret) .skip)) (.seq (.draw l21r3) .ret))) [.cell 4 true 2,.tmp 5])
theorem l21_eq : lowFn Try.prog 21 = some l21 := by kernel_rfl
def l22r0 : List AOper :=
  [.mk (some 4) (.mv (.const (.bool false))) none []]
def l22r1 : List AOper :=
  [.mk (some 6) (.mv (.tmp 0)) none [],.mk (some 7) (.len (.tmp 6)) none [0],.mk (some 8) (.mv (.tmp 1)) none [],.mk (some 9) (.len (.tmp 8)) none [2],.mk (some 10) (.bin .neq (.tmp 7) (.tmp 9)) none [1,3]]
def l22r2 : List AOper :=
  [.mk (some 4) (.mv (.const (.bool false))) none []]
def l22r3 : List AOper :=
  [.mk (some 5) (.mv (.const (.int .i64 0))) none []]
def l22r4 : List AOper :=
  [.mk (some 11) (.mv (.tmp 5)) none [],.mk (some 12) (.mv (.tmp 0)) none [],.mk (some 13) (.len (.tmp 12)) none [1],.mk (some 14) (.bin .lss (.tmp 11) (.tmp 13)) none [0,2]]
def l22r5a : List AOper :=
  [.mk (some 17) (.mv (.tmp 0)) none [],.mk (some 18) (.mv (.tmp 5)) none [],.mk (some 19) (.idxA 1 (.tmp 17) (.tmp 18)) none [0,1],.mk (some 20) (.load false 1 (.tmp 19)) none [2],.mk (some 21) (.mv (.tmp 1)) none [],.mk (some 22) (.mv (.tmp 5)) none [],.mk (some 23) (.idxA 1 (.tmp 21) (.tmp 22)) none [4,5],.mk (some 24) (.load false 1 (.tmp 23)) none [6]]
def l22r5b : List AOper :=
  [.mk (some 25) (.bin .neq (.tmp 20) (.tmp 24)) none [3,7]]
def l22r5 : List AOper := l22r5a ++ l22r5b
def l22r6 : List AOper :=
  [.mk (some 4) (.mv (.const (.bool false))) none []]
def l22r7 : List AOper :=
  [.mk (some 15) (.mv (.tmp 5)) none [],.mk (some 16) (.bin .add (.tmp 15) (.const (.int .i64 1))) none [0],.mk (some 5) (.mv (.tmp 16)) none [1,0,1]]
def l22r8 : List AOper :=
  [.mk (some 4) (.mv (.const (.bool true))) none []]
def l22 : AFn :=
  (AFn.mk 26 2 (.seq (.reg l22r0) (.seq (.seq (.reg l22r1) (.cond (.tmp 10) (.seq (.reg l22r2) .ret) .skip)) (.seq (.seq (.reg l22r3) (.block 0 (.loop (.seq (.seq (.reg l22r4) (.cond (.tmp 14) .skip (.exit 0))) (.seq (.block 1 (.seq (.draw l22r5) (.cond (.tmp 25) (.seq (.reg l22r6) .ret) .skip))) (.reg l22r7)))))) (.seq (.reg l22r8) .ret)))) [.tmp 4])
theorem l22_eq : lowFn Try.prog 22 = some l22 := by kernel_rfl
def l23r0 : List AOper :=
  [.mk (some 2) (.box (.tmp 0)) none [],.mk (some 3) (.box (.tmp 1)) none [],.mk (some 4) (.mv (.const (.bool false))) none []]
def l23r1 : List AOper :=
  [.mk (some 5) (.fld 0 (.tmp 2)) none [],.mk (some 6) (.load false 1 (.tmp 5)) none [0],.mk (some 7) (.fld 0 (.tmp 3)) none [],.mk (some 8) (.load false 1 (.tmp 7)) none [2],.mk (some 9) (.bin .neq (.tmp 6) (.tmp 8)) none [1,3]]
def l23r2 : List AOper :=
  [.mk (some 4) (.mv (.const (.bool false))) none []]
def l23r3 : List AOper :=
  [.mk (some 10) (.fld 1 (.tmp 2)) none [],.mk (some 11) (.load false 1 (.tmp 10)) none [0],.mk (some 12) (.fld 1 (.tmp 3)) none [],.mk (some 13) (.load false 1 (.tmp 12)) none [2],.mk (some 14) (.call 22 [.tmp 11,.tmp 13]) none [1,3],.mk (some 15) (.un .not (.tmp 14)) none [4]]
def l23r4 : List AOper :=
  [.mk (some 4) (.mv (.const (.bool false))) none []]
def l23r5 : List AOper :=
  [.mk (some 16) (.fld 2 (.tmp 2)) none [],.mk (some 17) (.load false 1 (.tmp 16)) none [0],.mk (some 18) (.fld 2 (.tmp 3)) none [],.mk (some 19) (.load false 1 (.tmp 18)) none [2],.mk (some 20) (.call 22 [.tmp 17,.tmp 19]) none [1,3],.mk (some 21) (.un .not (.tmp 20)) none [4]]
def l23r6 : List AOper :=
  [.mk (some 4) (.mv (.const (.bool false))) none []]
def l23r7 : List AOper :=
  [.mk (some 4) (.mv (.const (.bool true))) none []]
def l23 : AFn :=
  (AFn.mk 22 2 (.seq (.reg l23r0) (.seq (.seq (.reg l23r1) (.cond (.tmp 9) (.seq (.reg l23r2) .ret) .skip)) (.seq (.seq (.reg l23r3) (.cond (.tmp 15) (.seq (.reg l23r4) .ret) .skip)) (.seq (.seq (.reg l23r5) (.cond (.tmp 21) (.seq (.reg l23r6) .ret) .skip)) (.seq (.reg l23r7) .ret))))) [.tmp 4])
theorem l23_eq : lowFn Try.prog 23 = some l23 := by kernel_rfl
def l24r0 : List AOper :=
  [.mk (some 4) (.mv (.const (.int .i64 0))) none []]
def l24r1 : List AOper :=
  [.mk (some 5) (.mv (.const (.int .i64 0))) none []]
def l24r2 : List AOper :=
  [.mk (some 6) (.mv (.tmp 5)) none [],.mk (some 7) (.mv (.tmp 0)) none [],.mk (some 8) (.len (.tmp 7)) none [1],.mk (some 9) (.bin .lss (.tmp 6) (.tmp 8)) none [0,2]]
def l24r3 : List AOper :=
  [.mk (some 12) (.mv (.tmp 0)) none [],.mk (some 13) (.mv (.tmp 5)) none [],.mk (some 14) (.mv (.tmp 1)) none [],.mk (some 15) (.idxA 1 (.tmp 12) (.tmp 13)) none [0,1,0,1,2],.mk none (.store 1 (.tmp 15) (.tmp 14)) none [3,2,0,1,2]]
def l24r4 : List AOper :=
  [.mk (some 16) (.mv (.tmp 1)) none [],.mk (some 17) (.bin .add (.tmp 16) (.const (.int .i64 1))) none [0],.mk (some 1) (.mv (.tmp 17)) none [1,0,1]]
def l24r5 : List AOper :=
  [.mk (some 10) (.mv (.tmp 5)) none [],.mk (some 11) (.bin .add (.tmp 10) (.const (.int .i64 1))) none [0],.mk (some 5) (.mv (.tmp 11)) none [1,0,1]]
def l24r6 : List AOper :=
  [.mk (some 18) (.mv (.tmp 1)) none [],.mk (some 4) (.mv (.tmp 18)) none [0,0]]
def l24 : AFn :=
  (AFn.mk 19 2 (.seq (.reg l24r0) (.seq (.seq (.reg l24r1) (.block 0 (.loop (.seq (.seq (.reg l24r2) (.cond (.tmp 9) .skip (.exit 0))) (.seq (.block 1 (.seq (.reg l24r3) (.reg l24r4))) (.reg l24r5)))))) (.seq (.reg l24r6) .ret))) [.tmp 4])
theorem l24_eq : lowFn Try.prog 24 = some l24 := by kernel_rfl
def l25r0 : List AOper :=
  [.mk (some 2) (.box (.tmp 0)) none [],.mk (some 4) (.mv (.const (.int .i64 0))) none []]
def l25r1 : List AOper :=
  [.mk (some 5) (.fld 1 (.tmp 2)) none [],.mk (some 6) (.load false 1 (.tmp 5)) none [0],.mk (some 7) (.mv (.tmp 1)) none [],.mk (some 8) (.call 24 [.tmp 6,.tmp 7]) none [1,2],.mk (some 1) (.mv (.tmp 8)) none [3,3,0,1,2,3]]
def l25r2 : List AOper :=
  [.mk (some 9) (.fld 2 (.tmp 2)) none [],.mk (some 10) (.load false 1 (.tmp 9)) none [0],.mk (some 11) (.mv (.tmp 1)) none [],.mk (some 12) (.call 24 [.tmp 10,.tmp 11]) none [1,2],.mk (some 1) (.mv (.tmp 12)) none [3,3,0,1,2,3]]
def l25r3 : List AOper :=
  [.mk (some 13) (.mv (.tmp 1)) none [],.mk (some 4) (.mv (.tmp 13)) none [0,0]]
def l25 : AFn :=
  (AFn.mk 14 2 (.seq (.reg l25r0) (.seq (.reg l25r1) (.seq (.reg l25r2) (.seq (.reg l25r3) .ret)))) [.tmp 4])
theorem l25_eq : lowFn Try.prog 25 = some l25 := by kernel_rfl
def l26r0 : List AOper :=
  [.mk (some 2) (.box (.tmp 0)) none [],.mk (some 4) (.mv (.const (.int .i64 0))) none []]
def l26r1 : List AOper :=
  [.mk (some 5) (.fld 0 (.tmp 2)) none [],.mk (some 6) (.load false 1 (.tmp 5)) none [0],.mk (some 7) (.mv (.tmp 1)) none [],.mk (some 8) (.call 24 [.tmp 6,.tmp 7]) none [1,2],.mk (some 1) (.mv (.tmp 8)) none [3,3,0,1,2,3]]
def l26r2 : List AOper :=
  [.mk (some 9) (.fld 1 (.tmp 2)) none [],.mk (some 10) (.load false 1 (.tmp 9)) none [0],.mk (some 11) (.mv (.tmp 1)) none [],.mk (some 12) (.call 24 [.tmp 10,.tmp 11]) none [1,2],.mk (some 1) (.mv (.tmp 12)) none [3,3,0,1,2,3]]
def l26r3 : List AOper :=
  [.mk (some 13) (.mv (.tmp 1)) none [],.mk (some 4) (.mv (.tmp 13)) none [0,0]]
def l26 : AFn :=
  (AFn.mk 14 2 (.seq (.reg l26r0) (.seq (.reg l26r1) (.seq (.reg l26r2) (.seq (.reg l26r3) .ret)))) [.tmp 4])
theorem l26_eq : lowFn Try.prog 26 = some l26 := by kernel_rfl
def l27r0 : List AOper :=
  [.mk (some 2) (.box (.tmp 0)) none [],.mk (some 4) (.mv (.const (.int .i64 0))) none []]
def l27r1 : List AOper :=
  [.mk (some 5) (.fld 0 (.tmp 2)) none [],.mk (some 6) (.load false 1 (.tmp 5)) none [0],.mk (some 7) (.mv (.tmp 1)) none [],.mk (some 8) (.call 59 [.tmp 6,.tmp 7]) none [1,2],.mk (some 1) (.mv (.tmp 8)) none [3,3,0,1,2,3]]
def l27r2 : List AOper :=
  [.mk (some 9) (.mv (.tmp 1)) none [],.mk (some 10) (.bin .lss (.tmp 9) (.const (.int .i64 0))) none [0]]
def l27r3 : List AOper :=
  [.mk (some 4) (.mv (.const (.int .i64 (-1)))) none []]
def l27r4 : List AOper :=
  [.mk (some 11) (.fld 1 (.tmp 2)) none [],.mk (some 12) (.load false 1 (.tmp 11)) none [0],.mk (some 13) (.mv (.tmp 1)) none [],.mk (some 14) (.call 59 [.tmp 12,.tmp 13]) none [1,2],.mk (some 1) (.mv (.tmp 14)) none [3,3,0,1,2,3]]
def l27r5 : List AOper :=
  [.mk (some 15) (.mv (.tmp 1)) none [],.mk (some 16) (.bin .lss (.tmp 15) (.const (.int .i64 0))) none [0]]
def l27r6 : List AOper :=
  [.mk (some 4) (.mv (.const (.int .i64 (-1)))) none []]
def l27r7 : List AOper :=
  [.mk (some 17) (.mv (.tmp 1)) none [],.mk (some 4) (.mv (.tmp 17)) none [0,0]]
def l27 : AFn :=
  (AFn.mk 18 2 (.seq (.reg l27r0) (.seq (.reg l27r1) (.seq (.seq (.reg l27r2) (.cond (.tmp 10) (.seq (.reg l27r3) .ret) .skip)) (.seq (.reg l27r4) (.seq (.seq (.reg l27r5) (.cond (.tmp 16) (.seq (.reg l27r6) .ret) .skip)) (.seq (.reg l27r7) .ret)))))) [.tmp 4])
theorem l27_eq : lowFn Try.prog 27 = some l27 := by kernel_rfl
def l28r0 : List AOper :=
  [.mk (some 4) (.mv (.const (.int .i64 0))) none []]
def l28r1 : List AOper :=
  [.mk (some 6) (.mv (.tmp 1)) none [],.mk (some 7) (.mv (.tmp 0)) none [],.mk (some 8) (.len (.tmp 7)) none [1],.mk (some 9) (.bin .sub (.tmp 6) (.tmp 8)) none [0,2],.mk (some 1) (.mv (.tmp 9)) none [3,0,1,2,3]]
def l28r2 : List AOper :=
  [.mk (some 10) (.mv (.tmp 1)) none [],.mk (some 11) (.bin .lss (.tmp 10) (.const (.int .i64 0))) none [0]]
def l28r3 : List AOper :=
  [.mk (some 4) (.mv (.const (.int .i64 (-1)))) none []]
def l28r4 : List AOper :=
  [.mk (some 5) (.mv (.const (.int .i64 0))) none []]
def l28r5 : List AOper :=
  [.mk (some 12) (.mv (.tmp 5)) none [],.mk (some 13) (.mv (.tmp 0)) none [],.mk (some 14) (.len (.tmp 13)) none [1],.mk (some 15) (.bin .lss (.tmp 12) (.tmp 14)) none [0,2]]
def l28r6 : List AOper :=
  [.mk (some 18) (.mv (.tmp 0)) none [],.mk (some 19) (.mv (.tmp 5)) none [],.mk (some 20) (.idxA 2 (.tmp 18) (.tmp 19)) none [0,1],.mk (some 21) (.load true 2 (.tmp 20)) none [2],.mk (some 22) (.mv (.tmp 1)) none [],.mk (some 23) (.call 12 [.tmp 21,.tmp 22]) none [3,4],.mk (some 1) (.mv (.tmp 23)) none [5,5,0,1,2,3,4,5]]
def l28r7 : List AOper :=
  [.mk (some 24) (.mv (.tmp 1)) none [],.mk (some 25) (.bin .lss (.tmp 24) (.const (.int .i64 0))) none [0]]
def l28r8 : List AOper :=
  [.mk (some 4) (.mv (.const (.int .i64 (-1)))) none []]
def l28r9 : List AOper :=
  [.mk (some 16) (.mv (.tmp 5)) none [],.mk (some 17) (.bin .add (.tmp 16) (.const (.int .i64 1))) none [0],.mk (some 5) (.mv (.tmp 17)) none [1,0,1]]
def l28r10 : List AOper :=
  [.mk (some 26) (.mv (.tmp 1)) none [],.mk (some 4) (.mv (.tmp 26)) none [0,0]]
def l28 : AFn :=
  (AFn.mk 27 2 (.seq (.reg l28r0) (.seq (.reg l28r1) (.seq (.seq (.reg l28r2) (.cond (.tmp 11) (.seq (.reg l28r3) .ret) .skip)) (.seq (.seq (.reg l28r4) (.block 0 (.loop (.seq (.seq (.reg l28r5) (.cond (.tmp 15) .skip (.exit 0))) (.seq (.block 1 (.seq (.reg l28r6) (.seq (.reg l28r7) (.cond (.tmp 25) (.seq (.reg l28r8) .ret) .skip)))) (.reg l28r9)))))) (.seq (.reg l28r10) .ret))))) [.tmp 4])
theorem l28_eq : lowFn Try.prog 28 = some l28 := by kernel_rfl
def l29r0 : List AOper :=
  [.mk (some 4) (.mv (.const (.int .i64 0))) none []]
def l29r1 : List AOper :=
  [.mk (some 6) (.mv (.tmp 1)) none [],.mk (some 7) (.mv (.tmp 0)) none [],.mk (some 8) (.len (.tmp 7)) none [1],.mk (some 9) (.bin .sub (.tmp 6) (.tmp 8)) none [0,2],.mk (some 1) (.mv (.tmp 9)) none [3,0,1,2,3]]
def l29r2 : List AOper :=
  [.mk (some 10) (.mv (.tmp 1)) none [],.mk (some 11) (.bin .lss (.tmp 10) (.const (.int .i64 0))) none [0]]
def l29r3 : List AOper :=
  [.mk (some 4) (.mv (.const (.int .i64 (-1)))) none []]
def l29r4 : List AOper :=
  [.mk (some 5) (.mv (.const (.int .i64 0))) none []]
def l29r5 : List AOper :=
  [.mk (some 12) (.mv (.tmp 5)) none [],.mk (some 13) (.mv (.tmp 0)) none [],.mk (some 14) (.len (.tmp 13)) none [1],.mk (some 15) (.bin .lss (.tmp 12) (.tmp 14)) none [0,2]]
def l29r6 : List AOper :=
  [.mk (some 18) (.mv (.tmp 0)) none [],.mk (some 19) (.mv (.tmp 5)) none [],.mk (some 20) (.idxA 1 (.tmp 18) (.tmp 19)) none [0,1],.mk (some 21) (.load false 1 (.tmp 20)) none [2],.mk (some 22) (.mv (.tmp 1)) none [],.mk (some 23) (.call 48 [.tmp 21,.tmp 22]) none [3,4],.mk (some 1) (.mv (.tmp 23)) none [5,5,0,1,2,3,4,5]]
def l29r7 : List AOper :=
  [.mk (some 24) (.mv (.tmp 1)) none [],.mk (some 25) (.bin .lss (.tmp 24) (.const (.int .i64 0))) none [0]]
def l29r8 : List AOper :=
  [.mk (some 4) (.mv (.const (.int .i64 (-1)))) none []]
def l29r9 : List AOper :=
  [.mk (some 16) (.mv (.tmp 5)) none [],.mk (some 17) (.bin .add (.tmp 16) (.const (.int .i64 1))) none [0],.mk (some 5) (.mv (.tmp 17)) none [1,0,1]]
def l29r10 : List AOper :=
  [.mk (some 26) (.mv (.tmp 1)) none [],.mk (some 4) (.mv (.tmp 26)) none [0,0]]
def l29 : AFn :=
  (AFn.mk 27 2 (.seq (.reg l29r0) (.seq (.reg l29r1) (.seq (.seq (.reg l29r2) (.cond (.tmp 11) (.seq (.reg l29r3) .ret) .skip)) (.seq (.seq (.reg l29r4) (.block 0 (.loop (.seq (.seq (.reg l29r5) (.cond (.tmp 15) .skip (.exit 0))) (.seq (.block 1 (.seq (.reg l29r6) (.seq (.reg l29r7) (.cond (.tmp 25) (.seq (.reg l29r8) .ret) .skip)))) (.reg l29r9)))))) (.seq (.reg l29r10) .ret))))) [.tmp 4])
theorem l29_eq : lowFn Try.prog 29 = some l29 := by kernel_rfl
def l30r0 : List AOper :=
  [.mk (some 4) (.mv (.const (.int .i64 0))) none []]
def l30r1 : List AOper :=
  [.mk (some 10) (.mv (.tmp 0)) none [],.mk (some 11) (.mv (.tmp 1)) none [],.mk (some 12) (.call 60 [.tmp 10,.tmp 11]) none [0,1],.mk (some 9) (.mv (.tmp 12)) none [2],.mk (some 13) (.extract (.tmp 9) 0) none [3],.mk (some 14) (.extract (.tmp 9) 1) none [3],.mk (some 5) (.mv (.tmp 13)) none [4,2,0,1,2,3,4],.mk (some 6) (.mv (.tmp 14)) none [5,6,0,1,2,3,4,5,6]]
def l30r2 : List AOper :=
  [.mk (some 15) (.mv (.tmp 6)) none [],.mk (some 16) (.un .not (.tmp 15)) none [0]]
def l30r3 : List AOper :=
  [.mk (some 4) (.mv (.const (.int .i64 (-1)))) none []]
def l30r4 : List AOper :=
  [.mk (some 18) (.mv (.tmp 5)) none [],.mk (some 19) (.call 61 [.tmp 18]) none [0],.mk (some 17) (.mv (.tmp 19)) none [1],.mk (some 20) (.extract (.tmp 17) 0) none [2],.mk (some 21) (.extract (.tmp 17) 1) none [2],.mk (some 7) (.mv (.tmp 20)) none [3,1,0,1,2,3],.mk (some 8) (.mv (.tmp 21)) none [4,5,0,1,2,3,4,5]]
def l30r5 : List AOper :=
  [.mk (some 22) (.mv (.tmp 8)) none [],.mk (some 4) (.mv (.tmp 22)) none [0,0]]
def l30 : AFn :=
  (AFn.mk 23 2 (.seq (.reg l30r0) (.seq (.reg l30r1) (.seq (.seq (.reg l30r2) (.cond (.tmp 16) (.seq (.reg l30r3) .ret) .skip)) (.seq (.reg l30r4) (.seq (.reg l30r5) .ret))))) [.tmp 4])
theorem l30_eq : lowFn Try.prog 30 = some l30 := by kernel_rfl
def l31r0 : List AOper :=
  [.mk (some 2) (.mv (.const (.slice none 0 0))) none []]
def l31r1 : List AOper :=
  [.mk (some 5) (.mv (.tmp 0)) none [],.mk (some 6) (.len (.tmp 5)) none [0],.mk (some 7) (.mkslice 2 [.slice none 0 0,.slice none 0 0] (.tmp 6) (.tmp 6)) none [1,1],.mk (some 3) (.mv (.tmp 7)) none [2,0,1,2]]
def l31r2 : List AOper :=
  [.mk (some 4) (.mv (.const (.int .i64 0))) none []]
def l31r3 : List AOper :=
  [.mk (some 8) (.mv (.tmp 4)) none [],.mk (some 9) (.mv (.tmp 0)) none [],.mk (some 10) (.len (.tmp 9)) none [1],.mk (some 11) (.bin .lss (.tmp 8) (.tmp 10)) none [0,2]]
def l31r4 : List AOper :=
  [.mk (some 14) (.mv (.tmp 3)) none [],.mk (some 15) (.mv (.tmp 4)) none [],.mk (some 16) (.mv (.tmp 0)) none [],.mk (some 17) (.mv (.tmp 4)) none [],.mk (some 18) (.idxA 2 (.tmp 16) (.tmp 17)) none [2,3],.mk (some 19) (.load true 2 (.tmp 18)) none [4],.mk (some 20) (.call 14 [.tmp 19]) none [5],.mk (some 21) (.idxA 2 (.tmp 14) (.tmp 15)) none [0,1,0,1,2,3,4,5,6],.mk none (.store 2 (.tmp 21) (.tmp 20)) none [7,6,6,0,1,2,3,4,5,6]]
def l31r5 : List AOper :=
  [.mk (some 12) (.mv (.tmp 4)) none [],.mk (some 13) (.bin .add (.tmp 12) (.const (.int .i64 1))) none [0],.mk (some 4) (.mv (.tmp 13)) none [1,0,1]]
def l31r6 : List AOper :=
  [.mk (some 22) (.mv (.tmp 3)) none [],.mk (some 2) (.mv (.tmp 22)) none [0,0]]
def l31 : AFn :=
  (AFn.mk 23 1 (.seq (.reg l31r0) (.seq (.reg l31r1) (.seq (.seq (.reg l31r2) (.block 0 (.loop (.seq (.seq (.reg l31r3) (.cond (.tmp 11) .skip (.exit 0))) (.seq (.block 1 (.reg l31r4)) (.reg l31r5)))))) (.seq (.reg l31r6) .ret)))) [.tmp 2])
theorem l31_eq : lowFn Try.prog 31 = some l31 := by kernel_rfl
def l32r0 : List AOper :=
  [.mk (some 2) (.mv (.const (.slice none 0 0))) none []]
def l32r1 : List AOper :=
  [.mk (some 5) (.mv (.tmp 0)) none [],.mk (some 6) (.len (.tmp 5)) none [0],.mk (some 7) (.mkslice 1 [.slice none 0 0] (.tmp 6) (.tmp 6)) none [1,1],.mk (some 3) (.mv (.tmp 7)) none [2,0,1,2]]
def l32r2 : List AOper :=
  [.mk (some 4) (.mv (.const (.int .i64 0))) none []]
def l32r3 : List AOper :=
  [.mk (some 8) (.mv (.tmp 4)) none [],.mk (some 9) (.mv (.tmp 0)) none [],.mk (some 10) (.len (.tmp 9)) none [1],.mk (some 11) (.bin .lss (.tmp 8) (.tmp 10)) none [0,2]]
def l32r4 : List AOper :=
  [.mk (some 14) (.mv (.tmp 3)) none [],.mk (some 15) (.mv (.tmp 4)) none [],.mk (some 16) (.mv (.tmp 0)) none [],.mk (some 17) (.mv (.tmp 4)) none [],.mk (some 18) (.idxA 1 (.tmp 16) (.tmp 17)) none [2,3],.mk (some 19) (.load false 1 (.tmp 18)) none [4],.mk (some 20) (.call 19 [.tmp 19]) none [5],.mk (some 21) (.idxA 1 (.tmp 14) (.tmp 15)) none [0,1,0,1,2,3,4,5,6],.mk none (.store 1 (.tmp 21) (.tmp 20)) none [7,6,6,0,1,2,3,4,5,6]]
def l32r5 : List AOper :=
  [.mk (some 12) (.mv (.tmp 4)) none [],.mk (some 13) (.bin .add (.tmp 12) (.const (.int .i64 1))) none [0],.mk (some 4) (.mv (.tmp 13)) none [1,0,1]]
def l32r6 : List AOper :=
  [.mk (some 22) (.mv (.tmp 3)) none [],.mk (some 2) (.mv (.tmp 22)) none [0,0]]
def l32 : AFn :=
  (AFn.mk 23 1 (.seq (.reg l32r0) (.seq (.reg l32r1) (.seq (.seq (.reg l32r2) (.block 0 (.loop (.seq (.seq (.reg l32r3) (.cond (.tmp 11) .skip (.exit 0))) (.seq (.block 1 (.reg l32r4)) (.reg l32r5)))))) (.seq (.reg l32r6) .ret)))) [.tmp 2])
theorem l32_eq : lowFn Try.prog 32 = some l32 := by kernel_rfl
def l33r0 : List AOper :=
  [.mk (some 4) (.mv (.const (.int .i64 0))) none []]
def l33r1 : List AOper :=
  [.mk (some 8) (.mv (.tmp 0)) none [],.mk (some 9) (.mv (.tmp 1)) none [],.mk (some 10) (.call 62 [.tmp 8,.tmp 9,.const (.slice none 0 0)]) none [0,1],.mk (some 7) (.mv (.tmp 10)) none [2],.mk (some 11) (.extract (.tmp 7) 0) none [3],.mk (some 12) (.extract (.tmp 7) 1) none [3],.mk (some 5) (.alloc [.int .i64 0,.int .i64 0,.int .i64 0,.int .i64 0,.int .i64 0]) none [],.mk none (.store 5 (.tmp 5) (.tmp 11)) none [6,4,2,0,1,2,3,4,6],.mk (some 6) (.mv (.tmp 12)) none [5,7,0,1,2,3,4,5,6,7]]
def l33r2 : List AOper :=
  [.mk (some 13) (.mv (.tmp 6)) none [],.mk (some 14) (.un .not (.tmp 13)) none [0]]
def l33r3 : List AOper :=
  [.mk (some 4) (.mv (.const (.int .i64 (-1)))) none []]
def l33r4 : List AOper :=
  [.mk (some 15) (.load true 5 (.tmp 5)) none [],.mk (some 16) (.mv (.tmp 1)) none [],.mk (some 17) (.call 63 [.tmp 15,.tmp 16]) none [0,1],.mk (some 4) (.mv (.tmp 17)) none [2,2,0,1,2]]
def l33 : AFn :=
  (AFn.mk 18 2 (.seq (.reg l33r0) (.seq (.reg l33r1) (.seq (.seq (.reg l33r2) (.cond (.tmp 14) (.seq (.reg l33r3) .ret) .skip)) (.seq (.reg l33r4) .ret)))) [.tmp 4])
theorem l33_eq : lowFn Try.prog 33 = some l33 := by kernel_rfl
def l34r0 : List AOper :=
  [.mk (some 4) (.mv (.const (.bool false))) none []]
def l34r1 : List AOper :=
  [.mk (some 6) (.mv (.tmp 0)) none [],.mk (some 7) (.len (.tmp 6)) none [0],.mk (some 8) (.mv (.tmp 1)) none [],.mk (some 9) (.len (.tmp 8)) none [2],.mk (some 10) (.bin .neq (.tmp 7) (.tmp 9)) none [1,3]]
def l34r2 : List AOper :=
  [.mk (some 4) (.mv (.const (.bool false))) none []]
def l34r3 : List AOper :=
  [.mk (some 5) (.mv (.const (.int .i64 0))) none []]
def l34r4 : List AOper :=
  [.mk (some 11) (.mv (.tmp 5)) none [],.mk (some 12) (.mv (.tmp 0)) none [],.mk (some 13) (.len (.tmp 12)) none [1],.mk (some 14) (.bin .lss (.tmp 11) (.tmp 13)) none [0,2]]
def l34r5a : List AOper :=
  [.mk (some 17) (.mv (.tmp 0)) none [],.mk (some 18) (.mv (.tmp 5)) none [],.mk (some 19) (.idxA 2 (.tmp 17) (.tmp 18)) none [0,1],.mk (some 20) (.load true 2 (.tmp 19)) none [2],.mk (some 21) (.mv (.tmp 1)) none [],.mk (some 22) (.mv (.tmp 5)) none [],.mk (some 23) (.idxA 2 (.tmp 21) (.tmp 22)) none [4,5],.mk (some 24) (.load true 2 (.tmp 23)) none [6]]
def l34r5b : List AOper :=
  [.mk (some 25) (.call 16 [.tmp 20,.tmp 24]) none [3,7],.mk (some 26) (.un .not (.tmp 25)) none [8]]
def l34r5 : List AOper := l34r5a ++ l34r5b
def l34r6 : List AOper :=
  [.mk (some 4) (.mv (.const (.bool false))) none []]
def l34r7 : List AOper :=
  [.mk (some 15) (.mv (.tmp 5)) none [],.mk (some 16) (.bin .add (.tmp 15) (.const (.int .i64 1))) none [0],.mk (some 5) (.mv (.tmp 16)) none [1,0,1]]
def l34r8 : List AOper :=
  [.mk (some 4) (.mv (.const (.bool true))) none []]
def l34 : AFn :=
  (AFn.mk 27 2 (.seq (.reg l34r0) (.seq (.seq (.reg l34r1) (.cond (.tmp 10) (.seq (.reg l34r2) .ret) .skip)) (.seq (.seq (.reg l34r3) (.block 0 (.loop (.seq (.seq (.reg l34r4) (.cond (.tmp 14) .skip (.exit 0))) (.seq (.block 1 (.seq (.draw l34r5) (.cond (.tmp 26) (.seq (.reg l34r6) .ret) .skip))) (.reg l34r7)))))) (.seq (.reg l34r8) .ret)))) [.tmp 4])
theorem l34_eq : lowFn Try.prog 34 = some l34 := by kernel_rfl
def l35r0 : List AOper :=
  [.mk (some 4) (.mv (.const (.bool false))) none []]
def l35r1 : List AOper :=
  [.mk (some 6) (.mv (.tmp 0)) none [],.mk (some 7) (.len (.tmp 6)) none [0],.mk (some 8) (.mv (.tmp 1)) none [],.mk (some 9) (.len (.tmp 8)) none [2],.mk (some 10) (.bin .neq (.tmp 7) (.tmp 9)) none [1,3]]
def l35r2 : List AOper :=
  [.mk (some 4) (.mv (.const (.bool false))) none []]
def l35r3 : List AOper :=
  [.mk (some 5) (.mv (.const (.int .i64 0))) none []]
def l35r4 : List AOper :=
  [.mk (some 11) (.mv (.tmp 5)) none [],.mk (some 12) (.mv (.tmp 0)) none [],.mk (some 13) (.len (.tmp 12)) none [1],.mk (some 14) (.bin .lss (.tmp 11) (.tmp 13)) none [0,2]]
def l35r5a : List AOper :=
  [.mk (some 17) (.mv (.tmp 0)) none [],.mk (some 18) (.mv (.tmp 5)) none [],.mk (some 19) (.idxA 1 (.tmp 17) (.tmp 18)) none [0,1],.mk (some 20) (.load false 1 (.tmp 19)) none [2],.mk (some 21) (.mv (.tmp 1)) none [],.mk (some 22) (.mv (.tmp 5)) none [],.mk (some 23) (.idxA 1 (.tmp 21) (.tmp 22)) none [4,5],.mk (some 24) (.load false 1 (.tmp 23)) none [6]]
def l35r5b : List AOper :=
  [.mk (some 25) (.call 22 [.tmp 20,.tmp 24]) none [3,7],.mk (some 26) (.un .not (.tmp 25)) none [8]]
def l35r5 : List AOper := l35r5a ++ l35r5b
def l35r6 : List AOper :=
  [.mk (some 4) (.mv (.const (.bool false))) none []]
def l35r7 : List AOper :=
  [.mk (some 15) (.mv (.tmp 5)) none [],.mk (some 16) (.bin .add (.tmp 15) (.const (.int .i64 1))) none [0],.mk (some 5) (.mv (.tmp 16)) none [1,0,1]]
def l35r8 : List AOper :=
  [.mk (some 4) (.mv (.const (.bool true))) none []]
def l35 : AFn :=
  (AFn.mk 27 2 (.seq (.reg l35r0) (.seq (.seq (.reg l35r1) (.cond (.tmp 10) (.seq (.reg l35r2) .ret) .skip)) (.seq (.seq (.reg l35r3) (.block 0 (.loop (.seq (.seq (.reg l35r4) (.cond (.tmp 14) .skip (.exit 0))) (.seq (.block 1 (.seq (.draw l35r5) (.cond (.tmp 26) (.seq (.reg l35r6) .ret) .skip))) (.reg l35r7)))))) (.seq (.reg l35r8) .ret)))) [.tmp 4])
theorem l35_eq : lowFn Try.prog 35 = some l35 := by kernel_rfl
def l48r0 : List AOper :=
  [.mk (some 4) (.mv (.const (.int .i64 0))) none []]
def l48r1 : List AOper :=
  [.mk (some 5) (.mv (.tmp 1)) none [],.mk (some 6) (.mv (.tmp 0)) none [],.mk (some 7) (.len (.tmp 6)) none [1],.mk (some 8) (.bin .sub (.tmp 5) (.tmp 7)) none [0,2],.mk (some 1) (.mv (.tmp 8)) none [3,0,1,2,3]]
def l48r2 : List AOper :=
  [.mk (some 9) (.mv (.tmp 1)) none [],.mk (some 10) (.bin .lss (.tmp 9) (.const (.int .i64 0))) none [0]]
def l48r3 : List AOper :=
  [.mk (some 4) (.mv (.const (.int .i64 (-1)))) none []]
def l48r4 : List AOper :=
  [.mk (some 11) (.mv (.tmp 1)) none [],.mk (some 4) (.mv (.tmp 11)) none [0,0]]
def l48 : AFn :=
  (AFn.mk 12 2 (.seq (.reg l48r0) (.seq (.reg l48r1) (.seq (.seq (.reg l48r2) (.cond (.tmp 10) (.seq (.reg l48r3) .ret) .skip)) (.seq (.reg l48r4) .ret)))) [.tmp 4])
theorem l48_eq : lowFn Try.prog 48 = some l48 := by kernel_rfl
def l49r0 : List AOper :=
  [.mk (some 1) (.box (.tmp 0)) none [],.mk (some 2) (.mv (.const (.bool false))) none []]
def l49r1a : List AOper :=
  [.mk (some 3) (.fld 0 (.tmp 1)) none [],.mk (some 4) (.load false 1 (.tmp 3)) none [0],.mk (some 5) (.call 82 [.tmp 4]) none [1],.mk (some 6) (.mv (.tmp 5)) none [2,2],.mk (some 7) (.fld 1 (.tmp 1)) (some (6,true)) [3],.mk (some 8) (.load false 1 (.tmp 7)) (some (6,true)) [4,3],.mk (some 9) (.len (.tmp 8)) (some (6,true)) [5,3],.mk (some 10) (.fld 0 (.tmp 1)) (some (6,true)) [3],.mk (some 11) (.load false 1 (.tmp 10)) (some (6,true)) [7,3],.mk (some 12) (.call 83 [.tmp 11]) (some (6,true)) [8,3,3]]
def l49r1b : List AOper :=
  [.mk (some 13) (.bin .eql (.tmp 9) (.tmp 12)) (some (6,true)) [6,9,3],.mk (some 14) (.pick (.tmp 6) (.tmp 13) (.const (.bool false))) none [3,10],.mk (some 15) (.mv (.tmp 14)) none [11,9],.mk (some 16) (.fld 1 (.tmp 1)) (some (15,true)) [12],.mk (some 17) (.load false 1 (.tmp 16)) (some (15,true)) [13,12],.mk (some 18) (.call 64 [.tmp 17,.const (.int .i64 (-1000000)),.const (.int .i64 1000000)]) (some (15,true)) [14,12,12],.mk (some 19) (.pick (.tmp 15) (.tmp 18) (.const (.bool false))) none [12,15],.mk (some 2) (.mv (.tmp 19)) none [16,15,0,1,2,3,4,5,6,7,8,9,10,11,12,13,14,15,16]]
def l49r1 : List AOper := l49r1a ++ l49r1b
def l49 : AFn :=
  (AFn.mk 20 1 (.seq (.reg l49r0) (.seq (.draw l49r1) .ret)) [.tmp 2])
theorem l49_eq : lowFn Try.prog 49 = some l49 := by kernel_rfl
def l50r0 : List AOper :=
  [.mk (some 2) (.mv (.const (.bool false))) none []]
def l50r1 : List AOper :=
  [.mk (some 5) (.mv (.tmp 0)) none [],.mk (some 6) (.len (.tmp 5)) none [0],.mk (some 7) (.bin .gtr (.tmp 6) (.const (.int .i64 4))) none [1]]
def l50r2 : List AOper :=
  [.mk (some 2) (.mv (.const (.bool false))) none []]
def l50r3 : List AOper :=
  [.mk (some 8) (.mv (.tmp 0)) none [],.mk (some 9) (.len (.tmp 8)) none [0],.mk (some 10) (.mv (.const (.int .i64 0))) none []]
def l50r4 : List AOper :=
  [.mk (some 11) (.bin .lss (.tmp 10) (.tmp 9)) none []]
def l50r5 : List AOper :=
  [.mk (some 12) (.idxA 1 (.tmp 8) (.tmp 10)) none [],.mk (some 13) (.load false 1 (.tmp 12)) none [0],.mk (some 4) (.mv (.tmp 13)) none [1,0,1]]
def l50r6 : List AOper :=
  [.mk (some 14) (.mv (.tmp 4)) none [],.mk (some 15) (.call 80 [.tmp 14,.const (.int .i64 60)]) none [0],.mk (some 16) (.un .not (.tmp 15)) none [1]]
def l50r7 : List AOper :=
  [.mk (some 2) (.mv (.const (.bool false))) none []]
def l50r8 : List AOper :=
  [.mk (some 17) (.bin .add (.tmp 10) (.const (.int .i64 1))) none [],.mk (some 10) (.mv (.tmp 17)) none [0]]
def l50r9 : List AOper :=
  [.mk (some 18) (.mv (.tmp 0)) none [],.mk (some 19) (.call 51 [.tmp 18]) none [0],.mk (some 20) (.bin .leq (.tmp 19) (.const (.int .i64 60))) none [1],.mk (some 2) (.mv (.tmp 20)) none [2,1,0,1,2]]
def l50 : AFn :=
  (AFn.mk 21 1 (.seq (.reg l50r0) (.seq (.seq (.reg l50r1) (.cond (.tmp 7) (.seq (.reg l50r2) .ret) .skip)) (.seq (.seq (.reg l50r3) (.block 0 (.loop (.seq (.reg l50r4) (.seq (.cond (.tmp 11) .skip (.exit 0)) (.seq (.block 1 (.seq (.reg l50r5) (.seq (.reg l50r6) (.cond (.tmp 16) (.seq (.reg l50r7) .ret) .skip)))) (.reg l50r8))))))) (.seq (.reg l50r9) .ret)))) [.tmp 2])
theorem l50_eq : lowFn Try.prog 50 = some l50 := by kernel_rfl
def l51r0 : List AOper :=
  [.mk (some 2) (.mv (.const (.int .i64 0))) none []]
def l51r1 : List AOper :=
  [.mk (some 3) (.mv (.const (.int .i64 1))) none []]
def l51r2 : List AOper :=
  [.mk (some 6) (.mv (.tmp 0)) none [],.mk (some 7) (.len (.tmp 6)) none [0],.mk (some 8) (.mv (.const (.int .i64 0))) none []]
def l51r3 : List AOper :=
  [.mk (some 9) (.bin .lss (.tmp 8) (.tmp 7)) none []]
def l51r4 : List AOper :=
  [.mk (some 10) (.idxA 1 (.tmp 6) (.tmp 8)) none [],.mk (some 11) (.load false 1 (.tmp 10)) none [0],.mk (some 5) (.mv (.tmp 11)) none [1,0,1]]
def l51r5 : List AOper :=
  [.mk (some 12) (.mv (.tmp 3)) none [],.mk (some 13) (.mv (.tmp 5)) none [],.mk (some 14) (.bin .mul (.tmp 12) (.tmp 13)) none [0,1],.mk (some 3) (.mv (.tmp 14)) none [2,0,1,2]]
def l51r6 : List AOper :=
  [.mk (some 15) (.bin .add (.tmp 8) (.const (.int .i64 1))) none [],.mk (some 8) (.mv (.tmp 15)) none [0]]
def l51r7 : List AOper :=
  [.mk (some 16) (.mv (.tmp 3)) none [],.mk (some 2) (.mv (.tmp 16)) none [0,0]]
def l51 : AFn :=
  (AFn.mk 17 1 (.seq (.reg l51r0) (.seq (.reg l51r1) (.seq (.seq (.reg l51r2) (.block 0 (.loop (.seq (.reg l51r3) (.seq (.cond (.tmp 9) .skip (.exit 0)) (.seq (.block 1 (.seq (.reg l51r4) (.reg l51r5))) (.reg l51r6))))))) (.seq (.reg l51r7) .ret)))) [.tmp 2])
theorem l51_eq : lowFn Try.prog 51 = some l51 := by kernel_rfl
def l52r0 : List AOper :=
  [.mk (some 4) (.mv (.const (.bool false))) none []]
def l52r1 : List AOper :=
  [.mk (some 5) (.mv (.tmp 1)) none [],.mk (some 6) (.un .neg (.tmp 5)) none [0],.mk (some 7) (.mv (.tmp 0)) none [],.mk (some 8) (.bin .leq (.tmp 6) (.tmp 7)) none [1,2],.mk (some 9) (.mv (.tmp 8)) none [3],.mk (some 10) (.mv (.tmp 0)) (some (9,true)) [4],.mk (some 11) (.mv (.tmp 1)) (some (9,true)) [4],.mk (some 12) (.bin .leq (.tmp 10) (.tmp 11)) (some (9,true)) [5,6,4],.mk (some 13) (.pick (.tmp 9) (.tmp 12) (.const (.bool false))) none [4,7],.mk (some 4) (.mv (.tmp 13)) none [8,4,0,1,2,3,4,5,6,7,8]]
def l52 : AFn :=
  (AFn.mk 14 2 (.seq (.reg l52r0) (.seq (.reg l52r1) .ret)) [.tmp 4])
theorem l52_eq : lowFn Try.prog 52 = some l52 := by kernel_rfl
def l53r0 : List AOper :=
  [.mk (some 3) (.box (.tmp 1)) none [],.mk (some 4) (.mv (.const (.bool false))) none []]
def l53r1 : List AOper :=
  [.mk (some 5) (.mv (.tmp 0)) none [],.mk (some 6) (.call 84 [.tmp 5]) none [0],.mk (some 7) (.mv (.tmp 6)) none [1,1],.mk (some 8) (.load true 3 (.tmp 3)) (some (7,true)) [2],.mk (some 9) (.call 85 [.tmp 8]) (some (7,true)) [3,2,2],.mk (some 10) (.pick (.tmp 7) (.tmp 9) (.const (.bool false))) none [2,4],.mk (some 11) (.mv (.tmp 10)) none [5,4],.mk (some 12) (.load true 3 (.tmp 3)) (some (11,true)) [6],.mk (some 13) (.mv (.tmp 0)) (some (11,true)) [6],.mk (some 14) (.len (.tmp 13)) (some (11,true)) [8,6],.mk (some 15) (.call 86 [.tmp 12,.tmp 14]) (some (11,true)) [7,9,6,6],.mk (some 16) (.pick (.tmp 11) (.tmp 15) (.const (.bool false))) none [6,10],.mk (some 4) (.mv (.tmp 16)) none [11,10,0,1,2,3,4,5,6,7,8,9,10,11]]
def l53 : AFn :=
  (AFn.mk 17 2 (.seq (.reg l53r0) (.seq (.reg l53r1) .ret)) [.tmp 4])
theorem l53_eq : lowFn Try.prog 53 = some l53 := by kernel_rfl
def l54r0 : List AOper :=
  [.mk (some 2) (.mv (.const (.slice none 0 0))) none []]
def l54r1 : List AOper :=
  [.mk (some 3) (.bslice 1 [.int .i64 0] [] 0) none [],.mk (some 4) (.mv (.tmp 0)) none [],.mk (some 5) (.append 1 (.tmp 3) (.tmp 4)) none [0,1],.mk (some 2) (.mv (.tmp 5)) none [2,2,0,1,2]]
def l54 : AFn :=
  (AFn.mk 6 1 (.seq (.reg l54r0) (.seq (.reg l54r1) .ret)) [.tmp 2])
theorem l54_eq : lowFn Try.prog 54 = some l54 := by kernel_rfl
def l55r0 : List AOper :=
  [.mk (some 3) (.box (.tmp 1)) none [],.mk (some 4) (.mv (.const (.slice none 0 0))) none []]
def l55r1 : List AOper :=
  [.mk (some 8) (.bslice 1 [.int .i64 0] [] 0) none [],.mk (some 5) (.mv (.tmp 8)) none [0,0]]
def l55r2 : List AOper :=
  [.mk (some 9) (.load true 3 (.tmp 3)) none [],.mk (some 10) (.call 87 [.tmp 9]) none [0],.mk (some 6) (.mv (.tmp 10)) none [1,1,0,1]]
def l55r3 : List AOper :=
  [.mk (some 7) (.mv (.const (.int .i64 0))) none []]
def l55r4 : List AOper :=
  [.mk (some 11) (.mv (.tmp 7)) none [],.mk (some 12) (.mv (.tmp 6)) none [],.mk (some 13) (.len (.tmp 12)) none [1],.mk (some 14) (.bin .lss (.tmp 11) (.tmp 13)) none [0,2]]
def l55r5 : List AOper :=
  [.mk (some 17) (.mv (.tmp 5)) none [],.mk (some 18) (.mv (.tmp 0)) none [],.mk (some 19) (.mv (.tmp 6)) none [],.mk (some 20) (.mv (.tmp 7)) none [],.mk (some 21) (.idxA 1 (.tmp 19) (.tmp 20)) none [2,3],.mk (some 22) (.load false 1 (.tmp 21)) none [4],.mk (some 23) (.idxA 1 (.tmp 18) (.tmp 22)) none [1,5],.mk (some 24) (.load false 1 (.tmp 23)) none [6],.mk (some 25) (.bslice 1 [.int .i64 0] [(0,.tmp 24)] 1) none [7],.mk (some 26) (.append 1 (.tmp 17) (.tmp 25)) none [0,8],.mk (some 5) (.mv (.tmp 26)) none [9,9,0,1,2,3,4,5,6,7,8,9]]
def l55r6 : List AOper :=
  [.mk (some 15) (.mv (.tmp 7)) none [],.mk (some 16) (.bin .add (.tmp 15) (.const (.int .i64 1))) none [0],.mk (some 7) (.mv (.tmp 16)) none [1,0,1]]
def l55r7 : List AOper :=
  [.mk (some 27) (.mv (.tmp 5)) none [],.mk (some 4) (.mv (.tmp 27)) none [0,0]]
def l55 : AFn :=
  (AFn.mk 28 2 (.seq (.reg l55r0) (.seq (.reg l55r1) (.seq (.reg l55r2) (.seq (.seq (.reg l55r3) (.block 0 (.loop (.seq (.seq (.reg l55r4) (.cond (.tmp 14) .skip (.exit 0))) (.seq (.block 1 (.reg l55r5)) (.reg l55r6)))))) (.seq (.reg l55r7) .ret))))) [.tmp 4])
theorem l55_eq : lowFn Try.prog 55 = some l55 := by kernel_rfl
def l56r0 : List AOper :=
  [.mk (some 3) (.box (.tmp 1)) none [],.mk (some 4) (.mv (.const (.bool false))) none []]
def l56r1 : List AOper :=
  [.mk (some 5) (.mv (.tmp 0)) none [],.mk (some 6) (.call 88 [.tmp 5]) none [0],.mk (some 7) (.mv (.tmp 6)) none [1,1],.mk (some 8) (.load true 3 (.tmp 3)) (some (7,true)) [2],.mk (some 9) (.mv (.tmp 0)) (some (7,true)) [2],.mk (some 10) (.len (.tmp 9)) (some (7,true)) [4,2],.mk (some 11) (.call 89 [.tmp 8,.tmp 10]) (some (7,true)) [3,5,2,2],.mk (some 12) (.pick (.tmp 7) (.tmp 11) (.const (.bool false))) none [2,6],.mk (some 4) (.mv (.tmp 12)) none [7,6,0,1,2,3,4,5,6,7]]
def l56 : AFn :=
  (AFn.mk 13 2 (.seq (.reg l56r0) (.seq (.reg l56r1) .ret)) [.tmp 4])
theorem l56_eq : lowFn Try.prog 56 = some l56 := by kernel_rfl
def l57r0 : List AOper :=
  [.mk (some 2) (.mv (.const (.slice none 0 0))) none []]
def l57r1 : List AOper :=
  [.mk (some 3) (.mv (.tmp 0)) none [],.mk (some 4) (.call 90 [.tmp 3]) none [0],.mk (some 2) (.mv (.tmp 4)) none [1,1,0,1]]
def l57 : AFn :=
  (AFn.mk 5 1 (.seq (.reg l57r0) (.seq (.reg l57r1) .ret)) [.tmp 2])
theorem l57_eq : lowFn Try.prog 57 = some l57 := by kernel_rfl
def l58r0 : List AOper :=
  [.mk (some 3) (.box (.tmp 1)) none [],.mk (some 4) (.mv (.const (.slice none 0 0))) none []]
def l58r1a : List AOper :=
  [.mk (some 9) (.load true 3 (.tmp 3)) none [],.mk (some 10) (.call 91 [.tmp 9]) none [0],.mk (some 11) (.load true 3 (.tmp 3)) none []]
def l58r1b : List AOper :=
  [.mk (some 12) (.call 92 [.tmp 11]) none [2,1],.mk (some 5) (.mv (.tmp 10)) none [1,3,0,1],.mk (some 6) (.mv (.tmp 12)) none [3,4,0,1,2,3,4]]
def l58r1 : List AOper := l58r1a ++ l58r1b
def l58r2 : List AOper :=
  [.mk (some 13) (.mv (.tmp 5)) none [],.mk (some 14) (.len (.tmp 13)) none [0],.mk (some 15) (.mkslice 1 [.int .i64 0] (.tmp 14) (.tmp 14)) none [1,1],.mk (some 7) (.mv (.tmp 15)) none [2,0,1,2]]
def l58r3 : List AOper :=
  [.mk (some 8) (.mv (.const (.int .i64 0))) none []]
def l58r4 : List AOper :=
  [.mk (some 16) (.mv (.tmp 8)) none [],.mk (some 17) (.mv (.tmp 5)) none [],.mk (some 18) (.len (.tmp 17)) none [1],.mk (some 19) (.bin .lss (.tmp 16) (.tmp 18)) none [0,2]]
def l58r5a : List AOper :=
  [.mk (some 23) (.mv (.tmp 7)) none [],.mk (some 24) (.mv (.tmp 8)) none [],.mk (some 25) (.mv (.tmp 6)) none [],.mk (some 26) (.call 93 [.tmp 23,.tmp 24,.tmp 25]) none [0,1,2],.mk (some 27) (.mv (.tmp 0)) none [],.mk (some 28) (.mv (.tmp 5)) none [],.mk (some 29) (.mv (.tmp 8)) none [],.mk (some 30) (.idxA 1 (.tmp 28) (.tmp 29)) none [5,6],.mk (some 31) (.load false 1 (.tmp 30)) none [7],.mk (some 32) (.mv (.tmp 6)) none []]
def l58r5b : List AOper :=
  [.mk (some 33) (.call 93 [.tmp 27,.tmp 31,.tmp 32]) none [4,8,9,3],.mk (some 34) (.cpy 1 (.tmp 26) (.tmp 33)) none [3,10,10]]
def l58r5 : List AOper := l58r5a ++ l58r5b
def l58r6 : List AOper :=
  [.mk (some 20) (.mv (.tmp 8)) none [],.mk (some 21) (.mv (.tmp 6)) none [],.mk (some 22) (.bin .add (.tmp 20) (.tmp 21)) none [0,1],.mk (some 8) (.mv (.tmp 22)) none [2,0,1,2]]
def l58r7 : List AOper :=
  [.mk (some 35) (.mv (.tmp 7)) none [],.mk (some 4) (.mv (.tmp 35)) none [0,0]]
def l58 : AFn :=
  (AFn.mk 36 2 (.seq (.reg l58r0) (.seq (.draw l58r1) (.seq (.reg l58r2) (.seq (.seq (.reg l58r3) (.block 0 (.loop (.seq (.seq (.reg l58r4) (.cond (.tmp 19) .skip (.exit 0))) (.seq (.block 1 (.draw l58r5)) (.reg l58r6)))))) (.seq (.reg l58r7) .ret))))) [.tmp 4])
theorem l58_eq : lowFn Try.prog 58 = some l58 := by kernel_rfl
def l59r0 : List AOper :=
  [.mk (some 4) (.mv (.const (.int .i64 0))) none []]
def l59r1 : List AOper :=
  [.mk (some 5) (.mv (.const (.int .i64 0))) none []]
def l59r2 : List AOper :=
  [.mk (some 6) (.mv (.tmp 5)) none [],.mk (some 7) (.mv (.tmp 0)) none [],.mk (some 8) (.len (.tmp 7)) none [1],.mk (some 9) (.bin .lss (.tmp 6) (.tmp 8)) none [0,2]]
def l59r3 : List AOper :=
  [.mk (some 12) (.mv (.tmp 0)) none [],.mk (some 13) (.mv (.tmp 5)) none [],.mk (some 14) (.idxA 1 (.tmp 12) (.tmp 13)) none [0,1],.mk (some 15) (.load false 1 (.tmp 14)) none [2],.mk (some 16) (.mv (.tmp 1)) none [],.mk (some 17) (.bin .neq (.tmp 15) (.tmp 16)) none [3,4]]
def l59r4 : List AOper :=
  [.mk (some 4) (.mv (.const (.int .i64 (-1)))) none []]
def l59r5 : List AOper :=
  [.mk (some 18) (.mv (.tmp 1)) none [],.mk (some 19) (.bin .add (.tmp 18) (.const (.int .i64 1))) none [0],.mk (some 1) (.mv (.tmp 19)) none [1,0,1]]
def l59r6 : List AOper :=
  [.mk (some 10) (.mv (.tmp 5)) none [],.mk (some 11) (.bin .add (.tmp 10) (.const (.int .i64 1))) none [0],.mk (some 5) (.mv (.tmp 11)) none [1,0,1]]
def l59r7 : List AOper :=
  [.mk (some 20) (.mv (.tmp 1)) none [],.mk (some 4) (.mv (.tmp 20)) none [0,0]]
def l59 : AFn :=
  (AFn.mk 21 2 (.seq (.reg l59r0) (.seq (.seq (.reg l59r1) (.block 0 (.loop (.seq (.seq (.reg l59r2) (.cond (.tmp 9) .skip (.exit 0))) (.seq (.block 1 (.seq (.seq (.reg l59r3) (.cond (.tmp 17) (.seq (.reg l59r4) .ret) .skip)) (.reg l59r5))) (.reg l59r6)))))) (.seq (.reg l59r7) .ret))) [.tmp 4])
theorem l59_eq : lowFn Try.prog 59 = some l59 := by kernel_rfl
def l60r0 : List AOper :=
  [.mk (some 4) (.mv (.const (.slice none 0 0))) none [],.mk (some 5) (.mv (.const (.bool false))) none [0]]
def l60r1 : List AOper :=
  [.mk (some 6) (.mv (.tmp 0)) none [],.mk (some 7) (.mv (.tmp 1)) none [],.mk (some 8) (.call 94 [.tmp 6,.tmp 7]) none [0,1],.mk (some 9) (.un .not (.tmp 8)) none [2]]
def l60r2 : List AOper :=
  [.mk (some 4) (.mv (.const (.slice none 0 0))) none [],.mk (some 5) (.mv (.const (.bool false))) none [0,0]]
def l60r3 : List AOper :=
  [.mk (some 10) (.mv (.tmp 0)) none [],.mk (some 11) (.mv (.tmp 1)) none [],.mk (some 12) (.call 95 [.tmp 10,.tmp 11]) none [0,1],.mk (some 13) (.extract (.tmp 12) 0) none [2],.mk (some 14) (.extract (.tmp 12) 1) none [2],.mk (some 4) (.mv (.tmp 13)) none [3,2,0,1,2,3,4],.mk (some 5) (.mv (.tmp 14)) none [4,5,0,1,2,3,4,5]]
def l60 : AFn :=
  (AFn.mk 15 2 (.seq (.reg l60r0) (.seq (.seq (.reg l60r1) (.cond (.tmp 9) (.seq (.reg l60r2) .ret) .skip)) (.seq (.reg l60r3) .ret))) [.tmp 4,.tmp 5])
theorem l60_eq : lowFn Try.prog 60 = some l60 := by kernel_rfl
def l61r0 : List AOper :=
  [.mk (some 2) (.mv (.const (.slice none 0 0))) none [],.mk (some 3) (.mv (.const (.int .i64 0))) none [0]]
def l61r1 : List AOper :=
  [.mk (some 8) (.bslice 1 [.int .i64 0] [] 0) none [],.mk (some 4) (.mv (.tmp 8)) none [0,0]]
def l61r2 : List AOper :=
  [.mk (some 5) (.mv (.const (.int .i64 1))) none []]
def l61r3 : List AOper :=
  [.mk (some 6) (.mv (.const (.int .i64 0))) none []]
def l61r4 : List AOper :=
  [.mk (some 9) (.mv (.tmp 6)) none [],.mk (some 10) (.mv (.tmp 0)) none [],.mk (some 11) (.len (.tmp 10)) none [1],.mk (some 12) (.bin .lss (.tmp 9) (.tmp 11)) none [0,2]]
def l61r5 : List AOper :=
  [.mk (some 15) (.mv (.tmp 0)) none [],.mk (some 16) (.mv (.tmp 6)) none [],.mk (some 17) (.idxA 1 (.tmp 15) (.tmp 16)) none [0,1],.mk (some 18) (.load false 1 (.tmp 17)) none [2],.mk (some 7) (.mv (.tmp 18)) none [3,0,1,2,3]]
def l61r6 : List AOper :=
  [.mk (some 19) (.mv (.tmp 7)) none [],.mk (some 20) (.bin .lss (.tmp 19) (.const (.int .i64 0))) none [0]]
def l61r7 : List AOper :=
  [.mk (some 7) (.mv (.const (.int .i64 1))) none []]
def l61r8 : List AOper :=
  [.mk (some 21) (.mv (.tmp 4)) none [],.mk (some 22) (.mv (.tmp 7)) none [],.mk (some 23) (.bslice 1 [.int .i64 0] [(0,.tmp 22)] 1) none [1],.mk (some 24) (.append 1 (.tmp 21) (.tmp 23)) none [0,2],.mk (some 4) (.mv (.tmp 24)) none [3,3,0,1,2,3]]
def l61r9 : List AOper :=
  [.mk (some 25) (.mv (.tmp 5)) none [],.mk (some 26) (.mv (.tmp 7)) none [],.mk (some 27) (.bin .mul (.tmp 25) (.tmp 26)) none [0,1],.mk (some 5) (.mv (.tmp 27)) none [2,0,1,2]]
def l61r10 : List AOper :=
  [.mk (some 13) (.mv (.tmp 6)) none [],.mk (some 14) (.bin .add (.tmp 13) (.const (.int .i64 1))) none [0],.mk (some 6) (.mv (.tmp 14)) none [1,0,1]]
def l61r11 : List AOper :=
  [.mk (some 28) (.mv (.tmp 4)) none [],.mk (some 29) (.mv (.tmp 5)) none [],.mk (some 2) (.mv (.tmp 28)) none [0,0],.mk (some 3) (.mv (.tmp 29)) none [1,2,0,1,2]]
def l61 : AFn :=
  (AFn.mk 30 1 (.seq (.reg l61r0) (.seq (.reg l61r1) (.seq (.reg l61r2) (.seq (.seq (.reg l61r3) (.block 0 (.loop (.seq (.seq (.reg l61r4) (.cond (.tmp 12) .skip (.exit 0))) (.seq (.block 1 (.seq (.reg l61r5) (.seq (.seq (.reg l61r6) (.cond (.tmp 20) (.reg l61r7) .skip)) (.seq (.reg l61r8) (.reg l61r9))))) (.reg l61r10)))))) (.seq (.reg l61r11) .ret))))) [.tmp 2,.tmp 3])
theorem l61_eq : lowFn Try.prog 61 = some l61 := by kernel_rfl
def l62r0 : List AOper :=
  [.mk (some 6) (.alloc [.int .i64 0,.int .i64 0,.int .i64 0,.int .i64 0,.int .i64 0]) none [],.mk (some 7) (.mv (.const (.bool false))) none []]
def l62r1 : List AOper :=
  [.mk (some 8) (.mv (.tmp 0)) none [],.mk (some 9) (.len (.tmp 8)) none [0],.mk (some 10) (.bin .lss (.tmp 9) (.const (.int .i64 1))) none [1],.mk (some 11) (.mv (.tmp 10)) none [2],.mk (some 12) (.mv (.tmp 0)) (some (11,false)) [3],.mk (some 13) (.len (.tmp 12)) (some (11,false)) [4,3],.mk (some 14) (.bin .gtr (.tmp 13) (.const (.int .i64 3))) (some (11,false)) [5,3],.mk (some 15) (.pick (.tmp 11) (.const (.bool true)) (.tmp 14)) none [3,6],.mk (some 16) (.mv (.tmp 15)) none [7,3],.mk (some 17) (.mv (.tmp 1)) (some (16,false)) [8],.mk (some 18) (.len (.tmp 17)) (some (16,false)) [9,8],.mk (some 19) (.mv (.tmp 0)) (some (16,false)) [8],.mk (some 20) (.len (.tmp 19)) (some (16,false)) [11,8],.mk (some 21) (.bin .neq (.tmp 18) (.tmp 20)) (some (16,false)) [10,12,8],.mk (some 22) (.pick (.tmp 16) (.const (.bool true)) (.tmp 21)) none [8,13],.mk (some 23) (.mv (.tmp 22)) none [14,8],.mk (some 24) (.mv (.tmp 2)) (some (23,false)) [15],.mk (some 25) (.call 96 [.tmp 24]) (some (23,false)) [16,15,15],.mk (some 26) (.un .not (.tmp 25)) (some (23,false)) [17,15],.mk (some 27) (.pick (.tmp 23) (.const (.bool true)) (.tmp 26)) none [15,18]]
def l62r2 : List AOper :=
  [.mk (some 28) (.call 97 []) none [],.mk none (.store 5 (.tmp 6) (.tmp 28)) none [0,0,0],.mk (some 7) (.mv (.const (.bool false))) none [1,0,1]]
def l62r3 : List AOper :=
  [.mk (some 29) (.mv (.tmp 0)) none [],.mk (some 30) (.mv (.tmp 1)) none [],.mk (some 31) (.call 98 [.tmp 29,.tmp 30]) none [0,1],.mk (some 32) (.extract (.tmp 31) 0) none [2],.mk (some 33) (.extract (.tmp 31) 1) none [2],.mk none (.store 5 (.tmp 6) (.tmp 32)) none [3,2,0,1,2,3,4],.mk (some 7) (.mv (.tmp 33)) none [4,5,0,1,2,3,4,5]]
def l62 : AFn :=
  (AFn.mk 34 3 (.seq (.reg l62r0) (.seq (.seq (.reg l62r1) (.cond (.tmp 27) (.seq (.reg l62r2) .ret) .skip)) (.seq (.reg l62r3) .ret))) [.cell 6 true 5,.tmp 7])
theorem l62_eq : lowFn Try.prog 62 = some l62 := by kernel_rfl
def l63r0 : List AOper :=
  [.mk (some 2) (.box (.tmp 0)) none [],.mk (some 4) (.mv (.const (.int .i64 0))) none []]
def l63r1a : List AOper :=
  [.mk (some 5) (.load true 5 (.tmp 2)) none [],.mk (some 6) (.mv (.tmp 1)) none [],.mk (some 7) (.call 100 [.tmp 6]) none [1]]
def l63r1b : List AOper :=
  [.mk (some 8) (.call 99 [.tmp 5,.tmp 7]) none [0,2,2],.mk (some 9) (.call 51 [.tmp 8]) none [3,3],.mk (some 4) (.mv (.tmp 9)) none [4,4,0,1,2,3,4]]
def l63r1 : List AOper := l63r1a ++ l63r1b
def l63 : AFn :=
  (AFn.mk 10 2 (.seq (.reg l63r0) (.seq (.draw l63r1) .ret)) [.tmp 4])
theorem l63_eq : lowFn Try.prog 63 = some l63 := by kernel_rfl
def l64r0 : List AOper :=
  [.mk (some 6) (.mv (.const (.bool false))) none []]
def l64r1 : List AOper :=
  [.mk (some 7) (.mv (.const (.int .i64 0))) none []]
def l64r2 : List AOper :=
  [.mk (some 8) (.mv (.tmp 7)) none [],.mk (some 9) (.mv (.tmp 0)) none [],.mk (some 10) (.len (.tmp 9)) none [1],.mk (some 11) (.bin .lss (.tmp 8) (.tmp 10)) none [0,2]]
def l64r3 : List AOper :=
  [.mk (some 14) (.mv (.tmp 0)) none [],.mk (some 15) (.mv (.tmp 7)) none [],.mk (some 16) (.idxA 1 (.tmp 14) (.tmp 15)) none [0,1],.mk (some 17) (.load false 1 (.tmp 16)) none [2],.mk (some 18) (.mv (.tmp 1)) none [],.mk (some 19) (.mv (.tmp 2)) none [],.mk (some 20) (.call 65 [.tmp 17,.tmp 18,.tmp 19]) none [3,4,5],.mk (some 21) (.un .not (.tmp 20)) none [6]]
def l64r4 : List AOper :=
  [.mk (some 6) (.mv (.const (.bool false))) none []]
def l64r5 : List AOper :=
  [.mk (some 12) (.mv (.tmp 7)) none [],.mk (some 13) (.bin .add (.tmp 12) (.const (.int .i64 1))) none [0],.mk (some 7) (.mv (.tmp 13)) none [1,0,1]]
def l64r6 : List AOper :=
  [.mk (some 6) (.mv (.const (.bool true))) none []]
def l64 : AFn :=
  (AFn.mk 22 3 (.seq (.reg l64r0) (.seq (.seq (.reg l64r1) (.block 0 (.loop (.seq (.seq (.reg l64r2) (.cond (.tmp 11) .skip (.exit 0))) (.seq (.block 1 (.seq (.reg l64r3) (.cond (.tmp 21) (.seq (.reg l64r4) .ret) .skip))) (.reg l64r5)))))) (.seq (.reg l64r6) .ret))) [.tmp 6])
theorem l64_eq : lowFn Try.prog 64 = some l64 := by kernel_rfl
def l65r0 : List AOper :=
  [.mk (some 6) (.mv (.const (.bool false))) none []]
def l65r1 : List AOper :=
  [.mk (some 7) (.mv (.tmp 1)) none [],.mk (some 8) (.mv (.tmp 0)) none [],.mk (some 9) (.bin .leq (.tmp 7) (.tmp 8)) none [0,1],.mk (some 10) (.mv (.tmp 9)) none [2],.mk (some 11) (.mv (.tmp 0)) (some (10,true)) [3],.mk (some 12) (.mv (.tmp 2)) (some (10,true)) [3],.mk (some 13) (.bin .leq (.tmp 11) (.tmp 12)) (some (10,true)) [4,5,3],.mk (some 14) (.pick (.tmp 10) (.tmp 13) (.const (.bool false))) none [3,6],.mk (some 6) (.mv (.tmp 14)) none [7,3,0,1,2,3,4,5,6,7]]
def l65 : AFn :=
  (AFn.mk 15 3 (.seq (.reg l65r0) (.seq (.reg l65r1) .ret)) [.tmp 6])
theorem l65_eq : lowFn Try.prog 65 = some l65 := by kernel_rfl
def l80r0 : List AOper :=
  [.mk (some 4) (.mv (.const (.bool false))) none []]
def l80r1 : List AOper :=
  [.mk (some 5) (.mv (.tmp 0)) none [],.mk (some 6) (.bin .leq (.const (.int .i64 0)) (.tmp 5)) none [0],.mk (some 7) (.mv (.tmp 6)) none [1],.mk (some 8) (.mv (.tmp 0)) (some (7,true)) [2],.mk (some 9) (.mv (.tmp 1)) (some (7,true)) [2],.mk (some 10) (.bin .leq (.tmp 8) (.tmp 9)) (some (7,true)) [3,4,2],.mk (some 11) (.pick (.tmp 7) (.tmp 10) (.const (.bool false))) none [2,5],.mk (some 4) (.mv (.tmp 11)) none [6,2,0,1,2,3,4,5,6]]
def l80 : AFn :=
  (AFn.mk 12 2 (.seq (.reg l80r0) (.seq (.reg l80r1) .ret)) [.tmp 4])
theorem l80_eq : lowFn Try.prog 80 = some l80 := by kernel_rfl
def l82r0 : List AOper :=
  [.mk (some 2) (.mv (.const (.bool false))) none []]
def l82r1 : List AOper :=
  [.mk (some 3) (.mv (.tmp 0)) none [],.mk (some 4) (.len (.tmp 3)) none [0],.mk (some 5) (.bin .leq (.tmp 4) (.const (.int .i64 4))) none [1],.mk (some 6) (.mv (.tmp 5)) none [2],.mk (some 7) (.mv (.tmp 0)) (some (6,true)) [3],.mk (some 8) (.call 64 [.tmp 7,.const (.int .i64 0),.const (.int .i64 60)]) (some (6,true)) [4,3,3],.mk (some 9) (.pick (.tmp 6) (.tmp 8) (.const (.bool false))) none [3,5],.mk (some 10) (.mv (.tmp 9)) none [6,5],.mk (some 11) (.mv (.tmp 0)) (some (10,true)) [7],.mk (some 12) (.call 83 [.tmp 11]) (some (10,true)) [8,7,7],.mk (some 13) (.bin .leq (.tmp 12) (.const (.int .i64 60))) (some (10,true)) [9,7],.mk (some 14) (.pick (.tmp 10) (.tmp 13) (.const (.bool false))) none [7,10],.mk (some 2) (.mv (.tmp 14)) none [11,9,0,1,2,3,4,5,6,7,8,9,10,11]]
def l82 : AFn :=
  (AFn.mk 15 1 (.seq (.reg l82r0) (.seq (.reg l82r1) .ret)) [.tmp 2])
theorem l82_eq : lowFn Try.prog 82 = some l82 := by kernel_rfl
def l83r0 : List AOper :=
  [.mk (some 2) (.mv (.const (.int .i64 0))) none []]
def l83r1 : List AOper :=
  [.mk (some 3) (.mv (.const (.int .i64 1))) none []]
def l83r2 : List AOper :=
  [.mk (some 4) (.mv (.const (.int .i64 0))) none []]
def l83r3 : List AOper :=
  [.mk (some 5) (.mv (.tmp 4)) none [],.mk (some 6) (.mv (.tmp 0)) none [],.mk (some 7) (.len (.tmp 6)) none [1],.mk (some 8) (.bin .lss (.tmp 5) (.tmp 7)) none [0,2]]
def l83r4 : List AOper :=
  [.mk (some 11) (.mv (.tmp 3)) none [],.mk (some 12) (.mv (.tmp 0)) none [],.mk (some 13) (.mv (.tmp 4)) none [],.mk (some 14) (.idxA 1 (.tmp 12) (.tmp 13)) none [1,2],.mk (some 15) (.load false 1 (.tmp 14)) none [3],.mk (some 16) (.bin .mul (.tmp 11) (.tmp 15)) none [0,4],.mk (some 3) (.mv (.tmp 16)) none [5,0,1,2,3,4,5]]
def l83r5 : List AOper :=
  [.mk (some 9) (.mv (.tmp 4)) none [],.mk (some 10) (.bin .add (.tmp 9) (.const (.int .i64 1))) none [0],.mk (some 4) (.mv (.tmp 10)) none [1,0,1]]
def l83r6 : List AOper :=
  [.mk (some 17) (.mv (.tmp 3)) none [],.mk (some 2) (.mv (.tmp 17)) none [0,0]]
def l83 : AFn :=
  (AFn.mk 18 1 (.seq (.reg l83r0) (.seq (.reg l83r1) (.seq (.seq (.reg l83r2) (.block 0 (.loop (.seq (.seq (.reg l83r3) (.cond (.tmp 8) .skip (.exit 0))) (.seq (.block 1 (.reg l83r4)) (.reg l83r5)))))) (.seq (.reg l83r6) .ret)))) [.tmp 2])
theorem l83_eq : lowFn Try.prog 83 = some l83 := by kernel_rfl
def l84r0 : List AOper :=
  [.mk (some 2) (.mv (.const (.bool false))) none []]
def l84r1 : List AOper :=
  [.mk (some 3) (.mv (.tmp 0)) none [],.mk (some 4) (.len (.tmp 3)) none [0],.mk (some 5) (.bin .leq (.tmp 4) (.const (.int .i64 60))) none [1],.mk (some 6) (.mv (.tmp 5)) none [2],.mk (some 7) (.mv (.tmp 0)) (some (6,true)) [3],.mk (some 8) (.call 64 [.tmp 7,.const (.int .i64 0),.const (.int .i64 255)]) (some (6,true)) [4,3,3],.mk (some 9) (.pick (.tmp 6) (.tmp 8) (.const (.bool false))) none [3,5],.mk (some 2) (.mv (.tmp 9)) none [6,5,0,1,2,3,4,5,6]]
def l84 : AFn :=
  (AFn.mk 10 1 (.seq (.reg l84r0) (.seq (.reg l84r1) .ret)) [.tmp 2])
theorem l84_eq : lowFn Try.prog 84 = some l84 := by kernel_rfl
def l85r0 : List AOper :=
  [.mk (some 1) (.box (.tmp 0)) none [],.mk (some 2) (.mv (.const (.bool false))) none []]
def l85r1 : List AOper :=
  [.mk (some 3) (.fld 1 (.tmp 1)) none [],.mk (some 4) (.load false 1 (.tmp 3)) none [0],.mk (some 5) (.call 82 [.tmp 4]) none [1],.mk (some 6) (.mv (.tmp 5)) none [2,2],.mk (some 7) (.fld 2 (.tmp 1)) (some (6,true)) [3],.mk (some 8) (.load false 1 (.tmp 7)) (some (6,true)) [4,3],.mk (some 9) (.len (.tmp 8)) (some (6,true)) [5,3],.mk (some 10) (.fld 1 (.tmp 1)) (some (6,true)) [3],.mk (some 11) (.load false 1 (.tmp 10)) (some (6,true)) [7,3],.mk (some 12) (.len (.tmp 11)) (some (6,true)) [8,3],.mk (some 13) (.bin .eql (.tmp 9) (.tmp 12)) (some (6,true)) [6,9,3],.mk (some 14) (.pick (.tmp 6) (.tmp 13) (.const (.bool false))) none [3,10],.mk (some 15) (.mv (.tmp 14)) none [11,3],.mk (some 16) (.fld 2 (.tmp 1)) (some (15,true)) [12],.mk (some 17) (.load false 1 (.tmp 16)) (some (15,true)) [13,12],.mk (some 18) (.call 64 [.tmp 17,.const (.int .i64 (-60)),.const (.int .i64 60)]) (some (15,true)) [14,12,12],.mk (some 19) (.pick (.tmp 15) (.tmp 18) (.const (.bool false))) none [12,15],.mk (some 20) (.mv (.tmp 19)) none [16,15],.mk (some 21) (.fld 0 (.tmp 1)) (some (20,true)) [17],.mk (some 22) (.load false 1 (.tmp 21)) (some (20,true)) [18,17],.mk (some 23) (.call 65 [.tmp 22,.const (.int .i64 0),.const (.int .i64 60)]) (some (20,true)) [19,17,17],.mk (some 24) (.pick (.tmp 20) (.tmp 23) (.const (.bool false))) none [17,20],.mk (some 25) (.mv (.tmp 24)) none [21,20],.mk (some 26) (.fld 1 (.tmp 1)) (some (25,true)) [22],.mk (some 27) (.load false 1 (.tmp 26)) (some (25,true)) [23,22],.mk (some 28) (.call 83 [.tmp 27]) (some (25,true)) [24,22,22],.mk (some 29) (.bin .eql (.tmp 28) (.const (.int .i64 0))) (some (25,true)) [25,22],.mk (some 30) (.mv (.tmp 29)) (some (25,true)) [26,25,22],.mk (some 31) (.load true 3 (.tmp 1)) (some (30,false)) [27],.mk (some 32) (.call 87 [.tmp 31]) (some (30,false)) [28,27,27],.mk (some 33) (.call 64 [.tmp 32,.const (.int .i64 0),.const (.int .i64 59)]) (some (30,false)) [29,29,27],.mk (some 34) (.pick (.tmp 30) (.const (.bool true)) (.tmp 33)) (some (25,true)) [27,30,22],.mk (some 35) (.pick (.tmp 25) (.tmp 34) (.const (.bool false))) none [22,31],.mk (some 2) (.mv (.tmp 35)) none [32,30,0,1,2,3,4,5,6,7,8,9,10,11,12,13,14,15,16,17,18,19,20,21,22,23,24,25,26,27,28,29,30,31,32]]
def l85 : AFn :=
  (AFn.mk 36 1 (.seq (.reg l85r0) (.seq (.reg l85r1) .ret)) [.tmp 2])
theorem l85_eq : lowFn Try.prog 85 = some l85 := by kernel_rfl
def l86r0 : List AOper :=
  [.mk (some 2) (.box (.tmp 0)) none [],.mk (some 4) (.mv (.const (.bool false))) none []]
def l86r1 : List AOper :=
  [.mk (some 5) (.load true 3 (.tmp 2)) none [],.mk (some 6) (.call 87 [.tmp 5]) none [0],.mk (some 7) (.mv (.tmp 1)) none [],.mk (some 8) (.bin .sub (.tmp 7) (.const (.int .i64 1))) none [2],.mk (some 9) (.call 64 [.tmp 6,.const (.int .i64 0),.tmp 8]) none [1,3,1],.mk (some 4) (.mv (.tmp 9)) none [4,4,0,1,2,3,4]]
def l86 : AFn :=
  (AFn.mk 10 2 (.seq (.reg l86r0) (.seq (.reg l86r1) .ret)) [.tmp 4])
theorem l86_eq : lowFn Try.prog 86 = some l86 := by kernel_rfl
def l87r0 : List AOper :=
  [.mk (some 1) (.box (.tmp 0)) none [],.mk (some 2) (.mv (.const (.slice none 0 0))) none []]
def l87r1 : List AOper :=
  [.mk (some 5) (.bslice 1 [.int .i64 0] [] 0) none [],.mk (some 3) (.mv (.tmp 5)) none [0,0]]
def l87r2 : List AOper :=
  [.mk (some 4) (.mv (.const (.int .i64 0))) none []]
def l87r3 : List AOper :=
  [.mk (some 6) (.mv (.tmp 4)) none [],.mk (some 7) (.fld 1 (.tmp 1)) none [],.mk (some 8) (.load false 1 (.tmp 7)) none [1],.mk (some 9) (.call 83 [.tmp 8]) none [2],.mk (some 10) (.bin .lss (.tmp 6) (.tmp 9)) none [0,3]]
def l87r4a : List AOper :=
  [.mk (some 13) (.mv (.tmp 3)) none [],.mk (some 14) (.load true 3 (.tmp 1)) none [],.mk (some 15) (.fld 1 (.tmp 1)) none [],.mk (some 16) (.load false 1 (.tmp 15)) none [2],.mk (some 17) (.mv (.tmp 4)) none [],.mk (some 18) (.call 111 [.tmp 16,.tmp 17]) none [3,4],.mk (some 19) (.call 110 [.tmp 14,.tmp 18]) none [1,5,5],.mk (some 20) (.bslice 1 [.int .i64 0] [(0,.tmp 19)] 1) none [6]]
def l87r4b : List AOper :=
  [.mk (some 21) (.append 1 (.tmp 13) (.tmp 20)) none [0,7,6],.mk (some 3) (.mv (.tmp 21)) none [8,8,0,1,2,3,4,5,6,7,8]]
def l87r4 : List AOper := l87r4a ++ l87r4b
def l87r5 : List AOper :=
  [.mk (some 11) (.mv (.tmp 4)) none [],.mk (some 12) (.bin .add (.tmp 11) (.const (.int .i64 1))) none [0],.mk (some 4) (.mv (.tmp 12)) none [1,0,1]]
def l87r6 : List AOper :=
  [.mk (some 22) (.mv (.tmp 3)) none [],.mk (some 2) (.mv (.tmp 22)) none [0,0]]
def l87 : AFn :=
  (AFn.mk 23 1 (.seq (.reg l87r0) (.seq (.reg l87r1) (.seq (.seq (.reg l87r2) (.block 0 (.loop (.seq (.seq (.reg l87r3) (.cond (.tmp 10) .skip (.exit 0))) (.seq (.block 1 (.draw l87r4)) (.reg l87r5)))))) (.seq (.reg l87r6) .ret)))) [.tmp 2])
theorem l87_eq : lowFn Try.prog 87 = some l87 := by kernel_rfl
def l88r0 : List AOper :=
  [.mk (some 2) (.mv (.const (.bool false))) none []]
def l88r1 : List AOper :=
  [.mk (some 3) (.mv (.tmp 0)) none [],.mk (some 4) (.len (.tmp 3)) none [0],.mk (some 5) (.call 112 [.tmp 4]) none [1],.mk (some 6) (.mv (.tmp 5)) none [2,2],.mk (some 7) (.mv (.tmp 0)) (some (6,true)) [3],.mk (some 8) (.call 113 [.tmp 7]) (some (6,true)) [4,3,3],.mk (some 9) (.pick (.tmp 6) (.tmp 8) (.const (.bool false))) none [3,5],.mk (some 2) (.mv (.tmp 9)) none [6,5,0,1,2,3,4,5,6]]
def l88 : AFn :=
  (AFn.mk 10 1 (.seq (.reg l88r0) (.seq (.reg l88r1) .ret)) [.tmp 2])
theorem l88_eq : lowFn Try.prog 88 = some l88 := by kernel_rfl
def l89r0 : List AOper :=
  [.mk (some 2) (.box (.tmp 0)) none [],.mk (some 4) (.mv (.const (.bool false))) none []]
def l89r1 : List AOper :=
  [.mk (some 7) (.load true 3 (.tmp 2)) none [],.mk (some 8) (.call 114 [.tmp 7]) none [0],.mk (some 9) (.un .not (.tmp 8)) none [1],.mk (some 10) (.mv (.tmp 9)) none [2,1],.mk (some 11) (.mv (.tmp 1)) (some (10,false)) [3],.mk (some 12) (.call 80 [.tmp 11,.const (.int .i64 60)]) (some (10,false)) [4,3,3],.mk (some 13) (.un .not (.tmp 12)) (some (10,false)) [5,3],.mk (some 14) (.pick (.tmp 10) (.const (.bool true)) (.tmp 13)) none [3,6]]
def l89r2 : List AOper :=
  [.mk (some 4) (.mv (.const (.bool false))) none []]
def l89r3 : List AOper :=
  [.mk (some 16) (.load true 3 (.tmp 2)) none [],.mk (some 17) (.call 115 [.tmp 16]) none [0],.mk (some 15) (.mv (.tmp 17)) none [1],.mk (some 18) (.extract (.tmp 15) 0) none [2],.mk (some 19) (.extract (.tmp 15) 1) none [2],.mk (some 5) (.mv (.tmp 18)) none [3,1,0,1,2,3],.mk (some 6) (.mv (.tmp 19)) none [4,5,0,1,2,3,4,5]]
def l89r4 : List AOper :=
  [.mk (some 20) (.mv (.tmp 6)) none [],.mk (some 21) (.mv (.tmp 1)) none [],.mk (some 22) (.bin .lss (.tmp 20) (.tmp 21)) none [0,1],.mk (some 4) (.mv (.tmp 22)) none [2,0,1,2]]
def l89 : AFn :=
  (AFn.mk 23 2 (.seq (.reg l89r0) (.seq (.seq (.reg l89r1) (.cond (.tmp 14) (.seq (.reg l89r2) .ret) .skip)) (.seq (.reg l89r3) (.seq (.reg l89r4) .ret)))) [.tmp 4])
theorem l89_eq : lowFn Try.prog 89 = some l89 := by kernel_rfl
def l90r0 : List AOper :=
  [.mk (some 2) (.mv (.const (.slice none 0 0))) none []]
def l90r1 : List AOper :=
  [.mk (some 3) (.mv (.tmp 0)) none [],.mk (some 4) (.isnil false (.tmp 3)) none [0]]
def l90r2 : List AOper :=
  [.mk (some 2) (.mv (.const (.slice none 0 0))) none []]
def l90r3 : List AOper :=
  [.mk (some 5) (.bslice 1 [.int .i64 0] [] 0) none [],.mk (some 6) (.mv (.tmp 0)) none [],.mk (some 7) (.append 1 (.tmp 5) (.tmp 6)) none [0,1],.mk (some 2) (.mv (.tmp 7)) none [2,2,0,1,2]]
def l90 : AFn :=
  (AFn.mk 8 1 (.seq (.reg l90r0) (.seq (.seq (.reg l90r1) (.cond (.tmp 4) (.seq (.reg l90r2) .ret) .skip)) (.seq (.reg l90r3) .ret))) [.tmp 2])
theorem l90_eq : lowFn Try.prog 90 = some l90 := by kernel_rfl
def l91r0 : List AOper :=
  [.mk (some 1) (.box (.tmp 0)) none [],.mk (some 2) (.mv (.const (.slice none 0 0))) none []]
def l91r1 : List AOper :=
  [.mk (some 5) (.load true 3 (.tmp 1)) none [],.mk (some 6) (.call 116 [.tmp 5]) none [0],.mk (some 7) (.mkslice 1 [.int .i64 0] (.tmp 6) (.tmp 6)) none [1,1],.mk (some 3) (.mv (.tmp 7)) none [2,1,0,1,2]]
def l91r2 : List AOper :=
  [.mk (some 8) (.mv (.tmp 3)) none [],.mk (some 9) (.len (.tmp 8)) none [0],.mk (some 10) (.mv (.const (.int .i64 0))) none []]
def l91r3 : List AOper :=
  [.mk (some 11) (.bin .lss (.tmp 10) (.tmp 9)) none []]
def l91r4 : List AOper :=
  [.mk (some 12) (.mv (.tmp 10)) none [],.mk (some 4) (.mv (.tmp 12)) none [0,0]]
def l91r5a : List AOper :=
  [.mk (some 13) (.mv (.tmp 3)) none [],.mk (some 14) (.mv (.tmp 4)) none [],.mk (some 15) (.load true 3 (.tmp 1)) none [],.mk (some 16) (.fld 1 (.tmp 1)) none [],.mk (some 17) (.load false 1 (.tmp 16)) none [3],.mk (some 18) (.mv (.tmp 4)) none [],.mk (some 19) (.call 118 [.tmp 17,.tmp 18]) none [4,5],.mk (some 20) (.call 117 [.tmp 15,.tmp 19]) none [2,6,6]]
def l91r5b : List AOper :=
  [.mk (some 21) (.idxA 1 (.tmp 13) (.tmp 14)) none [0,1,0,1,2,3,4,5,6,7],.mk none (.store 1 (.tmp 21) (.tmp 20)) none [8,7,7,0,1,2,3,4,5,6,7]]
def l91r5 : List AOper := l91r5a ++ l91r5b
def l91r6 : List AOper :=
  [.mk (some 22) (.bin .add (.tmp 10) (.const (.int .i64 1))) none [],.mk (some 10) (.mv (.tmp 22)) none [0]]
def l91r7 : List AOper :=
  [.mk (some 23) (.mv (.tmp 3)) none [],.mk (some 2) (.mv (.tmp 23)) none [0,0]]
def l91 : AFn :=
  (AFn.mk 24 1 (.seq (.reg l91r0) (.seq (.reg l91r1) (.seq (.seq (.reg l91r2) (.block 0 (.loop (.seq (.reg l91r3) (.seq (.cond (.tmp 11) .skip (.exit 0)) (.seq (.block 1 (.seq (.reg l91r4) (.draw l91r5))) (.reg l91r6))))))) (.seq (.reg l91r7) .ret)))) [.tmp 2])
theorem l91_eq : lowFn Try.prog 91 = some l91 := by kernel_rfl
def l92r0 : List AOper :=
  [.mk (some 1) (.box (.tmp 0)) none [],.mk (some 2) (.mv (.const (.int .i64 0))) none []]
def l92r1 : List AOper :=
  [.mk (some 4) (.fld 1 (.tmp 1)) none [],.mk (some 5) (.load false 1 (.tmp 4)) none [0],.mk (some 6) (.len (.tmp 5)) none [1],.mk (some 7) (.bin .sub (.tmp 6) (.const (.int .i64 1))) none [2],.mk (some 3) (.mv (.tmp 7)) none [3,0,1,2,3]]
def l92r2 : List AOper :=
  [.mk (some 8) (.mv (.tmp 3)) none [],.mk (some 9) (.bin .lss (.tmp 8) (.const (.int .i64 0))) none [0],.mk (some 10) (.mv (.tmp 9)) none [1],.mk (some 11) (.fld 2 (.tmp 1)) (some (10,false)) [2],.mk (some 12) (.load false 1 (.tmp 11)) (some (10,false)) [3,2],.mk (some 13) (.mv (.tmp 3)) (some (10,false)) [2],.mk (some 14) (.idxA 1 (.tmp 12) (.tmp 13)) (some (10,false)) [4,5,2],.mk (some 15) (.load false 1 (.tmp 14)) (some (10,false)) [6,2],.mk (some 16) (.bin .neq (.tmp 15) (.const (.int .i64 1))) (some (10,false)) [7,2],.mk (some 17) (.pick (.tmp 10) (.const (.bool true)) (.tmp 16)) none [2,8]]
def l92r3 : List AOper :=
  [.mk (some 2) (.mv (.const (.int .i64 1))) none []]
def l92r4 : List AOper :=
  [.mk (some 18) (.fld 1 (.tmp 1)) none [],.mk (some 19) (.load false 1 (.tmp 18)) none [0],.mk (some 20) (.mv (.tmp 3)) none [],.mk (some 21) (.idxA 1 (.tmp 19) (.tmp 20)) none [1,2],.mk (some 22) (.load false 1 (.tmp 21)) none [3],.mk (some 2) (.mv (.tmp 22)) none [4,0,1,2,3,4]]
def l92 : AFn :=
  (AFn.mk 23 1 (.seq (.reg l92r0) (.seq (.reg l92r1) (.seq (.seq (.reg l92r2) (.cond (.tmp 17) (.seq (.reg l92r3) .ret) .skip)) (.seq (.reg l92r4) .ret)))) [.tmp 2])
theorem l92_eq : lowFn Try.prog 92 = some l92 := by kernel_rfl
def l93r0 : List AOper :=
  [.mk (some 6) (.mv (.const (.slice none 0 0))) none []]
def l93r1 : List AOper :=
  [.mk (some 8) (.mv (.tmp 1)) none [],.mk (some 9) (.mv (.tmp 2)) none [],.mk (some 10) (.bin .add (.tmp 8) (.tmp 9)) none [0,1],.mk (some 7) (.mv (.tmp 10)) none [2,0,1,2]]
def l93r2 : List AOper :=
  [.mk (some 11) (.mv (.tmp 0)) none [],.mk (some 12) (.mv (.tmp 1)) none [],.mk (some 13) (.mv (.tmp 7)) none [],.mk (some 14) (.mv (.tmp 7)) none [],.mk (some 15) (.slice3 1 (.tmp 11) (some (.tmp 12)) (.tmp 13) (.tmp 14)) none [0,1,2,3],.mk (some 6) (.mv (.tmp 15)) none [4,0,1,2,3,4]]
def l93 : AFn :=
  (AFn.mk 16 3 (.seq (.reg l93r0) (.seq (.reg l93r1) (.seq (.reg l93r2) .ret))) [.tmp 6])
theorem l93_eq : lowFn Try.prog 93 = some l93 := by kernel_rfl
def l94r0 : List AOper :=
  [.mk (some 4) (.mv (.const (.bool false))) none []]
def l94r1 : List AOper :=
  [.mk (some 5) (.mv (.const (.int .i64 0))) none []]
def l94r2 : List AOper :=
  [.mk (some 6) (.mv (.tmp 5)) none [],.mk (some 7) (.mv (.tmp 0)) none [],.mk (some 8) (.len (.tmp 7)) none [1],.mk (some 9) (.bin .lss (.tmp 6) (.tmp 8)) none [0,2]]
def l94r3 : List AOper :=
  [.mk (some 12) (.mv (.tmp 0)) none [],.mk (some 13) (.mv (.tmp 5)) none [],.mk (some 14) (.idxA 2 (.tmp 12) (.tmp 13)) none [0,1],.mk (some 15) (.load true 2 (.tmp 14)) none [2],.mk (some 16) (.call 49 [.tmp 15]) none [3],.mk (some 17) (.un .not (.tmp 16)) none [4]]
def l94r4 : List AOper :=
  [.mk (some 4) (.mv (.const (.bool false))) none []]
def l94r5 : List AOper :=
  [.mk (some 10) (.mv (.tmp 5)) none [],.mk (some 11) (.bin .add (.tmp 10) (.const (.int .i64 1))) none [0],.mk (some 5) (.mv (.tmp 11)) none [1,0,1]]
def l94r6 : List AOper :=
  [.mk (some 18) (.mv (.tmp 0)) none [],.mk (some 19) (.len (.tmp 18)) none [0],.mk (some 20) (.call 65 [.tmp 19,.const (.int .i64 1),.const (.int .i64 3)]) none [1],.mk (some 21) (.mv (.tmp 20)) none [2,2],.mk (some 22) (.mv (.tmp 1)) (some (21,true)) [3],.mk (some 23) (.len (.tmp 22)) (some (21,true)) [4,3],.mk (some 24) (.mv (.tmp 0)) (some (21,true)) [3],.mk (some 25) (.len (.tmp 24)) (some (21,true)) [6,3],.mk (some 26) (.bin .eql (.tmp 23) (.tmp 25)) (some (21,true)) [5,7,3],.mk (some 27) (.pick (.tmp 21) (.tmp 26) (.const (.bool false))) none [3,8],.mk (some 4) (.mv (.tmp 27)) none [9,3,0,1,2,3,4,5,6,7,8,9]]
def l94 : AFn :=
  (AFn.mk 28 2 (.seq (.reg l94r0) (.seq (.seq (.reg l94r1) (.block 0 (.loop (.seq (.seq (.reg l94r2) (.cond (.tmp 9) .skip (.exit 0))) (.seq (.block 1 (.seq (.reg l94r3) (.cond (.tmp 17) (.seq (.reg l94r4) .ret) .skip))) (.reg l94r5)))))) (.seq (.reg l94r6) .ret))) [.tmp 4])
theorem l94_eq : lowFn Try.prog 94 = some l94 := by kernel_rfl
def l95r0 : List AOper :=
  [.mk (some 4) (.mv (.const (.slice none 0 0))) none [],.mk (some 5) (.mv (.const (.bool false))) none [0]]
def l95r1 : List AOper :=
  [.mk (some 11) (.bslice 1 [.int .i64 0] [] 0) none [],.mk (some 6) (.mv (.tmp 11)) none [0,0]]
def l95r2 : List AOper :=
  [.mk (some 7) (.mv (.const (.int .i64 0))) none []]
def l95r3 : List AOper :=
  [.mk (some 12) (.mv (.tmp 7)) none [],.mk (some 13) (.bin .leq (.tmp 12) (.const (.int .i64 4))) none [0]]
def l95r4 : List AOper :=
  [.mk (some 16) (.mv (.tmp 6)) none [],.mk (some 17) (.bslice 1 [.int .i64 0] [(0,.const (.int .i64 (-1)))] 1) none [],.mk (some 18) (.append 1 (.tmp 16) (.tmp 17)) none [0,1],.mk (some 6) (.mv (.tmp 18)) none [2,2,0,1,2]]
def l95r5 : List AOper :=
  [.mk (some 14) (.mv (.tmp 7)) none [],.mk (some 15) (.bin .add (.tmp 14) (.const (.int .i64 1))) none [0],.mk (some 7) (.mv (.tmp 15)) none [1,0,1]]
def l95r6 : List AOper :=
  [.mk (some 8) (.mv (.const (.int .i64 0))) none []]
def l95r7 : List AOper :=
  [.mk (some 19) (.mv (.tmp 8)) none [],.mk (some 20) (.mv (.tmp 0)) none [],.mk (some 21) (.len (.tmp 20)) none [1],.mk (some 22) (.bin .lss (.tmp 19) (.tmp 21)) none [0,2]]
def l95r8a : List AOper :=
  [.mk (some 25) (.mv (.tmp 1)) none [],.mk (some 26) (.mv (.tmp 8)) none [],.mk (some 27) (.idxA 1 (.tmp 25) (.tmp 26)) none [0,1],.mk (some 28) (.load false 1 (.tmp 27)) none [2],.mk (some 29) (.len (.tmp 28)) none [3],.mk (some 30) (.mv (.tmp 0)) none [],.mk (some 31) (.mv (.tmp 8)) none [],.mk (some 32) (.idxA 2 (.tmp 30) (.tmp 31)) none [5,6],.mk (some 33) (.fld 0 (.tmp 32)) none [7],.mk (some 34) (.load false 1 (.tmp 33)) none [8],.mk (some 35) (.len (.tmp 34)) none [9],.mk (some 36) (.bin .neq (.tmp 29) (.tmp 35)) none [4,10],.mk (some 37) (.mv (.tmp 36)) none [11],.mk (some 38) (.mv (.tmp 1)) (some (37,false)) [12],.mk (some 39) (.mv (.tmp 8)) (some (37,false)) [12]]
def l95r8b : List AOper :=
  [.mk (some 40) (.idxA 1 (.tmp 38) (.tmp 39)) (some (37,false)) [13,14,12],.mk (some 41) (.load false 1 (.tmp 40)) (some (37,false)) [15,12],.mk (some 42) (.call 64 [.tmp 41,.const (.int .i64 0),.const (.int .i64 4)]) (some (37,false)) [16,12,12],.mk (some 43) (.un .not (.tmp 42)) (some (37,false)) [17,12],.mk (some 44) (.pick (.tmp 37) (.const (.bool true)) (.tmp 43)) none [12,18]]
def l95r8 : List AOper := l95r8a ++ l95r8b
def l95r9 : List AOper :=
  [.mk (some 4) (.mv (.const (.slice none 0 0))) none [],.mk (some 5) (.mv (.const (.bool false))) none [0,0]]
def l95r10 : List AOper :=
  [.mk (some 9) (.mv (.const (.int .i64 0))) none []]
def l95r11 : List AOper :=
  [.mk (some 45) (.mv (.tmp 9)) none [],.mk (some 46) (.mv (.tmp 1)) none [],.mk (some 47) (.mv (.tmp 8)) none [],.mk (some 48) (.idxA 1 (.tmp 46) (.tmp 47)) none [1,2],.mk (some 49) (.load false 1 (.tmp 48)) none [3],.mk (some 50) (.len (.tmp 49)) none [4],.mk (some 51) (.bin .lss (.tmp 45) (.tmp 50)) none [0,5]]
def l95r12 : List AOper :=
  [.mk (some 54) (.mv (.tmp 1)) none [],.mk (some 55) (.mv (.tmp 8)) none [],.mk (some 56) (.idxA 1 (.tmp 54) (.tmp 55)) none [0,1],.mk (some 57) (.load false 1 (.tmp 56)) none [2],.mk (some 58) (.mv (.tmp 9)) none [],.mk (some 59) (.idxA 1 (.tmp 57) (.tmp 58)) none [3,4],.mk (some 60) (.load false 1 (.tmp 59)) none [5],.mk (some 10) (.mv (.tmp 60)) none [6,0,1,2,3,4,5,6]]
def l95r13a : List AOper :=
  [.mk (some 61) (.mv (.tmp 6)) none [],.mk (some 62) (.mv (.tmp 10)) none [],.mk (some 63) (.idxA 1 (.tmp 61) (.tmp 62)) none [0,1],.mk (some 64) (.load false 1 (.tmp 63)) none [2],.mk (some 65) (.bin .geq (.tmp 64) (.const (.int .i64 0))) none [3],.mk (some 66) (.mv (.tmp 65)) none [4],.mk (some 67) (.mv (.tmp 6)) (some (66,true)) [5],.mk (some 68) (.mv (.tmp 10)) (some (66,true)) [5],.mk (some 69) (.idxA 1 (.tmp 67) (.tmp 68)) (some (66,true)) [6,7,5],.mk (some 70) (.load false 1 (.tmp 69)) (some (66,true)) [8,5],.mk (some 71) (.mv (.tmp 0)) (some (66,true)) [5],.mk (some 72) (.mv (.tmp 8)) (some (66,true)) [5],.mk (some 73) (.idxA 2 (.tmp 71) (.tmp 72)) (some (66,true)) [10,11,5],.mk (some 74) (.fld 0 (.tmp 73)) (some (66,true)) [12,5],.mk (some 75) (.load false 1 (.tmp 74)) (some (66,true)) [13,5],.mk (some 76) (.mv (.tmp 9)) (some (66,true)) [5],.mk (some 77) (.idxA 1 (.tmp 75) (.tmp 76)) (some (66,true)) [14,15,5],.mk (some 78) (.load false 1 (.tmp 77)) (some (66,true)) [16,5]]
def l95r13b : List AOper :=
  [.mk (some 79) (.bin .neq (.tmp 70) (.tmp 78)) (some (66,true)) [9,17,5],.mk (some 80) (.pick (.tmp 66) (.tmp 79) (.const (.bool false))) none [5,18]]
def l95r13 : List AOper := l95r13a ++ l95r13b
def l95r14 : List AOper :=
  [.mk (some 4) (.mv (.const (.slice none 0 0))) none [],.mk (some 5) (.mv (.const (.bool false))) none [0,0]]
def l95r15 : List AOper :=
  [.mk (some 81) (.mv (.tmp 6)) none [],.mk (some 82) (.mv (.tmp 10)) none [],.mk (some 83) (.mv (.tmp 0)) none [],.mk (some 84) (.mv (.tmp 8)) none [],.mk (some 85) (.idxA 2 (.tmp 83) (.tmp 84)) none [2,3],.mk (some 86) (.fld 0 (.tmp 85)) none [4],.mk (some 87) (.load false 1 (.tmp 86)) none [5],.mk (some 88) (.mv (.tmp 9)) none [],.mk (some 89) (.idxA 1 (.tmp 87) (.tmp 88)) none [6,7],.mk (some 90) (.load false 1 (.tmp 89)) none [8],.mk (some 91) (.idxA 1 (.tmp 81) (.tmp 82)) none [0,1,0,1,2,3,4,5,6,7,8,9],.mk none (.store 1 (.tmp 91) (.tmp 90)) none [10,9,0,1,2,3,4,5,6,7,8,9]]
def l95r16 : List AOper :=
  [.mk (some 52) (.mv (.tmp 9)) none [],.mk (some 53) (.bin .add (.tmp 52) (.const (.int .i64 1))) none [0],.mk (some 9) (.mv (.tmp 53)) none [1,0,1]]
def l95r17 : List AOper :=
  [.mk (some 23) (.mv (.tmp 8)) none [],.mk (some 24) (.bin .add (.tmp 23) (.const (.int .i64 1))) none [0],.mk (some 8) (.mv (.tmp 24)) none [1,0,1]]
def l95r18 : List AOper :=
  [.mk (some 92) (.mv (.tmp 6)) none [],.mk (some 4) (.mv (.tmp 92)) none [0,0],.mk (some 5) (.mv (.const (.bool true))) none [1,0,1]]
def l95 : AFn :=
  (AFn.mk 93 2 (.seq (.reg l95r0) (.seq (.reg l95r1) (.seq (.seq (.reg l95r2) (.block 0 (.loop (.seq (.seq (.reg l95r3) (.cond (.tmp 13) .skip (.exit 0))) (.seq (.block 1 (.reg l95r4)) (.reg l95r5)))))) (.seq (.seq (.reg l95r6) (.block 2 (.loop (.seq (.seq (.reg l95r7) (.cond (.tmp 22) .skip (.exit 2))) (.seq (.block 3 (.seq (.seq (.draw l95r8) (.cond (.tmp 44) (.seq (.reg l95r9) .ret) .skip)) (.seq (.reg l95r10) (.block 4 (.loop (.seq (.seq (.reg l95r11) (.cond (.tmp 51) .skip (.exit 4))) (.seq (.block 5 (.seq (.reg l95r12) (.seq (.seq (.draw l95r13) (.cond (.tmp 80) (.seq (.reg l95r14) .ret) .skip)) (.reg l95r15)))) (.reg l95r16)))))))) (.reg l95r17)))))) (.seq (.reg l95r18) .ret))))) [.tmp 4,.tmp 5])
theorem l95_eq : lowFn Try.prog 95 = some l95 := by kernel_rfl
def l96r0 : List AOper :=
  [.mk (some 2) (.mv (.const (.bool false))) none []]
def l96r1 : List AOper :=
  [.mk (some 5) (.mv (.tmp 0)) none [],.mk (some 6) (.len (.tmp 5)) none [0],.mk (some 7) (.mv (.const (.int .i64 0))) none []]
def l96r2 : List AOper :=
  [.mk (some 8) (.bin .lss (.tmp 7) (.tmp 6)) none []]
def l96r3 : List AOper :=
  [.mk (some 9) (.idxA 1 (.tmp 5) (.tmp 7)) none [],.mk (some 10) (.load false 1 (.tmp 9)) none [0],.mk (some 4) (.mv (.tmp 10)) none [1,0,1]]
def l96r4 : List AOper :=
  [.mk (some 11) (.mv (.tmp 4)) none [],.mk (some 12) (.call 80 [.tmp 11,.const (.int .i64 4)]) none [0],.mk (some 13) (.un .not (.tmp 12)) none [1]]
def l96r5 : List AOper :=
  [.mk (some 2) (.mv (.const (.bool false))) none []]
def l96r6 : List AOper :=
  [.mk (some 14) (.bin .add (.tmp 7) (.const (.int .i64 1))) none [],.mk (some 7) (.mv (.tmp 14)) none [0]]
def l96r7 : List AOper :=
  [.mk (some 2) (.mv (.const (.bool true))) none []]
def l96 : AFn :=
  (AFn.mk 15 1 (.seq (.reg l96r0) (.seq (.seq (.reg l96r1) (.block 0 (.loop (.seq (.reg l96r2) (.seq (.cond (.tmp 8) .skip (.exit 0)) (.seq (.block 1 (.seq (.reg l96r3) (.seq (.reg l96r4) (.cond (.tmp 13) (.seq (.reg l96r5) .ret) .skip)))) (.reg l96r6))))))) (.seq (.reg l96r7) .ret))) [.tmp 2])
theorem l96_eq : lowFn Try.prog 96 = some l96 := by kernel_rfl
def l97r0 : List AOper :=
  [.mk (some 0) (.alloc [.int .i64 0,.int .i64 0,.int .i64 0,.int .i64 0,.int .i64 0]) none []]
def l97r1 : List AOper :=
  [.mk (some 1) (.alloc [.int .i64 0,.int .i64 0,.int .i64 0,.int .i64 0,.int .i64 0]) none []]
def l97r2 : List AOper :=
  [.mk (some 3) (.mv (.const (.int .i64 0))) none []]
def l97r3 : List AOper :=
  [.mk (some 4) (.bin .lss (.tmp 3) (.const (.int .i64 5))) none []]
def l97r4 : List AOper :=
  [.mk (some 5) (.mv (.tmp 3)) none [],.mk (some 2) (.mv (.tmp 5)) none [0,0]]
def l97r5 : List AOper :=
  [.mk (some 6) (.mv (.tmp 2)) none [],.mk (some 7) (.idxP 1 5 (.tmp 1) (.tmp 6)) none [0,0],.mk none (.store 1 (.tmp 7) (.const (.int .i64 (-1)))) none [1,0]]
def l97r6 : List AOper :=
  [.mk (some 8) (.bin .add (.tmp 3) (.const (.int .i64 1))) none [],.mk (some 3) (.mv (.tmp 8)) none [0]]
def l97r7 : List AOper :=
  [.mk (some 9) (.load true 5 (.tmp 1)) none [],.mk none (.store 5 (.tmp 0) (.tmp 9)) none [0,0]]
def l97 : AFn :=
  (AFn.mk 10 0 (.seq (.reg l97r0) (.seq (.reg l97r1) (.seq (.seq (.reg l97r2) (.block 0 (.loop (.seq (.reg l97r3) (.seq (.cond (.tmp 4) .skip (.exit 0)) (.seq (.block 1 (.seq (.reg l97r4) (.reg l97r5))) (.reg l97r6))))))) (.seq (.reg l97r7) .ret)))) [.cell 0 true 5])
theorem l97_eq : lowFn Try.prog 97 = some l97 := by kernel_rfl
def l98r0 : List AOper :=
  [.mk (some 4) (.alloc [.int .i64 0,.int .i64 0,.int .i64 0,.int .i64 0,.int .i64 0]) none [],.mk (some 5) (.mv (.const (.bool false))) none []]
def l98r1 : List AOper :=
  [.mk (some 11) (.call 97 []) none [],.mk (some 6) (.alloc [.int .i64 0,.int .i64 0,.int .i64 0,.int .i64 0,.int .i64 0]) none [],.mk none (.store 5 (.tmp 6) (.tmp 11)) none [1,0,0,0,1]]
def l98r2 : List AOper :=
  [.mk (some 12) (.mv (.tmp 0)) none [],.mk (some 13) (.len (.tmp 12)) none [0],.mk (some 14) (.mv (.const (.int .i64 0))) none []]
def l98r3 : List AOper :=
  [.mk (some 15) (.bin .lss (.tmp 14) (.tmp 13)) none []]
def l98r4 : List AOper :=
  [.mk (some 16) (.mv (.tmp 14)) none [],.mk (some 17) (.idxA 2 (.tmp 12) (.tmp 14)) none [],.mk (some 18) (.load true 2 (.tmp 17)) none [1],.mk (some 8) (.alloc [.slice none 0 0,.slice none 0 0]) none [],.mk (some 7) (.mv (.tmp 16)) none [0,0,1,2,3],.mk none (.store 2 (.tmp 8) (.tmp 18)) none [3,2,4,0,1,2,3,4]]
def l98r5a : List AOper :=
  [.mk (some 19) (.load true 2 (.tmp 8)) none [],.mk (some 20) (.call 15 [.tmp 19]) none [0],.mk (some 21) (.un .not (.tmp 20)) none [1],.mk (some 22) (.mv (.tmp 21)) none [2,1],.mk (some 23) (.mv (.tmp 1)) (some (22,false)) [3],.mk (some 24) (.mv (.tmp 7)) (some (22,false)) [3],.mk (some 25) (.idxA 1 (.tmp 23) (.tmp 24)) (some (22,false)) [4,5,3],.mk (some 26) (.load false 1 (.tmp 25)) (some (22,false)) [6,3],.mk (some 27) (.len (.tmp 26)) (some (22,false)) [7,3],.mk (some 28) (.fld 0 (.tmp 8)) (some (22,false)) [3],.mk (some 29) (.load false 1 (.tmp 28)) (some (22,false)) [9,3],.mk (some 30) (.len (.tmp 29)) (some (22,false)) [10,3],.mk (some 31) (.bin .neq (.tmp 27) (.tmp 30)) (some (22,false)) [8,11,3],.mk (some 32) (.pick (.tmp 22) (.const (.bool true)) (.tmp 31)) none [3,12],.mk (some 33) (.mv (.tmp 32)) none [13,3],.mk (some 34) (.mv (.tmp 1)) (some (33,false)) [14],.mk (some 35) (.mv (.tmp 7)) (some (33,false)) [14]]
def l98r5b : List AOper :=
  [.mk (some 36) (.idxA 1 (.tmp 34) (.tmp 35)) (some (33,false)) [15,16,14],.mk (some 37) (.load false 1 (.tmp 36)) (some (33,false)) [17,14],.mk (some 38) (.call 96 [.tmp 37]) (some (33,false)) [18,14,14],.mk (some 39) (.un .not (.tmp 38)) (some (33,false)) [19,14],.mk (some 40) (.pick (.tmp 33) (.const (.bool true)) (.tmp 39)) none [14,20]]
def l98r5 : List AOper := l98r5a ++ l98r5b
def l98r6 : List AOper :=
  [.mk (some 41) (.load true 5 (.tmp 6)) none [],.mk none (.store 5 (.tmp 4) (.tmp 41)) none [0,0],.mk (some 5) (.mv (.const (.bool false))) none [1,0,1]]
def l98r7 : List AOper :=
  [.mk (some 42) (.mv (.tmp 1)) none [],.mk (some 43) (.mv (.tmp 7)) none [],.mk (some 44) (.idxA 1 (.tmp 42) (.tmp 43)) none [0,1],.mk (some 45) (.load false 1 (.tmp 44)) none [2],.mk (some 46) (.len (.tmp 45)) none [3],.mk (some 47) (.mv (.const (.int .i64 0))) none []]
def l98r8 : List AOper :=
  [.mk (some 48) (.bin .lss (.tmp 47) (.tmp 46)) none []]
def l98r9 : List AOper :=
  [.mk (some 49) (.mv (.tmp 47)) none [],.mk (some 50) (.idxA 1 (.tmp 45) (.tmp 47)) none [],.mk (some 51) (.load false 1 (.tmp 50)) none [1],.mk (some 9) (.mv (.tmp 49)) none [0,0,1,2],.mk (some 10) (.mv (.tmp 51)) none [2,3,0,1,2,3]]
def l98r10a : List AOper :=
  [.mk (some 52) (.mv (.tmp 10)) none [],.mk (some 53) (.idxP 1 5 (.tmp 6) (.tmp 52)) none [0],.mk (some 54) (.load false 1 (.tmp 53)) none [1],.mk (some 55) (.bin .geq (.tmp 54) (.const (.int .i64 0))) none [2],.mk (some 56) (.mv (.tmp 55)) none [3],.mk (some 57) (.mv (.tmp 10)) (some (56,true)) [4],.mk (some 58) (.idxP 1 5 (.tmp 6) (.tmp 57)) (some (56,true)) [5,4],.mk (some 59) (.load false 1 (.tmp 58)) (some (56,true)) [6,4],.mk (some 60) (.fld 0 (.tmp 8)) (some (56,true)) [4],.mk (some 61) (.load false 1 (.tmp 60)) (some (56,true)) [8,4],.mk (some 62) (.mv (.tmp 9)) (some (56,true)) [4],.mk (some 63) (.idxA 1 (.tmp 61) (.tmp 62)) (some (56,true)) [9,10,4],.mk (some 64) (.load false 1 (.tmp 63)) (some (56,true)) [11,4]]
def l98r10b : List AOper :=
  [.mk (some 65) (.bin .neq (.tmp 59) (.tmp 64)) (some (56,true)) [7,12,4],.mk (some 66) (.pick (.tmp 56) (.tmp 65) (.const (.bool false))) none [4,13]]
def l98r10 : List AOper := l98r10a ++ l98r10b
def l98r11 : List AOper :=
  [.mk (some 67) (.load true 5 (.tmp 6)) none [],.mk none (.store 5 (.tmp 4) (.tmp 67)) none [0,0],.mk (some 5) (.mv (.const (.bool false))) none [1,0,1]]
def l98r12 : List AOper :=
  [.mk (some 68) (.mv (.tmp 10)) none [],.mk (some 69) (.fld 0 (.tmp 8)) none [],.mk (some 70) (.load false 1 (.tmp 69)) none [1],.mk (some 71) (.mv (.tmp 9)) none [],.mk (some 72) (.idxA 1 (.tmp 70) (.tmp 71)) none [2,3],.mk (some 73) (.load false 1 (.tmp 72)) none [4],.mk (some 74) (.idxP 1 5 (.tmp 6) (.tmp 68)) none [0,0,1,2,3,4,5],.mk none (.store 1 (.tmp 74) (.tmp 73)) none [6,5,0,1,2,3,4,5]]
def l98r13 : List AOper :=
  [.mk (some 75) (.bin .add (.tmp 47) (.const (.int .i64 1))) none [],.mk (some 47) (.mv (.tmp 75)) none [0]]
def l98r14 : List AOper :=
  [.mk (some 76) (.bin .add (.tmp 14) (.const (.int .i64 1))) none [],.mk (some 14) (.mv (.tmp 76)) none [0]]
def l98r15 : List AOper :=
  [.mk (some 77) (.load true 5 (.tmp 6)) none [],.mk none (.store 5 (.tmp 4) (.tmp 77)) none [0,0],.mk (some 5) (.mv (.const (.bool true))) none [1,0,1]]
def l98 : AFn :=
  (AFn.mk 78 2 (.seq (.reg l98r0) (.seq (.reg l98r1) (.seq (.seq (.reg l98r2) (.block 0 (.loop (.seq (.reg l98r3) (.seq (.cond (.tmp 15) .skip (.exit 0)) (.seq (.block 1 (.seq (.reg l98r4) (.seq (.seq (.draw l98r5) (.cond (.tmp 40) (.seq (.reg l98r6) .ret) .skip)) (.seq (.reg l98r7) (.block 2 (.loop (.seq (.reg l98r8) (.seq (.cond (.tmp 48) .skip (.exit 2)) (.seq (.block 3 (.seq (.reg l98r9) (.seq (.seq (.draw l98r10) (.cond (.tmp 66) (.seq (.reg l98r11) .ret) .skip)) (.reg l98r12)))) (.reg l98r13)))))))))) (.reg l98r14))))))) (.seq (.reg l98r15) .ret)))) [.cell 4 true 5,.tmp 5])
theorem l98_eq : lowFn Try.prog 98 = some l98 := by kernel_rfl
def l99r0 : List AOper :=
  [.mk (some 2) (.box (.tmp 0)) none [],.mk (some 4) (.mv (.const (.slice none 0 0))) none []]
def l99r1 : List AOper :=
  [.mk (some 8) (.mv (.tmp 1)) none [],.mk (some 9) (.len (.tmp 8)) none [0],.mk (some 10) (.mkslice 1 [.int .i64 0] (.tmp 9) (.tmp 9)) none [1,1],.mk (some 5) (.mv (.tmp 10)) none [2,0,1,2]]
def l99r2 : List AOper :=
  [.mk (some 11) (.mv (.tmp 1)) none [],.mk (some 12) (.len (.tmp 11)) none [0],.mk (some 13) (.mv (.const (.int .i64 0))) none []]
def l99r3 : List AOper :=
  [.mk (some 14) (.bin .lss (.tmp 13) (.tmp 12)) none []]
def l99r4 : List AOper :=
  [.mk (some 15) (.mv (.tmp 13)) none [],.mk (some 16) (.idxA 1 (.tmp 11) (.tmp 13)) none [],.mk (some 17) (.load false 1 (.tmp 16)) none [1],.mk (some 6) (.mv (.tmp 15)) none [0,0,1,2],.mk (some 7) (.mv (.tmp 17)) none [2,3,0,1,2,3]]
def l99r5 : List AOper :=
  [.mk (some 18) (.mv (.tmp 5)) none [],.mk (some 19) (.mv (.tmp 6)) none [],.mk (some 20) (.mv (.tmp 7)) none [],.mk (some 21) (.idxP 1 5 (.tmp 2) (.tmp 20)) none [2],.mk (some 22) (.load false 1 (.tmp 21)) none [3],.mk (some 23) (.idxA 1 (.tmp 18) (.tmp 19)) none [0,1,0,1,2,3,4],.mk none (.store 1 (.tmp 23) (.tmp 22)) none [5,4,0,1,2,3,4]]
def l99r6 : List AOper :=
  [.mk (some 24) (.bin .add (.tmp 13) (.const (.int .i64 1))) none [],.mk (some 13) (.mv (.tmp 24)) none [0]]
def l99r7 : List AOper :=
  [.mk (some 25) (.mv (.tmp 5)) none [],.mk (some 4) (.mv (.tmp 25)) none [0,0]]
def l99 : AFn :=
  (AFn.mk 26 2 (.seq (.reg l99r0) (.seq (.reg l99r1) (.seq (.seq (.reg l99r2) (.block 0 (.loop (.seq (.reg l99r3) (.seq (.cond (.tmp 14) .skip (.exit 0)) (.seq (.block 1 (.seq (.reg l99r4) (.reg l99r5))) (.reg l99r6))))))) (.seq (.reg l99r7) .ret)))) [.tmp 4])
theorem l99_eq : lowFn Try.prog 99 = some l99 := by kernel_rfl
def l100r0 : List AOper :=
  [.mk (some 2) (.mv (.const (.slice none 0 0))) none []]
def l100r1 : List AOper :=
  [.mk (some 3) (.alloc [.bool false,.bool false,.bool false,.bool false,.bool false]) none []]
def l100r2 : List AOper :=
  [.mk (some 11) (.mv (.tmp 0)) none [],.mk (some 12) (.len (.tmp 11)) none [0],.mk (some 13) (.mv (.const (.int .i64 0))) none []]
def l100r3 : List AOper :=
  [.mk (some 14) (.bin .lss (.tmp 13) (.tmp 12)) none []]
def l100r4 : List AOper :=
  [.mk (some 15) (.idxA 1 (.tmp 11) (.tmp 13)) none [],.mk (some 16) (.load false 1 (.tmp 15)) none [0],.mk (some 5) (.mv (.tmp 16)) none [1,0,1]]
def l100r5 : List AOper :=
  [.mk (some 17) (.mv (.tmp 5)) none [],.mk (some 18) (.len (.tmp 17)) none [0],.mk (some 19) (.mv (.const (.int .i64 0))) none []]
def l100r6 : List AOper :=
  [.mk (some 20) (.bin .lss (.tmp 19) (.tmp 18)) none []]
def l100r7 : List AOper :=
  [.mk (some 21) (.idxA 1 (.tmp 17) (.tmp 19)) none [],.mk (some 22) (.load false 1 (.tmp 21)) none [0],.mk (some 7) (.mv (.tmp 22)) none [1,0,1]]
def l100r8 : List AOper :=
  [.mk (some 23) (.mv (.tmp 7)) none [],.mk (some 24) (.idxP 1 5 (.tmp 3) (.tmp 23)) none [0,0],.mk none (.store 1 (.tmp 24) (.const (.bool true))) none [1,0]]
def l100r9 : List AOper :=
  [.mk (some 25) (.bin .add (.tmp 19) (.const (.int .i64 1))) none [],.mk (some 19) (.mv (.tmp 25)) none [0]]
def l100r10 : List AOper :=
  [.mk (some 26) (.bin .add (.tmp 13) (.const (.int .i64 1))) none [],.mk (some 13) (.mv (.tmp 26)) none [0]]
def l100r11 : List AOper :=
  [.mk (some 8) (.mv (.const (.slice none 0 0))) none []]
def l100r12 : List AOper :=
  [.mk (some 27) (.load true 5 (.tmp 3)) none [],.mk (some 28) (.mv (.const (.int .i64 0))) none []]
def l100r13 : List AOper :=
  [.mk (some 29) (.bin .lss (.tmp 28) (.const (.int .i64 5))) none []]
def l100r14 : List AOper :=
  [.mk (some 30) (.mv (.tmp 28)) none [],.mk (some 31) (.raw (Op.index 120 (.tmp 27) (.tmp 28))) none [],.mk (some 9) (.mv (.tmp 30)) none [0,0,1],.mk (some 10) (.mv (.tmp 31)) none [1,2,0,1,2]]
def l100r15 : List AOper :=
  [.mk (some 32) (.mv (.tmp 10)) none []]
def l100r16 : List AOper :=
  [.mk (some 33) (.mv (.tmp 8)) none [],.mk (some 34) (.mv (.tmp 9)) none [],.mk (some 35) (.bslice 1 [.int .i64 0] [(0,.tmp 34)] 1) none [1],.mk (some 36) (.append 1 (.tmp 33) (.tmp 35)) none [0,2],.mk (some 8) (.mv (.tmp 36)) none [3,3,0,1,2,3]]
def l100r17 : List AOper :=
  [.mk (some 37) (.bin .add (.tmp 28) (.const (.int .i64 1))) none [],.mk (some 28) (.mv (.tmp 37)) none [0]]
def l100r18 : List AOper :=
  [.mk (some 38) (.mv (.tmp 8)) none [],.mk (some 2) (.mv (.tmp 38)) none [0,0]]
def l100 : AFn :=
  (AFn.mk 39 1 (.seq (.reg l100r0) (.seq (.reg l100r1) (.seq (.seq (.reg l100r2) (.block 0 (.loop (.seq (.reg l100r3) (.seq (.cond (.tmp 14) .skip (.exit 0)) (.seq (.block 1 (.seq (.reg l100r4) (.seq (.reg l100r5) (.block 2 (.loop (.seq (.reg l100r6) (.seq (.cond (.tmp 20) .skip (.exit 2)) (.seq (.block 3 (.seq (.reg l100r7) (.reg l100r8))) (.reg l100r9))))))))) (.reg l100r10))))))) (.seq (.reg l100r11) (.seq (.seq (.reg l100r12) (.block 4 (.loop (.seq (.reg l100r13) (.seq (.cond (.tmp 29) .skip (.exit 4)) (.seq (.block 5 (.seq (.reg l100r14) (.seq (.reg l100r15) (.cond (.tmp 32) (.reg l100r16) .skip)))) (.reg l100r17))))))) (.seq (.reg l100r18) .ret)))))) [.tmp 2])
theorem l100_eq : lowFn Try.prog 100 = some l100 := by kernel_rfl
def l110r0 : List AOper :=
  [.mk (some 2) (.box (.tmp 0)) none [],.mk (some 4) (.mv (.const (.int .i64 0))) none []]
def l110r1 : List AOper :=
  [.mk (some 7) (.fld 0 (.tmp 2)) none [],.mk (some 8) (.load false 1 (.tmp 7)) none [0],.mk (some 5) (.mv (.tmp 8)) none [1,0,1]]
def l110r2 : List AOper :=
  [.mk (some 6) (.mv (.const (.int .i64 0))) none []]
def l110r3 : List AOper :=
  [.mk (some 9) (.mv (.tmp 6)) none [],.mk (some 10) (.mv (.tmp 1)) none [],.mk (some 11) (.len (.tmp 10)) none [1],.mk (some 12) (.bin .lss (.tmp 9) (.tmp 11)) none [0,2]]
def l110r4a : List AOper :=
  [.mk (some 15) (.mv (.tmp 5)) none [],.mk (some 16) (.mv (.tmp 1)) none [],.mk (some 17) (.mv (.tmp 6)) none [],.mk (some 18) (.idxA 1 (.tmp 16) (.tmp 17)) none [1,2],.mk (some 19) (.load false 1 (.tmp 18)) none [3],.mk (some 20) (.fld 2 (.tmp 2)) none [],.mk (some 21) (.load false 1 (.tmp 20)) none [5],.mk (some 22) (.mv (.tmp 6)) none [],.mk (some 23) (.idxA 1 (.tmp 21) (.tmp 22)) none [6,7],.mk (some 24) (.load false 1 (.tmp 23)) none [8],.mk (some 25) (.bin .mul (.tmp 19) (.tmp 24)) none [4,9]]
def l110r4b : List AOper :=
  [.mk (some 26) (.bin .add (.tmp 15) (.tmp 25)) none [0,10],.mk (some 5) (.mv (.tmp 26)) none [11,0,1,2,3,4,5,6,7,8,9,10,11]]
def l110r4 : List AOper := l110r4a ++ l110r4b
def l110r5 : List AOper :=
  [.mk (some 13) (.mv (.tmp 6)) none [],.mk (some 14) (.bin .add (.tmp 13) (.const (.int .i64 1))) none [0],.mk (some 6) (.mv (.tmp 14)) none [1,0,1]]
def l110r6 : List AOper :=
  [.mk (some 27) (.mv (.tmp 5)) none [],.mk (some 4) (.mv (.tmp 27)) none [0,0]]
def l110 : AFn :=
  (AFn.mk 28 2 (.seq (.reg l110r0) (.seq (.reg l110r1) (.seq (.seq (.reg l110r2) (.block 0 (.loop (.seq (.seq (.reg l110r3) (.cond (.tmp 12) .skip (.exit 0))) (.seq (.block 1 (.draw l110r4)) (.reg l110r5)))))) (.seq (.reg l110r6) .ret)))) [.tmp 4])
theorem l110_eq : lowFn Try.prog 110 = some l110 := by kernel_rfl
def l111r0 : List AOper :=
  [.mk (some 4) (.mv (.const (.slice none 0 0))) none []]
def l111r1 : List AOper :=
  [.mk (some 7) (.mv (.tmp 0)) none [],.mk (some 8) (.len (.tmp 7)) none [0],.mk (some 9) (.mkslice 1 [.int .i64 0] (.tmp 8) (.tmp 8)) none [1,1],.mk (some 5) (.mv (.tmp 9)) none [2,0,1,2]]
def l111r2 : List AOper :=
  [.mk (some 10) (.mv (.tmp 0)) none [],.mk (some 11) (.len (.tmp 10)) none [0],.mk (some 12) (.bin .sub (.tmp 11) (.const (.int .i64 1))) none [1],.mk (some 6) (.mv (.tmp 12)) none [2,0,1,2]]
def l111r3 : List AOper :=
  [.mk (some 13) (.mv (.tmp 6)) none [],.mk (some 14) (.bin .geq (.tmp 13) (.const (.int .i64 0))) none [0]]
def l111r4 : List AOper :=
  [.mk (some 17) (.mv (.tmp 5)) none [],.mk (some 18) (.mv (.tmp 6)) none [],.mk (some 19) (.mv (.tmp 1)) none [],.mk (some 20) (.mv (.tmp 0)) none [],.mk (some 21) (.mv (.tmp 6)) none [],.mk (some 22) (.idxA 1 (.tmp 20) (.tmp 21)) none [3,4],.mk (some 23) (.load false 1 (.tmp 22)) none [5],.mk (some 24) (.bin .rem (.tmp 19) (.tmp 23)) none [2,6],.mk (some 25) (.idxA 1 (.tmp 17) (.tmp 18)) none [0,1,0,1,2,3,4,5,6,7],.mk none (.store 1 (.tmp 25) (.tmp 24)) none [8,7,0,1,2,3,4,5,6,7]]
def l111r5 : List AOper :=
  [.mk (some 26) (.mv (.tmp 1)) none [],.mk (some 27) (.mv (.tmp 0)) none [],.mk (some 28) (.mv (.tmp 6)) none [],.mk (some 29) (.idxA 1 (.tmp 27) (.tmp 28)) none [1,2],.mk (some 30) (.load false 1 (.tmp 29)) none [3],.mk (some 31) (.bin .quo (.tmp 26) (.tmp 30)) none [0,4],.mk (some 1) (.mv (.tmp 31)) none [5,0,1,2,3,4,5]]
def l111r6 : List AOper :=
  [.mk (some 15) (.mv (.tmp 6)) none [],.mk (some 16) (.bin .sub (.tmp 15) (.const (.int .i64 1))) none [0],.mk (some 6) (.mv (.tmp 16)) none [1,0,1]]
def l111r7 : List AOper :=
  [.mk (some 32) (.mv (.tmp 5)) none [],.mk (some 4) (.mv (.tmp 32)) none [0,0]]
def l111 : AFn :=
  (AFn.mk 33 2 (.seq (.reg l111r0) (.seq (.reg l111r1) (.seq (.seq (.reg l111r2) (.block 0 (.loop (.seq (.seq (.reg l111r3) (.cond (.tmp 14) .skip (.exit 0))) (.seq (.block 1 (.seq (.reg l111r4) (.reg l111r5))) (.reg l111r6)))))) (.seq (.reg l111r7) .ret)))) [.tmp 4])
theorem l111_eq : lowFn Try.prog 111 = some l111 := by kernel_rfl
def l112r0 : List AOper :=
  [.mk (some 2) (.mv (.const (.bool false))) none []]
def l112r1 : List AOper :=
  [.mk (some 3) (.mv (.tmp 0)) none [],.mk (some 4) (.bin .leq (.const (.int .i64 0)) (.tmp 3)) none [0],.mk (some 5) (.mv (.tmp 4)) none [1],.mk (some 6) (.mv (.tmp 0)) (some (5,true)) [2],.mk (some 7) (.bin .leq (.tmp 6) (.const (.int .i64 60))) (some (5,true)) [3,2],.mk (some 8) (.pick (.tmp 5) (.tmp 7) (.const (.bool false))) none [2,4],.mk (some 2) (.mv (.tmp 8)) none [5,2,0,1,2,3,4,5]]
def l112 : AFn :=
  (AFn.mk 9 1 (.seq (.reg l112r0) (.seq (.reg l112r1) .ret)) [.tmp 2])
theorem l112_eq : lowFn Try.prog 112 = some l112 := by kernel_rfl
def l113r0 : List AOper :=
  [.mk (some 2) (.mv (.const (.bool false))) none []]
def l113r1 : List AOper :=
  [.mk (some 5) (.mv (.tmp 0)) none [],.mk (some 6) (.len (.tmp 5)) none [0],.mk (some 7) (.mv (.const (.int .i64 0))) none []]
def l113r2 : List AOper :=
  [.mk (some 8) (.bin .lss (.tmp 7) (.tmp 6)) none []]
def l113r3 : List AOper :=
  [.mk (some 9) (.idxA 1 (.tmp 5) (.tmp 7)) none [],.mk (some 10) (.load false 1 (.tmp 9)) none [0],.mk (some 4) (.mv (.tmp 10)) none [1,0,1]]
def l113r4 : List AOper :=
  [.mk (some 11) (.mv (.tmp 4)) none [],.mk (some 12) (.call 80 [.tmp 11,.const (.int .i64 255)]) none [0],.mk (some 13) (.un .not (.tmp 12)) none [1]]
def l113r5 : List AOper :=
  [.mk (some 2) (.mv (.const (.bool false))) none []]
def l113r6 : List AOper :=
  [.mk (some 14) (.bin .add (.tmp 7) (.const (.int .i64 1))) none [],.mk (some 7) (.mv (.tmp 14)) none [0]]
def l113r7 : List AOper :=
  [.mk (some 2) (.mv (.const (.bool true))) none []]
def l113 : AFn :=
  (AFn.mk 15 1 (.seq (.reg l113r0) (.seq (.seq (.reg l113r1) (.block 0 (.loop (.seq (.reg l113r2) (.seq (.cond (.tmp 8) .skip (.exit 0)) (.seq (.block 1 (.seq (.reg l113r3) (.seq (.reg l113r4) (.cond (.tmp 13) (.seq (.reg l113r5) .ret) .skip)))) (.reg l113r6))))))) (.seq (.reg l113r7) .ret))) [.tmp 2])
theorem l113_eq : lowFn Try.prog 113 = some l113 := by kernel_rfl
def l114r0 : List AOper :=
  [.mk (some 1) (.box (.tmp 0)) none [],.mk (some 2) (.mv (.const (.bool false))) none []]
def l114r1 : List AOper :=
  [.mk (some 5) (.fld 1 (.tmp 1)) none [],.mk (some 6) (.load false 1 (.tmp 5)) none [0],.mk (some 7) (.call 50 [.tmp 6]) none [1],.mk (some 8) (.un .not (.tmp 7)) none [2],.mk (some 9) (.mv (.tmp 8)) none [3,2],.mk (some 10) (.fld 2 (.tmp 1)) (some (9,false)) [4],.mk (some 11) (.load false 1 (.tmp 10)) (some (9,false)) [5,4],.mk (some 12) (.fld 1 (.tmp 1)) (some (9,false)) [4],.mk (some 13) (.load false 1 (.tmp 12)) (some (9,false)) [7,4],.mk (some 14) (.len (.tmp 13)) (some (9,false)) [8,4],.mk (some 15) (.call 127 [.tmp 11,.tmp 14]) (some (9,false)) [6,9,4,4],.mk (some 16) (.un .not (.tmp 15)) (some (9,false)) [10,4],.mk (some 17) (.pick (.tmp 9) (.const (.bool true)) (.tmp 16)) none [4,11],.mk (some 18) (.mv (.tmp 17)) none [12,10],.mk (some 19) (.fld 0 (.tmp 1)) (some (18,false)) [13],.mk (some 20) (.load false 1 (.tmp 19)) (some (18,false)) [14,13],.mk (some 21) (.call 80 [.tmp 20,.const (.int .i64 60)]) (some (18,false)) [15,13,13],.mk (some 22) (.un .not (.tmp 21)) (some (18,false)) [16,13],.mk (some 23) (.pick (.tmp 18) (.const (.bool true)) (.tmp 22)) none [13,17]]
def l114r2 : List AOper :=
  [.mk (some 2) (.mv (.const (.bool false))) none []]
def l114r3 : List AOper :=
  [.mk (some 25) (.load true 3 (.tmp 1)) none [],.mk (some 26) (.call 115 [.tmp 25]) none [0],.mk (some 24) (.mv (.tmp 26)) none [1],.mk (some 27) (.extract (.tmp 24) 0) none [2],.mk (some 28) (.extract (.tmp 24) 1) none [2],.mk (some 3) (.mv (.tmp 27)) none [3,1,0,1,2,3],.mk (some 4) (.mv (.tmp 28)) none [4,5,0,1,2,3,4,5]]
def l114r4 : List AOper :=
  [.mk (some 29) (.load true 3 (.tmp 1)) none [],.mk (some 30) (.call 116 [.tmp 29]) none [0],.mk (some 31) (.bin .eql (.tmp 30) (.const (.int .i64 0))) none [1],.mk (some 32) (.mv (.tmp 31)) none [2,1],.mk (some 33) (.mv (.tmp 3)) (some (32,false)) [3],.mk (some 34) (.bin .geq (.tmp 33) (.const (.int .i64 0))) (some (32,false)) [4,3],.mk (some 35) (.mv (.tmp 34)) (some (32,false)) [5,3,3],.mk (some 36) (.mv (.tmp 4)) (some (35,true)) [6],.mk (some 37) (.bin .lss (.tmp 36) (.const (.int .i64 60))) (some (35,true)) [7,6],.mk (some 38) (.pick (.tmp 35) (.tmp 37) (.const (.bool false))) (some (32,false)) [6,8,3],.mk (some 39) (.pick (.tmp 32) (.const (.bool true)) (.tmp 38)) none [3,9],.mk (some 2) (.mv (.tmp 39)) none [10,6,0,1,2,3,4,5,6,7,8,9,10]]
def l114 : AFn :=
  (AFn.mk 40 1 (.seq (.reg l114r0) (.seq (.seq (.reg l114r1) (.cond (.tmp 23) (.seq (.reg l114r2) .ret) .skip)) (.seq (.reg l114r3) (.seq (.reg l114r4) .ret)))) [.tmp 2])
theorem l114_eq : lowFn Try.prog 114 = some l114 := by kernel_rfl
def l115r0 : List AOper :=
  [.mk (some 1) (.box (.tmp 0)) none [],.mk (some 2) (.mv (.const (.int .i64 0))) none [],.mk (some 3) (.mv (.const (.int .i64 0))) none [1]]
def l115r1 : List AOper :=
  [.mk (some 9) (.load true 3 (.tmp 1)) none [],.mk (some 10) (.call 116 [.tmp 9]) none [0],.mk (some 11) (.bin .eql (.tmp 10) (.const (.int .i64 0))) none [1]]
def l115r2 : List AOper :=
  [.mk (some 2) (.mv (.const (.int .i64 (-1)))) none [],.mk (some 3) (.mv (.const (.int .i64 (-1)))) none [0,0]]
def l115r3a : List AOper :=
  [.mk (some 12) (.fld 0 (.tmp 1)) none [],.mk (some 13) (.load false 1 (.tmp 12)) none [0],.mk (some 14) (.fld 0 (.tmp 1)) none [],.mk (some 15) (.load false 1 (.tmp 14)) none [2],.mk (some 4) (.mv (.tmp 13)) none [1,0,1]]
def l115r3b : List AOper :=
  [.mk (some 5) (.mv (.tmp 15)) none [3,4,0,1,2,3,4]]
def l115r3 : List AOper := l115r3a ++ l115r3b
def l115r4 : List AOper :=
  [.mk (some 16) (.fld 2 (.tmp 1)) none [],.mk (some 17) (.load false 1 (.tmp 16)) none [0],.mk (some 18) (.len (.tmp 17)) none [1],.mk (some 19) (.mv (.const (.int .i64 0))) none []]
def l115r5 : List AOper :=
  [.mk (some 20) (.bin .lss (.tmp 19) (.tmp 18)) none []]
def l115r6 : List AOper :=
  [.mk (some 21) (.mv (.tmp 19)) none [],.mk (some 22) (.idxA 1 (.tmp 17) (.tmp 19)) none [],.mk (some 23) (.load false 1 (.tmp 22)) none [1],.mk (some 6) (.mv (.tmp 21)) none [0,0,1,2],.mk (some 7) (.mv (.tmp 23)) none [2,3,0,1,2,3]]
def l115r7 : List AOper :=
  [.mk (some 24) (.fld 1 (.tmp 1)) none [],.mk (some 25) (.load false 1 (.tmp 24)) none [0],.mk (some 26) (.mv (.tmp 6)) none [],.mk (some 27) (.idxA 1 (.tmp 25) (.tmp 26)) none [1,2],.mk (some 28) (.load false 1 (.tmp 27)) none [3],.mk (some 29) (.bin .sub (.tmp 28) (.const (.int .i64 1))) none [4],.mk (some 30) (.mv (.tmp 7)) none [],.mk (some 31) (.bin .mul (.tmp 29) (.tmp 30)) none [5,6],.mk (some 8) (.mv (.tmp 31)) none [7,0,1,2,3,4,5,6,7]]
def l115r8 : List AOper :=
  [.mk (some 32) (.mv (.tmp 4)) none [],.mk (some 33) (.mv (.tmp 8)) none [],.mk (some 34) (.minmax false (.tmp 33) (.const (.int .i64 0))) none [1],.mk (some 35) (.bin .add (.tmp 32) (.tmp 34)) none [0,2],.mk (some 4) (.mv (.tmp 35)) none [3,0,1,2,3]]
def l115r9 : List AOper :=
  [.mk (some 36) (.mv (.tmp 5)) none [],.mk (some 37) (.mv (.tmp 8)) none [],.mk (some 38) (.minmax true (.tmp 37) (.const (.int .i64 0))) none [1],.mk (some 39) (.bin .add (.tmp 36) (.tmp 38)) none [0,2],.mk (some 5) (.mv (.tmp 39)) none [3,0,1,2,3]]
def l115r10 : List AOper :=
  [.mk (some 40) (.bin .add (.tmp 19) (.const (.int .i64 1))) none [],.mk (some 19) (.mv (.tmp 40)) none [0]]
def l115r11 : List AOper :=
  [.mk (some 41) (.mv (.tmp 4)) none [],.mk (some 42) (.mv (.tmp 5)) none [],.mk (some 2) (.mv (.tmp 41)) none [0,0],.mk (some 3) (.mv (.tmp 42)) none [1,2,0,1,2]]
def l115 : AFn :=
  (AFn.mk 43 1 (.seq (.reg l115r0) (.seq (.seq (.reg l115r1) (.cond (.tmp 11) (.seq (.reg l115r2) .ret) .skip)) (.seq (.draw l115r3) (.seq (.seq (.reg l115r4) (.block 0 (.loop (.seq (.reg l115r5) (.seq (.cond (.tmp 20) .skip (.exit 0)) (.seq (.block 1 (.seq (.reg l115r6) (.seq (.reg l115r7) (.seq (.reg l115r8) (.reg l115r9))))) (.reg l115r10))))))) (.seq (.reg l115r11) .ret))))) [.tmp 2,.tmp 3])
theorem l115_eq : lowFn Try.prog 115 = some l115 := by kernel_rfl
def l116r0 : List AOper :=
  [.mk (some 1) (.box (.tmp 0)) none [],.mk (some 2) (.mv (.const (.int .i64 0))) none []]
def l116r1 : List AOper :=
  [.mk (some 3) (.fld 1 (.tmp 1)) none [],.mk (some 4) (.load false 1 (.tmp 3)) none [0],.mk (some 5) (.call 51 [.tmp 4]) none [1],.mk (some 2) (.mv (.tmp 5)) none [2,2,0,1,2]]
def l116 : AFn :=
  (AFn.mk 6 1 (.seq (.reg l116r0) (.seq (.reg l116r1) .ret)) [.tmp 2])
theorem l116_eq : lowFn Try.prog 116 = some l116 := by kernel_rfl
def l117r0 : List AOper :=
  [.mk (some 2) (.box (.tmp 0)) none [],.mk (some 3) (.box (.tmp 1)) none [],.mk (some 4) (.mv (.const (.int .i64 0))) none []]
def l117r1a : List AOper :=
  [.mk (some 5) (.fld 0 (.tmp 2)) none [],.mk (some 6) (.load false 1 (.tmp 5)) none [0],.mk (some 7) (.load true 4 (.tmp 3)) none [],.mk (some 8) (.fld 2 (.tmp 2)) none [],.mk (some 9) (.load false 1 (.tmp 8)) none [3],.mk (some 10) (.call 128 [.tmp 7,.tmp 9]) none [2,4]]
def l117r1b : List AOper :=
  [.mk (some 11) (.bin .add (.tmp 6) (.tmp 10)) none [1,5],.mk (some 4) (.mv (.tmp 11)) none [6,5,0,1,2,3,4,5,6]]
def l117r1 : List AOper := l117r1a ++ l117r1b
def l117 : AFn :=
  (AFn.mk 12 2 (.seq (.reg l117r0) (.seq (.draw l117r1) .ret)) [.tmp 4])
theorem l117_eq : lowFn Try.prog 117 = some l117 := by kernel_rfl
def l118r0 : List AOper :=
  [.mk (some 4) (.alloc [.int .i64 0,.int .i64 0,.int .i64 0,.int .i64 0]) none []]
def l118r1 : List AOper :=
  [.mk (some 5) (.alloc [.int .i64 0,.int .i64 0,.int .i64 0,.int .i64 0]) none []]
def l118r2 : List AOper :=
  [.mk (some 7) (.mv (.tmp 0)) none [],.mk (some 8) (.len (.tmp 7)) none [0],.mk (some 9) (.bin .sub (.tmp 8) (.const (.int .i64 1))) none [1],.mk (some 6) (.mv (.tmp 9)) none [2,0,1,2]]
def l118r3 : List AOper :=
  [.mk (some 10) (.mv (.tmp 6)) none [],.mk (some 11) (.bin .geq (.tmp 10) (.const (.int .i64 0))) none [0]]
def l118r4 : List AOper :=
  [.mk (some 14) (.mv (.tmp 6)) none [],.mk (some 15) (.mv (.tmp 1)) none [],.mk (some 16) (.mv (.tmp 0)) none [],.mk (some 17) (.mv (.tmp 6)) none [],.mk (some 18) (.idxA 1 (.tmp 16) (.tmp 17)) none [2,3],.mk (some 19) (.load false 1 (.tmp 18)) none [4],.mk (some 20) (.bin .rem (.tmp 15) (.tmp 19)) none [1,5],.mk (some 21) (.idxP 1 4 (.tmp 5) (.tmp 14)) none [0,0,1,2,3,4,5,6],.mk none (.store 1 (.tmp 21) (.tmp 20)) none [7,6,0,1,2,3,4,5,6]]
def l118r5 : List AOper :=
  [.mk (some 22) (.mv (.tmp 1)) none [],.mk (some 23) (.mv (.tmp 0)) none [],.mk (some 24) (.mv (.tmp 6)) none [],.mk (some 25) (.idxA 1 (.tmp 23) (.tmp 24)) none [1,2],.mk (some 26) (.load false 1 (.tmp 25)) none [3],.mk (some 27) (.bin .quo (.tmp 22) (.tmp 26)) none [0,4],.mk (some 1) (.mv (.tmp 27)) none [5,0,1,2,3,4,5]]
def l118r6 : List AOper :=
  [.mk (some 12) (.mv (.tmp 6)) none [],.mk (some 13) (.bin .sub (.tmp 12) (.const (.int .i64 1))) none [0],.mk (some 6) (.mv (.tmp 13)) none [1,0,1]]
def l118r7 : List AOper :=
  [.mk (some 28) (.load true 4 (.tmp 5)) none [],.mk none (.store 4 (.tmp 4) (.tmp 28)) none [0,0]]
def l118 : AFn :=
  (AFn.mk 29 2 (.seq (.reg l118r0) (.seq (.reg l118r1) (.seq (.seq (.reg l118r2) (.block 0 (.loop (.seq (.seq (.reg l118r3) (.cond (.tmp 11) .skip (.exit 0))) (.seq (.block 1 (.seq (.reg l118r4) (.reg l118r5))) (.reg l118r6)))))) (.seq (.reg l118r7) .ret)))) [.cell 4 true 4])
theorem l118_eq : lowFn Try.prog 118 = some l118 := by kernel_rfl
def l127r0 : List AOper :=
  [.mk (some 4) (.mv (.const (.bool false))) none []]
def l127r1 : List AOper :=
  [.mk (some 7) (.mv (.tmp 0)) none [],.mk (some 8) (.len (.tmp 7)) none [0],.mk (some 9) (.mv (.tmp 1)) none [],.mk (some 10) (.bin .neq (.tmp 8) (.tmp 9)) none [1,2]]
def l127r2 : List AOper :=
  [.mk (some 4) (.mv (.const (.bool false))) none []]
def l127r3 : List AOper :=
  [.mk (some 11) (.mv (.tmp 0)) none [],.mk (some 12) (.len (.tmp 11)) none [0],.mk (some 13) (.mv (.const (.int .i64 0))) none []]
def l127r4 : List AOper :=
  [.mk (some 14) (.bin .lss (.tmp 13) (.tmp 12)) none []]
def l127r5 : List AOper :=
  [.mk (some 15) (.idxA 1 (.tmp 11) (.tmp 13)) none [],.mk (some 16) (.load false 1 (.tmp 15)) none [0],.mk (some 6) (.mv (.tmp 16)) none [1,0,1]]
def l127r6 : List AOper :=
  [.mk (some 17) (.mv (.tmp 6)) none [],.mk (some 18) (.call 52 [.tmp 17,.const (.int .i64 60)]) none [0],.mk (some 19) (.un .not (.tmp 18)) none [1]]
def l127r7 : List AOper :=
  [.mk (some 4) (.mv (.const (.bool false))) none []]
def l127r8 : List AOper :=
  [.mk (some 20) (.bin .add (.tmp 13) (.const (.int .i64 1))) none [],.mk (some 13) (.mv (.tmp 20)) none [0]]
def l127r9 : List AOper :=
  [.mk (some 4) (.mv (.const (.bool true))) none []]
def l127 : AFn :=
  (AFn.mk 21 2 (.seq (.reg l127r0) (.seq (.seq (.reg l127r1) (.cond (.tmp 10) (.seq (.reg l127r2) .ret) .skip)) (.seq (.seq (.reg l127r3) (.block 0 (.loop (.seq (.reg l127r4) (.seq (.cond (.tmp 14) .skip (.exit 0)) (.seq (.block 1 (.seq (.reg l127r5) (.seq (.reg l127r6) (.cond (.tmp 19) (.seq (.reg l127r7) .ret) .skip)))) (.reg l127r8))))))) (.seq (.reg l127r9) .ret)))) [.tmp 4])
theorem l127_eq : lowFn Try.prog 127 = some l127 := by kernel_rfl
def l128r0 : List AOper :=
  [.mk (some 2) (.box (.tmp 0)) none [],.mk (some 4) (.mv (.const (.int .i64 0))) none []]
def l128r1 : List AOper :=
  [.mk (some 5) (.mv (.const (.int .i64 0))) none []]
def l128r2 : List AOper :=
  [.mk (some 8) (.mv (.tmp 1)) none [],.mk (some 9) (.len (.tmp 8)) none [0],.mk (some 10) (.mv (.const (.int .i64 0))) none []]
def l128r3 : List AOper :=
  [.mk (some 11) (.bin .lss (.tmp 10) (.tmp 9)) none []]
def l128r4 : List AOper :=
  [.mk (some 12) (.mv (.tmp 10)) none [],.mk (some 13) (.idxA 1 (.tmp 8) (.tmp 10)) none [],.mk (some 14) (.load false 1 (.tmp 13)) none [1],.mk (some 6) (.mv (.tmp 12)) none [0,0,1,2],.mk (some 7) (.mv (.tmp 14)) none [2,3,0,1,2,3]]
def l128r5 : List AOper :=
  [.mk (some 15) (.mv (.tmp 5)) none [],.mk (some 16) (.mv (.tmp 6)) none [],.mk (some 17) (.idxP 1 4 (.tmp 2) (.tmp 16)) none [1],.mk (some 18) (.load false 1 (.tmp 17)) none [2],.mk (some 19) (.mv (.tmp 7)) none [],.mk (some 20) (.bin .mul (.tmp 18) (.tmp 19)) none [3,4],.mk (some 21) (.bin .add (.tmp 15) (.tmp 20)) none [0,5],.mk (some 5) (.mv (.tmp 21)) none [6,0,1,2,3,4,5,6]]
def l128r6 : List AOper :=
  [.mk (some 22) (.bin .add (.tmp 10) (.const (.int .i64 1))) none [],.mk (some 10) (.mv (.tmp 22)) none [0]]
def l128r7 : List AOper :=
  [.mk (some 23) (.mv (.tmp 5)) none [],.mk (some 4) (.mv (.tmp 23)) none [0,0]]
def l128 : AFn :=
  (AFn.mk 24 2 (.seq (.reg l128r0) (.seq (.reg l128r1) (.seq (.seq (.reg l128r2) (.block 0 (.loop (.seq (.reg l128r3) (.seq (.cond (.tmp 11) .skip (.exit 0)) (.seq (.block 1 (.seq (.reg l128r4) (.reg l128r5))) (.reg l128r6))))))) (.seq (.reg l128r7) .ret)))) [.tmp 4])
theorem l128_eq : lowFn Try.prog 128 = some l128 := by kernel_rfl
end Go.Proofs.Ytajhakhncalabaa
