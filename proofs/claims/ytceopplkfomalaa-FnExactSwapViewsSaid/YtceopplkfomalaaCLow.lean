import Derived.Test.YtceopplkfomalaaCW3
import Derived.Test.YtceopplkfomalaaProg
import Derived.KernelRfl
set_option maxRecDepth 100000
namespace Go.Proofs.Ytceopplkfomalaa
open Vw Go
instance globs : Inhabited GlobT := ⟨⟨[]⟩⟩
attribute [push_cast] Bool.false_eq_true List.length_replicate
attribute [bitvec_to_nat] decide_eq_true_eq decide_eq_false_iff_not Bool.not_eq_true' Bool.not_eq_false' Bool.and_eq_true Bool.or_eq_true Bool.and_eq_false_iff Bool.or_eq_false_iff Int.not_le Int.not_lt bne_iff_ne ne_eq beq_iff_eq Bool.not_eq_true Bool.not_eq_false
theorem sd {P : Prop} (h : P := by first | assumption | rfl | omega | (simp <;> omega) | (simp_all <;> omega)) : P := h
def l7r0 : List AOper :=
  [.mk (some 4) (.box (.tmp 1)) none [],.mk (some 5) (.box (.tmp 2)) none [],.mk (some 6) (.mv (.const (.bool false))) none []]
def l7r1 : List AOper :=
  [.mk (some 20) (.mv (.tmp 0)) none [],.mk (some 21) (.len (.tmp 20)) none [0],.mk (some 22) (.bin .gtr (.tmp 21) (.const (.int .i64 1048576))) none [1]]
def l7r2 : List AOper :=
  [.mk (some 6) (.mv (.const (.bool true))) none []]
def l7r3 : List AOper :=
  [.mk (some 7) (.mv (.const (.int .i64 1048576))) none []]
def l7r4 : List AOper :=
  [.mk (some 23) (.load true 3 (.tmp 4)) none [],.mk (some 24) (.mv (.tmp 7)) none [],.mk (some 25) (.call 35 [.tmp 23,.tmp 24]) none [0,1],.mk (some 7) (.mv (.tmp 25)) none [2,2,0,1,2]]
def l7r5 : List AOper :=
  [.mk (some 26) (.mv (.tmp 7)) none [],.mk (some 27) (.bin .lss (.tmp 26) (.const (.int .i64 0))) none [0]]
def l7r6 : List AOper :=
  [.mk (some 6) (.mv (.const (.bool true))) none []]
def l7r7 : List AOper :=
  [.mk (some 28) (.load true 3 (.tmp 5)) none [],.mk (some 29) (.mv (.tmp 7)) none [],.mk (some 30) (.call 35 [.tmp 28,.tmp 29]) none [0,1],.mk (some 7) (.mv (.tmp 30)) none [2,2,0,1,2]]
def l7r8 : List AOper :=
  [.mk (some 31) (.mv (.tmp 7)) none [],.mk (some 32) (.bin .lss (.tmp 31) (.const (.int .i64 0))) none [0]]
def l7r9 : List AOper :=
  [.mk (some 6) (.mv (.const (.bool true))) none []]
def l7r10a : List AOper :=
  [.mk (some 34) (.mv (.tmp 0)) none [],.mk (some 35) (.call 37 [.tmp 34]) none [0],.mk (some 36) (.load true 3 (.tmp 4)) none [],.mk (some 37) (.call 38 [.tmp 36]) none [2,1],.mk (some 38) (.load true 3 (.tmp 5)) none [],.mk (some 39) (.call 38 [.tmp 38]) none [4,3],.mk (some 40) (.call 36 [.tmp 35,.tmp 37,.tmp 39]) none [1,3,5,5],.mk (some 33) (.mv (.tmp 40)) none [6],.mk (some 41) (.extract (.tmp 33) 0) none [7],.mk (some 42) (.extract (.tmp 33) 1) none [7],.mk (some 8) (.mv (.tmp 41)) none [8,6,0,1,2,3,4,5,6,7,8]]
def l7r10b : List AOper :=
  [.mk (some 9) (.mv (.tmp 42)) none [9,10,0,1,2,3,4,5,6,7,8,9,10]]
def l7r10 : List AOper := l7r10a ++ l7r10b
def l7r11 : List AOper :=
  [.mk (some 43) (.mv (.tmp 0)) none [],.mk (some 44) (.call 37 [.tmp 43]) none [0],.mk (some 10) (.mv (.tmp 44)) none [1,1,0,1]]
def l7r12 : List AOper :=
  [.mk (some 45) (.load true 3 (.tmp 4)) none [],.mk (some 46) (.call 38 [.tmp 45]) none [0],.mk (some 11) (.alloc [.int .i64 0,.slice none 0 0,.slice none 0 0]) none [],.mk none (.store 3 (.tmp 11) (.tmp 46)) none [2,1,1,0,1,2]]
def l7r13 : List AOper :=
  [.mk (some 47) (.load true 3 (.tmp 5)) none [],.mk (some 48) (.call 38 [.tmp 47]) none [0],.mk (some 12) (.alloc [.int .i64 0,.slice none 0 0,.slice none 0 0]) none [],.mk none (.store 3 (.tmp 12) (.tmp 48)) none [2,1,1,0,1,2]]
def l7r14 : List AOper :=
  [.mk (some 50) (.mv (.tmp 10)) none [],.mk (some 51) (.load true 3 (.tmp 11)) none [],.mk (some 52) (.load true 3 (.tmp 12)) none [],.mk (some 53) (.call 39 [.tmp 50,.tmp 51,.tmp 52]) none [0,1,2],.mk (some 49) (.mv (.tmp 53)) none [3],.mk (some 54) (.extract (.tmp 49) 0) none [4],.mk (some 55) (.extract (.tmp 49) 1) none [4],.mk (some 13) (.mv (.tmp 54)) none [5,3,0,1,2,3,4,5],.mk (some 14) (.mv (.tmp 55)) none [6,7,0,1,2,3,4,5,6,7]]
def l7r15 : List AOper :=
  [.mk (some 56) (.mv (.tmp 13)) none [],.mk (some 57) (.mv (.tmp 8)) none [],.mk (some 58) (.call 40 [.tmp 56,.tmp 57]) none [0,1],.mk (some 59) (.un .not (.tmp 58)) none [2],.mk (some 60) (.mv (.tmp 59)) none [3,2],.mk (some 61) (.mv (.tmp 14)) (some (60,false)) [4],.mk (some 62) (.mv (.tmp 9)) (some (60,false)) [4],.mk (some 63) (.binB .neq (.tmp 61) (.tmp 62)) (some (60,false)) [5,6,4],.mk (some 64) (.pick (.tmp 60) (.const (.bool true)) (.tmp 63)) none [4,7]]
def l7r16 : List AOper :=
  [.mk (some 6) (.mv (.const (.bool false))) none []]
def l7r17 : List AOper :=
  [.mk (some 65) (.mv (.tmp 10)) none [],.mk (some 66) (.mv (.tmp 0)) none [],.mk (some 67) (.call 37 [.tmp 66]) none [1],.mk (some 68) (.call 40 [.tmp 65,.tmp 67]) none [0,2,2],.mk (some 69) (.un .not (.tmp 68)) none [3]]
def l7r18 : List AOper :=
  [.mk (some 6) (.mv (.const (.bool false))) none []]
def l7r19a : List AOper :=
  [.mk (some 70) (.load true 3 (.tmp 11)) none [],.mk (some 71) (.load true 3 (.tmp 4)) none [],.mk (some 72) (.call 38 [.tmp 71]) none [1]]
def l7r19b : List AOper :=
  [.mk (some 73) (.call 41 [.tmp 70,.tmp 72]) none [0,2,2],.mk (some 74) (.un .not (.tmp 73)) none [3]]
def l7r19 : List AOper := l7r19a ++ l7r19b
def l7r20 : List AOper :=
  [.mk (some 6) (.mv (.const (.bool false))) none []]
def l7r21a : List AOper :=
  [.mk (some 75) (.load true 3 (.tmp 12)) none [],.mk (some 76) (.load true 3 (.tmp 5)) none [],.mk (some 77) (.call 38 [.tmp 76]) none [1]]
def l7r21b : List AOper :=
  [.mk (some 78) (.call 41 [.tmp 75,.tmp 77]) none [0,2,2],.mk (some 79) (.un .not (.tmp 78)) none [3]]
def l7r21 : List AOper := l7r21a ++ l7r21b
def l7r22 : List AOper :=
  [.mk (some 6) (.mv (.const (.bool false))) none []]
def l7r23 : List AOper :=
  [.mk (some 15) (.mv (.const (.int .i64 1))) none []]
def l7r24 : List AOper :=
  [.mk (some 80) (.mv (.tmp 10)) none [],.mk (some 81) (.mv (.tmp 15)) none [],.mk (some 82) (.call 42 [.tmp 80,.tmp 81]) none [0,1],.mk (some 15) (.mv (.tmp 82)) none [2,2,0,1,2]]
def l7r25 : List AOper :=
  [.mk (some 83) (.load true 3 (.tmp 11)) none [],.mk (some 84) (.mv (.tmp 15)) none [],.mk (some 85) (.call 43 [.tmp 83,.tmp 84]) none [0,1],.mk (some 15) (.mv (.tmp 85)) none [2,2,0,1,2]]
def l7r26 : List AOper :=
  [.mk (some 86) (.load true 3 (.tmp 12)) none [],.mk (some 87) (.mv (.tmp 15)) none [],.mk (some 88) (.call 43 [.tmp 86,.tmp 87]) none [0,1],.mk (some 15) (.mv (.tmp 88)) none [2,2,0,1,2]]
def l7r27 : List AOper :=
  [.mk (some 89) (.mv (.tmp 15)) none [],.mk (some 90) (.bin .lss (.tmp 89) (.const (.int .i64 0))) none [0],.mk (some 91) (.mv (.tmp 90)) none [1],.mk (some 92) (.mv (.tmp 13)) (some (91,false)) [2],.mk (some 93) (.mv (.tmp 8)) (some (91,false)) [2],.mk (some 94) (.call 40 [.tmp 92,.tmp 93]) (some (91,false)) [3,4,2,2],.mk (some 95) (.un .not (.tmp 94)) (some (91,false)) [5,2],.mk (some 96) (.pick (.tmp 91) (.const (.bool true)) (.tmp 95)) none [2,6],.mk (some 97) (.mv (.tmp 96)) none [7,5],.mk (some 98) (.mv (.tmp 14)) (some (97,false)) [8],.mk (some 99) (.mv (.tmp 9)) (some (97,false)) [8],.mk (some 100) (.binB .neq (.tmp 98) (.tmp 99)) (some (97,false)) [9,10,8],.mk (some 101) (.pick (.tmp 97) (.const (.bool true)) (.tmp 100)) none [8,11]]
def l7r28 : List AOper :=
  [.mk (some 6) (.mv (.const (.bool false))) none []]
def l7r29 : List AOper :=
  [.mk (some 16) (.mv (.const (.int .i64 1))) none []]
def l7r30 : List AOper :=
  [.mk (some 102) (.mv (.tmp 13)) none [],.mk (some 103) (.mv (.tmp 16)) none [],.mk (some 104) (.call 42 [.tmp 102,.tmp 103]) none [0,1],.mk (some 16) (.mv (.tmp 104)) none [2,2,0,1,2]]
def l7r31 : List AOper :=
  [.mk (some 17) (.mv (.const (.int .i64 1))) none []]
def l7r32 : List AOper :=
  [.mk (some 105) (.mv (.tmp 13)) none [],.mk (some 106) (.mv (.tmp 17)) none [],.mk (some 107) (.call 44 [.tmp 105,.tmp 106]) none [0,1],.mk (some 17) (.mv (.tmp 107)) none [2,2,0,1,2]]
def l7r33 : List AOper :=
  [.mk (some 108) (.mv (.tmp 17)) none [],.mk (some 109) (.bin .lss (.tmp 108) (.const (.int .i64 0))) none [0]]
def l7r34 : List AOper :=
  [.mk (some 6) (.mv (.const (.bool false))) none []]
def l7r35 : List AOper :=
  [.mk (some 110) (.mv (.tmp 17)) none [],.mk (some 111) (.mv (.tmp 16)) none [],.mk (some 112) (.bin .neq (.tmp 110) (.tmp 111)) none [0,1]]
def l7r36 : List AOper :=
  [.mk (some 6) (.mv (.const (.bool false))) none []]
def l7r37a : List AOper :=
  [.mk (some 114) (.mv (.tmp 0)) none [],.mk (some 115) (.call 37 [.tmp 114]) none [0],.mk (some 116) (.load true 3 (.tmp 4)) none [],.mk (some 117) (.call 38 [.tmp 116]) none [2,1],.mk (some 118) (.load true 3 (.tmp 5)) none [],.mk (some 119) (.call 38 [.tmp 118]) none [4,3],.mk (some 120) (.call 39 [.tmp 115,.tmp 117,.tmp 119]) none [1,3,5,5],.mk (some 113) (.mv (.tmp 120)) none [6],.mk (some 121) (.extract (.tmp 113) 0) none [7],.mk (some 122) (.extract (.tmp 113) 1) none [7],.mk (some 18) (.mv (.tmp 121)) none [8,6,0,1,2,3,4,5,6,7,8]]
def l7r37b : List AOper :=
  [.mk (some 19) (.mv (.tmp 122)) none [9,10,0,1,2,3,4,5,6,7,8,9,10]]
def l7r37 : List AOper := l7r37a ++ l7r37b
def l7r38 : List AOper :=
  [.mk (some 123) (.mv (.tmp 18)) none [],.mk (some 124) (.mv (.tmp 8)) none [],.mk (some 125) (.call 40 [.tmp 123,.tmp 124]) none [0,1],.mk (some 126) (.un .not (.tmp 125)) none [2],.mk (some 127) (.mv (.tmp 126)) none [3,2],.mk (some 128) (.mv (.tmp 19)) (some (127,false)) [4],.mk (some 129) (.mv (.tmp 9)) (some (127,false)) [4],.mk (some 130) (.binB .neq (.tmp 128) (.tmp 129)) (some (127,false)) [5,6,4],.mk (some 131) (.pick (.tmp 127) (.const (.bool true)) (.tmp 130)) none [4,7]]
def l7r39 : List AOper :=
  [.mk (some 6) (.mv (.const (.bool false))) none []]
def l7r40 : List AOper :=
  [.mk (some 17) (.mv (.const (.int .i64 1))) none []]
def l7r41 : List AOper :=
  [.mk (some 132) (.mv (.tmp 13)) none [],.mk (some 133) (.mv (.tmp 17)) none [],.mk (some 134) (.call 44 [.tmp 132,.tmp 133]) none [0,1],.mk (some 17) (.mv (.tmp 134)) none [2,2,0,1,2]]
def l7r42 : List AOper :=
  [.mk (some 135) (.mv (.tmp 17)) none [],.mk (some 136) (.bin .lss (.tmp 135) (.const (.int .i64 0))) none [0]]
def l7r43 : List AOper :=
  [.mk (some 6) (.mv (.const (.bool false))) none []]
def l7r44 : List AOper :=
  [.mk (some 137) (.mv (.tmp 17)) none [],.mk (some 138) (.mv (.tmp 16)) none [],.mk (some 139) (.bin .neq (.tmp 137) (.tmp 138)) none [0,1]]
def l7r45 : List AOper :=
  [.mk (some 6) (.mv (.const (.bool false))) none []]
def l7r46 : List AOper :=
  [.mk (some 6) (.mv (.const (.bool true))) none []]
def l7 : AFn :=
  (AFn.mk 140 3 (.seq (.reg l7r0) (.seq (.seq (.reg l7r1) (.cond (.tmp 22) (.seq (.reg l7r2) .ret) .skip)) (.seq (.reg l7r3) (.seq (.reg l7r4) (.seq (.seq (.reg l7r5) (.cond (.tmp 27) (.seq (.reg l7r6) .ret) .skip)) (.seq (.reg l7r7) (.seq (.seq (.reg l7r8) (.cond (.tmp 32) (.seq (.reg l7r9) .ret) .skip)) (.seq (.draw l7r10) (.seq (.reg l7r11) (.seq (.reg l7r12) (.seq (.reg l7r13) (.seq (.reg l7r14) (.seq (.seq (.reg l7r15) (.cond (.tmp 64) (.seq (.reg l7r16) .ret) .skip)) (.seq (.seq (.reg l7r17) (.cond (.tmp 69) (.seq (.reg l7r18) .ret) .skip)) (.seq (.seq (.draw l7r19) (.cond (.tmp 74) (.seq (.reg l7r20) .ret) .skip)) (.seq (.seq (.draw l7r21) (.cond (.tmp 79) (.seq (.reg l7r22) .ret) .skip)) (.seq (.reg l7r23) (.seq (.reg l7r24) (.seq (.reg l7r25) (.seq (.reg l7r26) (.seq (.seq (.reg l7r27) (.cond (.tmp 101) (.seq (.reg l7r28) .ret) .skip)) (.seq (.reg l7r29) (.seq (.reg l7r30) (.seq (.reg l7r31) (.seq (.reg l7r32) (.seq (.seq (.reg l7r33) (.cond (.tmp 109) (.seq (.reg l7r34) .ret) .skip)) (.seq (.seq (.reg l7r35) (.cond (.tmp 112) (.seq (.reg l7r36) .ret) .skip)) (.seq (.draw l7r37) (.seq (.seq (.reg l7r38) (.cond (.tmp 131) (.seq (.reg l7r39) .ret) .skip)) (.seq (.reg l7r40) (.seq (.reg l7r41) (.seq (.seq (.reg l7r42) (.cond (.tmp 136) (.seq (.reg l7r43) .ret) .skip)) (.seq (.seq (.reg l7r44) (.cond (.tmp 139) (.seq (.reg l7r45) .ret) .skip)) (.seq (.reg l7r46) .ret)))))))))))))))))))))))))))))))))) [.tmp 6])
theorem l7_eq : lowFn Try.prog 7 = some l7 := by kernel_rfl
def l12r0 : List AOper :=
  [.mk (some 1) (.box (.tmp 0)) none [],.mk (some 2) (.mv (.const (.bool false))) none []]
def l12r1 : List AOper :=
  [.mk (some 5) (.fld 1 (.tmp 1)) none [],.mk (some 6) (.load false 1 (.tmp 5)) none [0],.mk (some 7) (.call 54 [.tmp 6]) none [1],.mk (some 8) (.un .not (.tmp 7)) none [2],.mk (some 9) (.mv (.tmp 8)) none [3,2],.mk (some 10) (.fld 2 (.tmp 1)) (some (9,false)) [4],.mk (some 11) (.load false 1 (.tmp 10)) (some (9,false)) [5,4],.mk (some 12) (.fld 1 (.tmp 1)) (some (9,false)) [4],.mk (some 13) (.load false 1 (.tmp 12)) (some (9,false)) [7,4],.mk (some 14) (.len (.tmp 13)) (some (9,false)) [8,4],.mk (some 15) (.call 55 [.tmp 11,.tmp 14]) (some (9,false)) [6,9,4,4],.mk (some 16) (.un .not (.tmp 15)) (some (9,false)) [10,4],.mk (some 17) (.pick (.tmp 9) (.const (.bool true)) (.tmp 16)) none [4,11],.mk (some 18) (.mv (.tmp 17)) none [12,10],.mk (some 19) (.fld 0 (.tmp 1)) (some (18,false)) [13],.mk (some 20) (.load false 1 (.tmp 19)) (some (18,false)) [14,13],.mk (some 21) (.call 56 [.tmp 20,.const (.int .i64 60)]) (some (18,false)) [15,13,13],.mk (some 22) (.un .not (.tmp 21)) (some (18,false)) [16,13],.mk (some 23) (.pick (.tmp 18) (.const (.bool true)) (.tmp 22)) none [13,17]]
def l12r2 : List AOper :=
  [.mk (some 2) (.mv (.const (.bool false))) none []]
def l12r3 : List AOper :=
  [.mk (some 25) (.load true 3 (.tmp 1)) none [],.mk (some 26) (.call 57 [.tmp 25]) none [0],.mk (some 24) (.mv (.tmp 26)) none [1],.mk (some 27) (.extract (.tmp 24) 0) none [2],.mk (some 28) (.extract (.tmp 24) 1) none [2],.mk (some 3) (.mv (.tmp 27)) none [3,1,0,1,2,3],.mk (some 4) (.mv (.tmp 28)) none [4,5,0,1,2,3,4,5]]
def l12r4 : List AOper :=
  [.mk (some 29) (.load true 3 (.tmp 1)) none [],.mk (some 30) (.call 58 [.tmp 29]) none [0],.mk (some 31) (.bin .eql (.tmp 30) (.const (.int .i64 0))) none [1],.mk (some 32) (.mv (.tmp 31)) none [2,1],.mk (some 33) (.mv (.tmp 3)) (some (32,false)) [3],.mk (some 34) (.bin .geq (.tmp 33) (.const (.int .i64 0))) (some (32,false)) [4,3],.mk (some 35) (.mv (.tmp 34)) (some (32,false)) [5,3,3],.mk (some 36) (.mv (.tmp 4)) (some (35,true)) [6],.mk (some 37) (.bin .lss (.tmp 36) (.const (.int .i64 60))) (some (35,true)) [7,6],.mk (some 38) (.pick (.tmp 35) (.tmp 37) (.const (.bool false))) (some (32,false)) [6,8,3],.mk (some 39) (.pick (.tmp 32) (.const (.bool true)) (.tmp 38)) none [3,9],.mk (some 2) (.mv (.tmp 39)) none [10,6,0,1,2,3,4,5,6,7,8,9,10]]
def l12 : AFn :=
  (AFn.mk 40 1 (.seq (.reg l12r0) (.seq (.seq (.reg l12r1) (.cond (.tmp 23) (.seq (.reg l12r2) .ret) .skip)) (.seq (.reg l12r3) (.seq (.reg l12r4) .ret)))) [.tmp 2])
theorem l12_eq : lowFn Try.prog 12 = some l12 := by kernel_rfl
def l21r0 : List AOper :=
  [.mk (some 2) (.box (.tmp 0)) none [],.mk (some 3) (.box (.tmp 1)) none [],.mk (some 4) (.mv (.const (.bool false))) none []]
def l21r1 : List AOper :=
  [.mk (some 5) (.load true 3 (.tmp 2)) none [],.mk (some 6) (.load true 3 (.tmp 3)) none [],.mk (some 7) (.call 73 [.tmp 5,.tmp 6]) none [0,1],.mk (some 8) (.len (.tmp 7)) none [2],.mk (some 9) (.bin .gtr (.tmp 8) (.const (.int .i64 0))) none [3],.mk (some 4) (.mv (.tmp 9)) none [4,2,0,1,2,3,4]]
def l21 : AFn :=
  (AFn.mk 10 2 (.seq (.reg l21r0) (.seq (.reg l21r1) .ret)) [.tmp 4])
theorem l21_eq : lowFn Try.prog 21 = some l21 := by kernel_rfl
def l22r0 : List AOper :=
  [.mk (some 1) (.box (.tmp 0)) none [],.mk (some 2) (.mv (.const (.bool false))) none []]
def l22r1 : List AOper :=
  [.mk (some 6) (.load true 3 (.tmp 1)) none [],.mk (some 7) (.call 12 [.tmp 6]) none [0],.mk (some 8) (.un .not (.tmp 7)) none [1]]
def l22r2 : List AOper :=
  [.mk (some 2) (.mv (.const (.bool false))) none []]
def l22r3 : List AOper :=
  [.mk (some 3) (.alloc [.bool false,.bool false,.bool false,.bool false,.bool false,.bool false,.bool false,.bool false,.bool false,.bool false,.bool false,.bool false,.bool false,.bool false,.bool false,.bool false,.bool false,.bool false,.bool false,.bool false,.bool false,.bool false,.bool false,.bool false,.bool false,.bool false,.bool false,.bool false,.bool false,.bool false,.bool false,.bool false,.bool false,.bool false,.bool false,.bool false,.bool false,.bool false,.bool false,.bool false,.bool false,.bool false,.bool false,.bool false,.bool false,.bool false,.bool false,.bool false,.bool false,.bool false,.bool false,.bool false,.bool false,.bool false,.bool false,.bool false,.bool false,.bool false,.bool false,.bool false]) none []]
def l22r4 : List AOper :=
  [.mk (some 9) (.load true 3 (.tmp 1)) none [],.mk (some 10) (.call 72 [.tmp 9]) none [0],.mk (some 11) (.len (.tmp 10)) none [1],.mk (some 12) (.mv (.const (.int .i64 0))) none []]
def l22r5 : List AOper :=
  [.mk (some 13) (.bin .lss (.tmp 12) (.tmp 11)) none []]
def l22r6 : List AOper :=
  [.mk (some 14) (.idxA 1 (.tmp 10) (.tmp 12)) none [],.mk (some 15) (.load false 1 (.tmp 14)) none [0],.mk (some 5) (.mv (.tmp 15)) none [1,0,1]]
def l22r7 : List AOper :=
  [.mk (some 16) (.mv (.tmp 5)) none [],.mk (some 17) (.idxP 1 60 (.tmp 3) (.tmp 16)) none [0],.mk (some 18) (.load false 1 (.tmp 17)) none [1]]
def l22r8 : List AOper :=
  [.mk (some 2) (.mv (.const (.bool false))) none []]
def l22r9 : List AOper :=
  [.mk (some 19) (.mv (.tmp 5)) none [],.mk (some 20) (.idxP 1 60 (.tmp 3) (.tmp 19)) none [0,0],.mk none (.store 1 (.tmp 20) (.const (.bool true))) none [1,0]]
def l22r10 : List AOper :=
  [.mk (some 21) (.bin .add (.tmp 12) (.const (.int .i64 1))) none [],.mk (some 12) (.mv (.tmp 21)) none [0]]
def l22r11 : List AOper :=
  [.mk (some 2) (.mv (.const (.bool true))) none []]
def l22 : AFn :=
  (AFn.mk 22 1 (.seq (.reg l22r0) (.seq (.seq (.reg l22r1) (.cond (.tmp 8) (.seq (.reg l22r2) .ret) .skip)) (.seq (.reg l22r3) (.seq (.seq (.reg l22r4) (.block 0 (.loop (.seq (.reg l22r5) (.seq (.cond (.tmp 13) .skip (.exit 0)) (.seq (.block 1 (.seq (.reg l22r6) (.seq (.seq (.reg l22r7) (.cond (.tmp 18) (.seq (.reg l22r8) .ret) .skip)) (.reg l22r9)))) (.reg l22r10))))))) (.seq (.reg l22r11) .ret))))) [.tmp 2])
theorem l22_eq : lowFn Try.prog 22 = some l22 := by kernel_rfl
def l23r0 : List AOper :=
  [.mk (some 2) (.box (.tmp 0)) none [],.mk (some 4) (.mv (.const (.bool false))) none []]
def l23r1 : List AOper :=
  [.mk (some 7) (.load true 3 (.tmp 2)) none [],.mk (some 8) (.call 12 [.tmp 7]) none [0],.mk (some 9) (.un .not (.tmp 8)) none [1],.mk (some 10) (.mv (.tmp 9)) none [2,1],.mk (some 11) (.mv (.tmp 1)) (some (10,false)) [3],.mk (some 12) (.call 56 [.tmp 11,.const (.int .i64 60)]) (some (10,false)) [4,3,3],.mk (some 13) (.un .not (.tmp 12)) (some (10,false)) [5,3],.mk (some 14) (.pick (.tmp 10) (.const (.bool true)) (.tmp 13)) none [3,6]]
def l23r2 : List AOper :=
  [.mk (some 4) (.mv (.const (.bool false))) none []]
def l23r3 : List AOper :=
  [.mk (some 16) (.load true 3 (.tmp 2)) none [],.mk (some 17) (.call 57 [.tmp 16]) none [0],.mk (some 15) (.mv (.tmp 17)) none [1],.mk (some 18) (.extract (.tmp 15) 0) none [2],.mk (some 19) (.extract (.tmp 15) 1) none [2],.mk (some 5) (.mv (.tmp 18)) none [3,1,0,1,2,3],.mk (some 6) (.mv (.tmp 19)) none [4,5,0,1,2,3,4,5]]
def l23r4 : List AOper :=
  [.mk (some 20) (.mv (.tmp 6)) none [],.mk (some 21) (.mv (.tmp 1)) none [],.mk (some 22) (.bin .lss (.tmp 20) (.tmp 21)) none [0,1],.mk (some 4) (.mv (.tmp 22)) none [2,0,1,2]]
def l23 : AFn :=
  (AFn.mk 23 2 (.seq (.reg l23r0) (.seq (.seq (.reg l23r1) (.cond (.tmp 14) (.seq (.reg l23r2) .ret) .skip)) (.seq (.reg l23r3) (.seq (.reg l23r4) .ret)))) [.tmp 4])
theorem l23_eq : lowFn Try.prog 23 = some l23 := by kernel_rfl
def l35r0 : List AOper :=
  [.mk (some 2) (.box (.tmp 0)) none [],.mk (some 4) (.mv (.const (.int .i64 0))) none []]
def l35r1 : List AOper :=
  [.mk (some 5) (.fld 1 (.tmp 2)) none [],.mk (some 6) (.load false 1 (.tmp 5)) none [0],.mk (some 7) (.mv (.tmp 1)) none [],.mk (some 8) (.call 94 [.tmp 6,.tmp 7]) none [1,2],.mk (some 1) (.mv (.tmp 8)) none [3,3,0,1,2,3]]
def l35r2 : List AOper :=
  [.mk (some 9) (.mv (.tmp 1)) none [],.mk (some 10) (.bin .lss (.tmp 9) (.const (.int .i64 0))) none [0]]
def l35r3 : List AOper :=
  [.mk (some 4) (.mv (.const (.int .i64 (-1)))) none []]
def l35r4 : List AOper :=
  [.mk (some 11) (.fld 2 (.tmp 2)) none [],.mk (some 12) (.load false 1 (.tmp 11)) none [0],.mk (some 13) (.mv (.tmp 1)) none [],.mk (some 14) (.call 94 [.tmp 12,.tmp 13]) none [1,2],.mk (some 1) (.mv (.tmp 14)) none [3,3,0,1,2,3]]
def l35r5 : List AOper :=
  [.mk (some 15) (.mv (.tmp 1)) none [],.mk (some 16) (.bin .lss (.tmp 15) (.const (.int .i64 0))) none [0]]
def l35r6 : List AOper :=
  [.mk (some 4) (.mv (.const (.int .i64 (-1)))) none []]
def l35r7 : List AOper :=
  [.mk (some 17) (.mv (.tmp 1)) none [],.mk (some 4) (.mv (.tmp 17)) none [0,0]]
def l35 : AFn :=
  (AFn.mk 18 2 (.seq (.reg l35r0) (.seq (.reg l35r1) (.seq (.seq (.reg l35r2) (.cond (.tmp 10) (.seq (.reg l35r3) .ret) .skip)) (.seq (.reg l35r4) (.seq (.seq (.reg l35r5) (.cond (.tmp 16) (.seq (.reg l35r6) .ret) .skip)) (.seq (.reg l35r7) .ret)))))) [.tmp 4])
theorem l35_eq : lowFn Try.prog 35 = some l35 := by kernel_rfl
def l36r0 : List AOper :=
  [.mk (some 4) (.box (.tmp 1)) none [],.mk (some 5) (.box (.tmp 2)) none [],.mk (some 6) (.mv (.const (.slice none 0 0))) none [],.mk (some 7) (.mv (.const (.bool false))) none [2]]
def l36r1a : List AOper :=
  [.mk (some 8) (.mv (.tmp 0)) none [],.mk (some 9) (.load true 3 (.tmp 4)) none [],.mk (some 10) (.load true 3 (.tmp 5)) none [],.mk (some 11) (.call 95 [.tmp 8,.tmp 9,.tmp 10]) none [0,1,2],.mk (some 12) (.un .not (.tmp 11)) none [3],.mk (some 13) (.mv (.tmp 12)) none [4,3],.mk (some 14) (.load true 3 (.tmp 4)) (some (13,false)) [5],.mk (some 15) (.call 68 [.tmp 14]) (some (13,false)) [6,5,5],.mk (some 16) (.load true 3 (.tmp 5)) (some (13,false)) [5]]
def l36r1b : List AOper :=
  [.mk (some 17) (.call 68 [.tmp 16]) (some (13,false)) [8,7,5],.mk (some 18) (.call 96 [.tmp 15,.tmp 17]) (some (13,false)) [7,9,9,5],.mk (some 19) (.len (.tmp 18)) (some (13,false)) [10,5],.mk (some 20) (.bin .gtr (.tmp 19) (.const (.int .i64 0))) (some (13,false)) [11,5],.mk (some 21) (.pick (.tmp 13) (.const (.bool true)) (.tmp 20)) none [5,12],.mk (some 22) (.mv (.tmp 21)) none [13,10],.mk (some 23) (.load true 3 (.tmp 4)) (some (22,false)) [14],.mk (some 24) (.call 68 [.tmp 23]) (some (22,false)) [15,14,14],.mk (some 25) (.call 69 [.tmp 24]) (some (22,false)) [16,16,14],.mk (some 26) (.un .not (.tmp 25)) (some (22,false)) [17,14],.mk (some 27) (.pick (.tmp 22) (.const (.bool true)) (.tmp 26)) none [14,18],.mk (some 28) (.mv (.tmp 27)) none [19,17],.mk (some 29) (.load true 3 (.tmp 5)) (some (28,false)) [20],.mk (some 30) (.call 68 [.tmp 29]) (some (28,false)) [21,20,20],.mk (some 31) (.call 69 [.tmp 30]) (some (28,false)) [22,22,20],.mk (some 32) (.un .not (.tmp 31)) (some (28,false)) [23,20],.mk (some 33) (.pick (.tmp 28) (.const (.bool true)) (.tmp 32)) none [20,24]]
def l36r1 : List AOper := l36r1a ++ l36r1b
def l36r2 : List AOper :=
  [.mk (some 6) (.mv (.const (.slice none 0 0))) none [],.mk (some 7) (.mv (.const (.bool false))) none [0,0]]
def l36r3a : List AOper :=
  [.mk (some 34) (.mv (.tmp 0)) none [],.mk (some 35) (.load true 3 (.tmp 4)) none [],.mk (some 36) (.mv (.tmp 0)) none [],.mk (some 37) (.load true 3 (.tmp 5)) none [],.mk (some 38) (.call 98 [.tmp 36,.tmp 37]) none [2,3],.mk (some 39) (.call 97 [.tmp 34,.tmp 35,.tmp 38]) none [0,1,4,4],.mk (some 40) (.load true 3 (.tmp 5)) none [],.mk (some 41) (.mv (.tmp 0)) none [],.mk (some 42) (.load true 3 (.tmp 4)) none [],.mk (some 43) (.call 98 [.tmp 41,.tmp 42]) none [7,8,5]]
def l36r3b : List AOper :=
  [.mk (some 44) (.call 97 [.tmp 39,.tmp 40,.tmp 43]) none [5,6,9,9],.mk (some 6) (.mv (.tmp 44)) none [10,10,0,1,2,3,4,5,6,7,8,9,10],.mk (some 7) (.mv (.const (.bool true))) none [11,0,1,2,3,4,5,6,7,8,9,10,11]]
def l36r3 : List AOper := l36r3a ++ l36r3b
def l36 : AFn :=
  (AFn.mk 45 3 (.seq (.reg l36r0) (.seq (.seq (.draw l36r1) (.cond (.tmp 33) (.seq (.reg l36r2) .ret) .skip)) (.seq (.draw l36r3) .ret))) [.tmp 6,.tmp 7])
theorem l36_eq : lowFn Try.prog 36 = some l36 := by kernel_rfl
def l37r0 : List AOper :=
  [.mk (some 2) (.mv (.const (.slice none 0 0))) none []]
def l37r1 : List AOper :=
  [.mk (some 5) (.mv (.tmp 0)) none [],.mk (some 6) (.len (.tmp 5)) none [0],.mk (some 7) (.mkslice 1 [.int .i64 0] (.tmp 6) (.tmp 6)) none [1,1],.mk (some 3) (.mv (.tmp 7)) none [2,0,1,2]]
def l37r2 : List AOper :=
  [.mk (some 4) (.mv (.const (.int .i64 0))) none []]
def l37r3 : List AOper :=
  [.mk (some 8) (.mv (.tmp 4)) none [],.mk (some 9) (.mv (.tmp 0)) none [],.mk (some 10) (.len (.tmp 9)) none [1],.mk (some 11) (.bin .lss (.tmp 8) (.tmp 10)) none [0,2]]
def l37r4 : List AOper :=
  [.mk (some 14) (.mv (.tmp 3)) none [],.mk (some 15) (.mv (.tmp 4)) none [],.mk (some 16) (.mv (.tmp 0)) none [],.mk (some 17) (.mv (.tmp 4)) none [],.mk (some 18) (.idxA 1 (.tmp 16) (.tmp 17)) none [2,3],.mk (some 19) (.load false 1 (.tmp 18)) none [4],.mk (some 20) (.idxA 1 (.tmp 14) (.tmp 15)) none [0,1,0,1,2,3,4,5],.mk none (.store 1 (.tmp 20) (.tmp 19)) none [6,5,0,1,2,3,4,5]]
def l37r5 : List AOper :=
  [.mk (some 12) (.mv (.tmp 4)) none [],.mk (some 13) (.bin .add (.tmp 12) (.const (.int .i64 1))) none [0],.mk (some 4) (.mv (.tmp 13)) none [1,0,1]]
def l37r6 : List AOper :=
  [.mk (some 21) (.mv (.tmp 3)) none [],.mk (some 2) (.mv (.tmp 21)) none [0,0]]
def l37 : AFn :=
  (AFn.mk 22 1 (.seq (.reg l37r0) (.seq (.reg l37r1) (.seq (.seq (.reg l37r2) (.block 0 (.loop (.seq (.seq (.reg l37r3) (.cond (.tmp 11) .skip (.exit 0))) (.seq (.block 1 (.reg l37r4)) (.reg l37r5)))))) (.seq (.reg l37r6) .ret)))) [.tmp 2])
theorem l37_eq : lowFn Try.prog 37 = some l37 := by kernel_rfl
def l38r0 : List AOper :=
  [.mk (some 1) (.box (.tmp 0)) none [],.mk (some 2) (.alloc [.int .i64 0,.slice none 0 0,.slice none 0 0]) none []]
def l38r1 : List AOper :=
  [.mk (some 3) (.alloc [.int .i64 0,.slice none 0 0,.slice none 0 0]) none []]
def l38r2 : List AOper :=
  [.mk (some 4) (.fld 0 (.tmp 1)) none [],.mk (some 5) (.load false 1 (.tmp 4)) none [0],.mk (some 6) (.fld 0 (.tmp 3)) none [0,1],.mk none (.store 1 (.tmp 6) (.tmp 5)) none [2,1,0,1]]
def l38r3 : List AOper :=
  [.mk (some 7) (.fld 1 (.tmp 1)) none [],.mk (some 8) (.load false 1 (.tmp 7)) none [0],.mk (some 9) (.call 37 [.tmp 8]) none [1],.mk (some 10) (.fld 1 (.tmp 3)) none [0,1,2],.mk none (.store 1 (.tmp 10) (.tmp 9)) none [3,2,2,0,1,2]]
def l38r4 : List AOper :=
  [.mk (some 11) (.fld 2 (.tmp 1)) none [],.mk (some 12) (.load false 1 (.tmp 11)) none [0],.mk (some 13) (.call 37 [.tmp 12]) none [1],.mk (some 14) (.fld 2 (.tmp 3)) none [0,1,2],.mk none (.store 1 (.tmp 14) (.tmp 13)) none [3,2,2,0,1,2]]
def l38r5 : List AOper :=
  [.mk (some 15) (.load true 3 (.tmp 3)) none [],.mk none (.store 3 (.tmp 2) (.tmp 15)) none [0,0]]
def l38 : AFn :=
  (AFn.mk 16 1 (.seq (.reg l38r0) (.seq (.reg l38r1) (.seq (.reg l38r2) (.seq (.reg l38r3) (.seq (.reg l38r4) (.seq (.reg l38r5) .ret)))))) [.cell 2 true 3])
theorem l38_eq : lowFn Try.prog 38 = some l38 := by kernel_rfl
def l39r0 : List AOper :=
  [.mk (some 4) (.box (.tmp 1)) none [],.mk (some 5) (.box (.tmp 2)) none [],.mk (some 6) (.mv (.const (.slice none 0 0))) none [],.mk (some 7) (.mv (.const (.bool false))) none [2]]
def l39r1 : List AOper :=
  [.mk (some 8) (.mv (.tmp 0)) none [],.mk (some 9) (.load true 3 (.tmp 4)) none [],.mk (some 10) (.load true 3 (.tmp 5)) none [],.mk (some 11) (.call 99 [.tmp 8,.tmp 9,.tmp 10]) none [0,1,2],.mk (some 12) (.un .not (.tmp 11)) none [3],.mk (some 13) (.mv (.tmp 12)) none [4,3],.mk (some 14) (.load true 3 (.tmp 4)) (some (13,false)) [5],.mk (some 15) (.load true 3 (.tmp 5)) (some (13,false)) [5],.mk (some 16) (.call 21 [.tmp 14,.tmp 15]) (some (13,false)) [6,7,5,5],.mk (some 17) (.pick (.tmp 13) (.const (.bool true)) (.tmp 16)) none [5,8],.mk (some 18) (.mv (.tmp 17)) none [9,8],.mk (some 19) (.load true 3 (.tmp 4)) (some (18,false)) [10],.mk (some 20) (.call 22 [.tmp 19]) (some (18,false)) [11,10,10],.mk (some 21) (.un .not (.tmp 20)) (some (18,false)) [12,10],.mk (some 22) (.pick (.tmp 18) (.const (.bool true)) (.tmp 21)) none [10,13],.mk (some 23) (.mv (.tmp 22)) none [14,12],.mk (some 24) (.load true 3 (.tmp 5)) (some (23,false)) [15],.mk (some 25) (.call 22 [.tmp 24]) (some (23,false)) [16,15,15],.mk (some 26) (.un .not (.tmp 25)) (some (23,false)) [17,15],.mk (some 27) (.pick (.tmp 23) (.const (.bool true)) (.tmp 26)) none [15,18]]
def l39r2 : List AOper :=
  [.mk (some 6) (.mv (.const (.slice none 0 0))) none [],.mk (some 7) (.mv (.const (.bool false))) none [0,0]]
def l39r3a : List AOper :=
  [.mk (some 28) (.mv (.tmp 0)) none [],.mk (some 29) (.load true 3 (.tmp 4)) none [],.mk (some 30) (.mv (.tmp 0)) none [],.mk (some 31) (.load true 3 (.tmp 5)) none [],.mk (some 32) (.call 101 [.tmp 30,.tmp 31]) none [2,3],.mk (some 33) (.call 100 [.tmp 28,.tmp 29,.tmp 32]) none [0,1,4,4],.mk (some 34) (.load true 3 (.tmp 5)) none [],.mk (some 35) (.mv (.tmp 0)) none [],.mk (some 36) (.load true 3 (.tmp 4)) none [],.mk (some 37) (.call 101 [.tmp 35,.tmp 36]) none [7,8,5]]
def l39r3b : List AOper :=
  [.mk (some 38) (.call 100 [.tmp 33,.tmp 34,.tmp 37]) none [5,6,9,9],.mk (some 6) (.mv (.tmp 38)) none [10,10,0,1,2,3,4,5,6,7,8,9,10],.mk (some 7) (.mv (.const (.bool true))) none [11,0,1,2,3,4,5,6,7,8,9,10,11]]
def l39r3 : List AOper := l39r3a ++ l39r3b
def l39 : AFn :=
  (AFn.mk 39 3 (.seq (.reg l39r0) (.seq (.seq (.reg l39r1) (.cond (.tmp 27) (.seq (.reg l39r2) .ret) .skip)) (.seq (.draw l39r3) .ret))) [.tmp 6,.tmp 7])
theorem l39_eq : lowFn Try.prog 39 = some l39 := by kernel_rfl
def l40r0 : List AOper :=
  [.mk (some 4) (.mv (.const (.bool false))) none []]
def l40r1 : List AOper :=
  [.mk (some 6) (.mv (.tmp 0)) none [],.mk (some 7) (.len (.tmp 6)) none [0],.mk (some 8) (.mv (.tmp 1)) none [],.mk (some 9) (.len (.tmp 8)) none [2],.mk (some 10) (.bin .neq (.tmp 7) (.tmp 9)) none [1,3]]
def l40r2 : List AOper :=
  [.mk (some 4) (.mv (.const (.bool false))) none []]
def l40r3 : List AOper :=
  [.mk (some 5) (.mv (.const (.int .i64 0))) none []]
def l40r4 : List AOper :=
  [.mk (some 11) (.mv (.tmp 5)) none [],.mk (some 12) (.mv (.tmp 0)) none [],.mk (some 13) (.len (.tmp 12)) none [1],.mk (some 14) (.bin .lss (.tmp 11) (.tmp 13)) none [0,2]]
def l40r5a : List AOper :=
  [.mk (some 17) (.mv (.tmp 0)) none [],.mk (some 18) (.mv (.tmp 5)) none [],.mk (some 19) (.idxA 1 (.tmp 17) (.tmp 18)) none [0,1],.mk (some 20) (.load false 1 (.tmp 19)) none [2],.mk (some 21) (.mv (.tmp 1)) none [],.mk (some 22) (.mv (.tmp 5)) none [],.mk (some 23) (.idxA 1 (.tmp 21) (.tmp 22)) none [4,5],.mk (some 24) (.load false 1 (.tmp 23)) none [6]]
def l40r5b : List AOper :=
  [.mk (some 25) (.bin .neq (.tmp 20) (.tmp 24)) none [3,7]]
def l40r5 : List AOper := l40r5a ++ l40r5b
def l40r6 : List AOper :=
  [.mk (some 4) (.mv (.const (.bool false))) none []]
def l40r7 : List AOper :=
  [.mk (some 15) (.mv (.tmp 5)) none [],.mk (some 16) (.bin .add (.tmp 15) (.const (.int .i64 1))) none [0],.mk (some 5) (.mv (.tmp 16)) none [1,0,1]]
def l40r8 : List AOper :=
  [.mk (some 4) (.mv (.const (.bool true))) none []]
def l40 : AFn :=
  (AFn.mk 26 2 (.seq (.reg l40r0) (.seq (.seq (.reg l40r1) (.cond (.tmp 10) (.seq (.reg l40r2) .ret) .skip)) (.seq (.seq (.reg l40r3) (.block 0 (.loop (.seq (.seq (.reg l40r4) (.cond (.tmp 14) .skip (.exit 0))) (.seq (.block 1 (.seq (.draw l40r5) (.cond (.tmp 25) (.seq (.reg l40r6) .ret) .skip))) (.reg l40r7)))))) (.seq (.reg l40r8) .ret)))) [.tmp 4])
theorem l40_eq : lowFn Try.prog 40 = some l40 := by kernel_rfl
def l41r0 : List AOper :=
  [.mk (some 2) (.box (.tmp 0)) none [],.mk (some 3) (.box (.tmp 1)) none [],.mk (some 4) (.mv (.const (.bool false))) none []]
def l41r1 : List AOper :=
  [.mk (some 5) (.fld 0 (.tmp 2)) none [],.mk (some 6) (.load false 1 (.tmp 5)) none [0],.mk (some 7) (.fld 0 (.tmp 3)) none [],.mk (some 8) (.load false 1 (.tmp 7)) none [2],.mk (some 9) (.bin .neq (.tmp 6) (.tmp 8)) none [1,3]]
def l41r2 : List AOper :=
  [.mk (some 4) (.mv (.const (.bool false))) none []]
def l41r3 : List AOper :=
  [.mk (some 10) (.fld 1 (.tmp 2)) none [],.mk (some 11) (.load false 1 (.tmp 10)) none [0],.mk (some 12) (.fld 1 (.tmp 3)) none [],.mk (some 13) (.load false 1 (.tmp 12)) none [2],.mk (some 14) (.call 40 [.tmp 11,.tmp 13]) none [1,3],.mk (some 15) (.un .not (.tmp 14)) none [4]]
def l41r4 : List AOper :=
  [.mk (some 4) (.mv (.const (.bool false))) none []]
def l41r5 : List AOper :=
  [.mk (some 16) (.fld 2 (.tmp 2)) none [],.mk (some 17) (.load false 1 (.tmp 16)) none [0],.mk (some 18) (.fld 2 (.tmp 3)) none [],.mk (some 19) (.load false 1 (.tmp 18)) none [2],.mk (some 20) (.call 40 [.tmp 17,.tmp 19]) none [1,3],.mk (some 21) (.un .not (.tmp 20)) none [4]]
def l41r6 : List AOper :=
  [.mk (some 4) (.mv (.const (.bool false))) none []]
def l41r7 : List AOper :=
  [.mk (some 4) (.mv (.const (.bool true))) none []]
def l41 : AFn :=
  (AFn.mk 22 2 (.seq (.reg l41r0) (.seq (.seq (.reg l41r1) (.cond (.tmp 9) (.seq (.reg l41r2) .ret) .skip)) (.seq (.seq (.reg l41r3) (.cond (.tmp 15) (.seq (.reg l41r4) .ret) .skip)) (.seq (.seq (.reg l41r5) (.cond (.tmp 21) (.seq (.reg l41r6) .ret) .skip)) (.seq (.reg l41r7) .ret))))) [.tmp 4])
theorem l41_eq : lowFn Try.prog 41 = some l41 := by kernel_rfl
def l42r0 : List AOper :=
  [.mk (some 4) (.mv (.const (.int .i64 0))) none []]
def l42r1 : List AOper :=
  [.mk (some 5) (.mv (.const (.int .i64 0))) none []]
def l42r2 : List AOper :=
  [.mk (some 6) (.mv (.tmp 5)) none [],.mk (some 7) (.mv (.tmp 0)) none [],.mk (some 8) (.len (.tmp 7)) none [1],.mk (some 9) (.bin .lss (.tmp 6) (.tmp 8)) none [0,2]]
def l42r3 : List AOper :=
  [.mk (some 12) (.mv (.tmp 0)) none [],.mk (some 13) (.mv (.tmp 5)) none [],.mk (some 14) (.mv (.tmp 1)) none [],.mk (some 15) (.idxA 1 (.tmp 12) (.tmp 13)) none [0,1,0,1,2],.mk none (.store 1 (.tmp 15) (.tmp 14)) none [3,2,0,1,2]]
def l42r4 : List AOper :=
  [.mk (some 16) (.mv (.tmp 1)) none [],.mk (some 17) (.bin .add (.tmp 16) (.const (.int .i64 1))) none [0],.mk (some 1) (.mv (.tmp 17)) none [1,0,1]]
def l42r5 : List AOper :=
  [.mk (some 10) (.mv (.tmp 5)) none [],.mk (some 11) (.bin .add (.tmp 10) (.const (.int .i64 1))) none [0],.mk (some 5) (.mv (.tmp 11)) none [1,0,1]]
def l42r6 : List AOper :=
  [.mk (some 18) (.mv (.tmp 1)) none [],.mk (some 4) (.mv (.tmp 18)) none [0,0]]
def l42 : AFn :=
  (AFn.mk 19 2 (.seq (.reg l42r0) (.seq (.seq (.reg l42r1) (.block 0 (.loop (.seq (.seq (.reg l42r2) (.cond (.tmp 9) .skip (.exit 0))) (.seq (.block 1 (.seq (.reg l42r3) (.reg l42r4))) (.reg l42r5)))))) (.seq (.reg l42r6) .ret))) [.tmp 4])
theorem l42_eq : lowFn Try.prog 42 = some l42 := by kernel_rfl
def l43r0 : List AOper :=
  [.mk (some 2) (.box (.tmp 0)) none [],.mk (some 4) (.mv (.const (.int .i64 0))) none []]
def l43r1 : List AOper :=
  [.mk (some 5) (.fld 1 (.tmp 2)) none [],.mk (some 6) (.load false 1 (.tmp 5)) none [0],.mk (some 7) (.mv (.tmp 1)) none [],.mk (some 8) (.call 42 [.tmp 6,.tmp 7]) none [1,2],.mk (some 1) (.mv (.tmp 8)) none [3,3,0,1,2,3]]
def l43r2 : List AOper :=
  [.mk (some 9) (.fld 2 (.tmp 2)) none [],.mk (some 10) (.load false 1 (.tmp 9)) none [0],.mk (some 11) (.mv (.tmp 1)) none [],.mk (some 12) (.call 42 [.tmp 10,.tmp 11]) none [1,2],.mk (some 1) (.mv (.tmp 12)) none [3,3,0,1,2,3]]
def l43r3 : List AOper :=
  [.mk (some 13) (.mv (.tmp 1)) none [],.mk (some 4) (.mv (.tmp 13)) none [0,0]]
def l43 : AFn :=
  (AFn.mk 14 2 (.seq (.reg l43r0) (.seq (.reg l43r1) (.seq (.reg l43r2) (.seq (.reg l43r3) .ret)))) [.tmp 4])
theorem l43_eq : lowFn Try.prog 43 = some l43 := by kernel_rfl
def l44r0 : List AOper :=
  [.mk (some 4) (.mv (.const (.int .i64 0))) none []]
def l44r1 : List AOper :=
  [.mk (some 5) (.mv (.const (.int .i64 0))) none []]
def l44r2 : List AOper :=
  [.mk (some 6) (.mv (.tmp 5)) none [],.mk (some 7) (.mv (.tmp 0)) none [],.mk (some 8) (.len (.tmp 7)) none [1],.mk (some 9) (.bin .lss (.tmp 6) (.tmp 8)) none [0,2]]
def l44r3 : List AOper :=
  [.mk (some 12) (.mv (.tmp 0)) none [],.mk (some 13) (.mv (.tmp 5)) none [],.mk (some 14) (.idxA 1 (.tmp 12) (.tmp 13)) none [0,1],.mk (some 15) (.load false 1 (.tmp 14)) none [2],.mk (some 16) (.mv (.tmp 1)) none [],.mk (some 17) (.bin .neq (.tmp 15) (.tmp 16)) none [3,4]]
def l44r4 : List AOper :=
  [.mk (some 4) (.mv (.const (.int .i64 (-1)))) none []]
def l44r5 : List AOper :=
  [.mk (some 18) (.mv (.tmp 1)) none [],.mk (some 19) (.bin .add (.tmp 18) (.const (.int .i64 1))) none [0],.mk (some 1) (.mv (.tmp 19)) none [1,0,1]]
def l44r6 : List AOper :=
  [.mk (some 10) (.mv (.tmp 5)) none [],.mk (some 11) (.bin .add (.tmp 10) (.const (.int .i64 1))) none [0],.mk (some 5) (.mv (.tmp 11)) none [1,0,1]]
def l44r7 : List AOper :=
  [.mk (some 20) (.mv (.tmp 1)) none [],.mk (some 4) (.mv (.tmp 20)) none [0,0]]
def l44 : AFn :=
  (AFn.mk 21 2 (.seq (.reg l44r0) (.seq (.seq (.reg l44r1) (.block 0 (.loop (.seq (.seq (.reg l44r2) (.cond (.tmp 9) .skip (.exit 0))) (.seq (.block 1 (.seq (.seq (.reg l44r3) (.cond (.tmp 17) (.seq (.reg l44r4) .ret) .skip)) (.reg l44r5))) (.reg l44r6)))))) (.seq (.reg l44r7) .ret))) [.tmp 4])
theorem l44_eq : lowFn Try.prog 44 = some l44 := by kernel_rfl
def l47r0 : List AOper :=
  [.mk (some 2) (.mv (.const (.map none))) none []]
def l47r1 : List AOper :=
  [.mk (some 6) (.raw (Op.makeMap 63 none)) none [],.mk (some 3) (.mv (.tmp 6)) none [0,0]]
def l47r2 : List AOper :=
  [.mk (some 7) (.mv (.tmp 0)) none [],.mk (some 8) (.len (.tmp 7)) none [0],.mk (some 9) (.mv (.const (.int .i64 0))) none []]
def l47r3 : List AOper :=
  [.mk (some 10) (.bin .lss (.tmp 9) (.tmp 8)) none []]
def l47r4 : List AOper :=
  [.mk (some 11) (.idxA 3 (.tmp 7) (.tmp 9)) none [],.mk (some 12) (.load true 3 (.tmp 11)) none [0],.mk (some 5) (.alloc [.int .i64 0,.slice none 0 0,.slice none 0 0]) none [],.mk none (.store 3 (.tmp 5) (.tmp 12)) none [2,1,0,1,2]]
def l47r5 : List AOper :=
  [.mk (some 13) (.mv (.tmp 3)) none [],.mk (some 14) (.load true 3 (.tmp 5)) none [],.mk (some 15) (.call 72 [.tmp 14]) none [1],.mk (some 16) (.call 71 [.tmp 13,.tmp 15]) none [0,2,2]]
def l47r6 : List AOper :=
  [.mk (some 17) (.bin .add (.tmp 9) (.const (.int .i64 1))) none [],.mk (some 9) (.mv (.tmp 17)) none [0]]
def l47r7 : List AOper :=
  [.mk (some 18) (.mv (.tmp 3)) none [],.mk (some 2) (.mv (.tmp 18)) none [0,0]]
def l47 : AFn :=
  (AFn.mk 19 1 (.seq (.reg l47r0) (.seq (.reg l47r1) (.seq (.seq (.reg l47r2) (.block 0 (.loop (.seq (.reg l47r3) (.seq (.cond (.tmp 10) .skip (.exit 0)) (.seq (.block 1 (.seq (.reg l47r4) (.reg l47r5))) (.reg l47r6))))))) (.seq (.reg l47r7) .ret)))) [.tmp 2])
theorem l47_eq : lowFn Try.prog 47 = some l47 := by kernel_rfl
def l52r0 : List AOper :=
  [.mk (some 1) (.box (.tmp 0)) none [],.mk (some 2) (.mv (.const (.bool false))) none []]
def l52r1 : List AOper :=
  [.mk (some 3) (.fld 1 (.tmp 1)) none [],.mk (some 4) (.load false 1 (.tmp 3)) none [0],.mk (some 5) (.call 106 [.tmp 4]) none [1],.mk (some 6) (.mv (.tmp 5)) none [2,2],.mk (some 7) (.fld 2 (.tmp 1)) (some (6,true)) [3],.mk (some 8) (.load false 1 (.tmp 7)) (some (6,true)) [4,3],.mk (some 9) (.len (.tmp 8)) (some (6,true)) [5,3],.mk (some 10) (.fld 1 (.tmp 1)) (some (6,true)) [3],.mk (some 11) (.load false 1 (.tmp 10)) (some (6,true)) [7,3],.mk (some 12) (.len (.tmp 11)) (some (6,true)) [8,3],.mk (some 13) (.bin .eql (.tmp 9) (.tmp 12)) (some (6,true)) [6,9,3],.mk (some 14) (.pick (.tmp 6) (.tmp 13) (.const (.bool false))) none [3,10],.mk (some 15) (.mv (.tmp 14)) none [11,3],.mk (some 16) (.fld 2 (.tmp 1)) (some (15,true)) [12],.mk (some 17) (.load false 1 (.tmp 16)) (some (15,true)) [13,12],.mk (some 18) (.call 70 [.tmp 17,.const (.int .i64 (-60)),.const (.int .i64 60)]) (some (15,true)) [14,12,12],.mk (some 19) (.pick (.tmp 15) (.tmp 18) (.const (.bool false))) none [12,15],.mk (some 20) (.mv (.tmp 19)) none [16,15],.mk (some 21) (.fld 0 (.tmp 1)) (some (20,true)) [17],.mk (some 22) (.load false 1 (.tmp 21)) (some (20,true)) [18,17],.mk (some 23) (.call 67 [.tmp 22,.const (.int .i64 0),.const (.int .i64 60)]) (some (20,true)) [19,17,17],.mk (some 24) (.pick (.tmp 20) (.tmp 23) (.const (.bool false))) none [17,20],.mk (some 25) (.mv (.tmp 24)) none [21,20],.mk (some 26) (.fld 1 (.tmp 1)) (some (25,true)) [22],.mk (some 27) (.load false 1 (.tmp 26)) (some (25,true)) [23,22],.mk (some 28) (.call 107 [.tmp 27]) (some (25,true)) [24,22,22],.mk (some 29) (.bin .eql (.tmp 28) (.const (.int .i64 0))) (some (25,true)) [25,22],.mk (some 30) (.mv (.tmp 29)) (some (25,true)) [26,25,22],.mk (some 31) (.load true 3 (.tmp 1)) (some (30,false)) [27],.mk (some 32) (.call 68 [.tmp 31]) (some (30,false)) [28,27,27],.mk (some 33) (.call 70 [.tmp 32,.const (.int .i64 0),.const (.int .i64 59)]) (some (30,false)) [29,29,27],.mk (some 34) (.pick (.tmp 30) (.const (.bool true)) (.tmp 33)) (some (25,true)) [27,30,22],.mk (some 35) (.pick (.tmp 25) (.tmp 34) (.const (.bool false))) none [22,31],.mk (some 2) (.mv (.tmp 35)) none [32,30,0,1,2,3,4,5,6,7,8,9,10,11,12,13,14,15,16,17,18,19,20,21,22,23,24,25,26,27,28,29,30,31,32]]
def l52 : AFn :=
  (AFn.mk 36 1 (.seq (.reg l52r0) (.seq (.reg l52r1) .ret)) [.tmp 2])
theorem l52_eq : lowFn Try.prog 52 = some l52 := by kernel_rfl
def l54r0 : List AOper :=
  [.mk (some 2) (.mv (.const (.bool false))) none []]
def l54r1 : List AOper :=
  [.mk (some 5) (.mv (.tmp 0)) none [],.mk (some 6) (.len (.tmp 5)) none [0],.mk (some 7) (.bin .gtr (.tmp 6) (.const (.int .i64 4))) none [1]]
def l54r2 : List AOper :=
  [.mk (some 2) (.mv (.const (.bool false))) none []]
def l54r3 : List AOper :=
  [.mk (some 8) (.mv (.tmp 0)) none [],.mk (some 9) (.len (.tmp 8)) none [0],.mk (some 10) (.mv (.const (.int .i64 0))) none []]
def l54r4 : List AOper :=
  [.mk (some 11) (.bin .lss (.tmp 10) (.tmp 9)) none []]
def l54r5 : List AOper :=
  [.mk (some 12) (.idxA 1 (.tmp 8) (.tmp 10)) none [],.mk (some 13) (.load false 1 (.tmp 12)) none [0],.mk (some 4) (.mv (.tmp 13)) none [1,0,1]]
def l54r6 : List AOper :=
  [.mk (some 14) (.mv (.tmp 4)) none [],.mk (some 15) (.call 56 [.tmp 14,.const (.int .i64 60)]) none [0],.mk (some 16) (.un .not (.tmp 15)) none [1]]
def l54r7 : List AOper :=
  [.mk (some 2) (.mv (.const (.bool false))) none []]
def l54r8 : List AOper :=
  [.mk (some 17) (.bin .add (.tmp 10) (.const (.int .i64 1))) none [],.mk (some 10) (.mv (.tmp 17)) none [0]]
def l54r9 : List AOper :=
  [.mk (some 18) (.mv (.tmp 0)) none [],.mk (some 19) (.call 89 [.tmp 18]) none [0],.mk (some 20) (.bin .leq (.tmp 19) (.const (.int .i64 60))) none [1],.mk (some 2) (.mv (.tmp 20)) none [2,1,0,1,2]]
def l54 : AFn :=
  (AFn.mk 21 1 (.seq (.reg l54r0) (.seq (.seq (.reg l54r1) (.cond (.tmp 7) (.seq (.reg l54r2) .ret) .skip)) (.seq (.seq (.reg l54r3) (.block 0 (.loop (.seq (.reg l54r4) (.seq (.cond (.tmp 11) .skip (.exit 0)) (.seq (.block 1 (.seq (.reg l54r5) (.seq (.reg l54r6) (.cond (.tmp 16) (.seq (.reg l54r7) .ret) .skip)))) (.reg l54r8))))))) (.seq (.reg l54r9) .ret)))) [.tmp 2])
theorem l54_eq : lowFn Try.prog 54 = some l54 := by kernel_rfl
def l55r0 : List AOper :=
  [.mk (some 4) (.mv (.const (.bool false))) none []]
def l55r1 : List AOper :=
  [.mk (some 7) (.mv (.tmp 0)) none [],.mk (some 8) (.len (.tmp 7)) none [0],.mk (some 9) (.mv (.tmp 1)) none [],.mk (some 10) (.bin .neq (.tmp 8) (.tmp 9)) none [1,2]]
def l55r2 : List AOper :=
  [.mk (some 4) (.mv (.const (.bool false))) none []]
def l55r3 : List AOper :=
  [.mk (some 11) (.mv (.tmp 0)) none [],.mk (some 12) (.len (.tmp 11)) none [0],.mk (some 13) (.mv (.const (.int .i64 0))) none []]
def l55r4 : List AOper :=
  [.mk (some 14) (.bin .lss (.tmp 13) (.tmp 12)) none []]
def l55r5 : List AOper :=
  [.mk (some 15) (.idxA 1 (.tmp 11) (.tmp 13)) none [],.mk (some 16) (.load false 1 (.tmp 15)) none [0],.mk (some 6) (.mv (.tmp 16)) none [1,0,1]]
def l55r6 : List AOper :=
  [.mk (some 17) (.mv (.tmp 6)) none [],.mk (some 18) (.call 108 [.tmp 17,.const (.int .i64 60)]) none [0],.mk (some 19) (.un .not (.tmp 18)) none [1]]
def l55r7 : List AOper :=
  [.mk (some 4) (.mv (.const (.bool false))) none []]
def l55r8 : List AOper :=
  [.mk (some 20) (.bin .add (.tmp 13) (.const (.int .i64 1))) none [],.mk (some 13) (.mv (.tmp 20)) none [0]]
def l55r9 : List AOper :=
  [.mk (some 4) (.mv (.const (.bool true))) none []]
def l55 : AFn :=
  (AFn.mk 21 2 (.seq (.reg l55r0) (.seq (.seq (.reg l55r1) (.cond (.tmp 10) (.seq (.reg l55r2) .ret) .skip)) (.seq (.seq (.reg l55r3) (.block 0 (.loop (.seq (.reg l55r4) (.seq (.cond (.tmp 14) .skip (.exit 0)) (.seq (.block 1 (.seq (.reg l55r5) (.seq (.reg l55r6) (.cond (.tmp 19) (.seq (.reg l55r7) .ret) .skip)))) (.reg l55r8))))))) (.seq (.reg l55r9) .ret)))) [.tmp 4])
theorem l55_eq : lowFn Try.prog 55 = some l55 := by kernel_rfl
def l56r0 : List AOper :=
  [.mk (some 4) (.mv (.const (.bool false))) none []]
def l56r1 : List AOper :=
  [.mk (some 5) (.mv (.tmp 0)) none [],.mk (some 6) (.bin .leq (.const (.int .i64 0)) (.tmp 5)) none [0],.mk (some 7) (.mv (.tmp 6)) none [1],.mk (some 8) (.mv (.tmp 0)) (some (7,true)) [2],.mk (some 9) (.mv (.tmp 1)) (some (7,true)) [2],.mk (some 10) (.bin .leq (.tmp 8) (.tmp 9)) (some (7,true)) [3,4,2],.mk (some 11) (.pick (.tmp 7) (.tmp 10) (.const (.bool false))) none [2,5],.mk (some 4) (.mv (.tmp 11)) none [6,2,0,1,2,3,4,5,6]]
def l56 : AFn :=
  (AFn.mk 12 2 (.seq (.reg l56r0) (.seq (.reg l56r1) .ret)) [.tmp 4])
theorem l56_eq : lowFn Try.prog 56 = some l56 := by kernel_rfl
def l57r0 : List AOper :=
  [.mk (some 1) (.box (.tmp 0)) none [],.mk (some 2) (.mv (.const (.int .i64 0))) none [],.mk (some 3) (.mv (.const (.int .i64 0))) none [1]]
def l57r1 : List AOper :=
  [.mk (some 9) (.load true 3 (.tmp 1)) none [],.mk (some 10) (.call 58 [.tmp 9]) none [0],.mk (some 11) (.bin .eql (.tmp 10) (.const (.int .i64 0))) none [1]]
def l57r2 : List AOper :=
  [.mk (some 2) (.mv (.const (.int .i64 (-1)))) none [],.mk (some 3) (.mv (.const (.int .i64 (-1)))) none [0,0]]
def l57r3a : List AOper :=
  [.mk (some 12) (.fld 0 (.tmp 1)) none [],.mk (some 13) (.load false 1 (.tmp 12)) none [0],.mk (some 14) (.fld 0 (.tmp 1)) none [],.mk (some 15) (.load false 1 (.tmp 14)) none [2],.mk (some 4) (.mv (.tmp 13)) none [1,0,1]]
def l57r3b : List AOper :=
  [.mk (some 5) (.mv (.tmp 15)) none [3,4,0,1,2,3,4]]
def l57r3 : List AOper := l57r3a ++ l57r3b
def l57r4 : List AOper :=
  [.mk (some 16) (.fld 2 (.tmp 1)) none [],.mk (some 17) (.load false 1 (.tmp 16)) none [0],.mk (some 18) (.len (.tmp 17)) none [1],.mk (some 19) (.mv (.const (.int .i64 0))) none []]
def l57r5 : List AOper :=
  [.mk (some 20) (.bin .lss (.tmp 19) (.tmp 18)) none []]
def l57r6 : List AOper :=
  [.mk (some 21) (.mv (.tmp 19)) none [],.mk (some 22) (.idxA 1 (.tmp 17) (.tmp 19)) none [],.mk (some 23) (.load false 1 (.tmp 22)) none [1],.mk (some 6) (.mv (.tmp 21)) none [0,0,1,2],.mk (some 7) (.mv (.tmp 23)) none [2,3,0,1,2,3]]
def l57r7 : List AOper :=
  [.mk (some 24) (.fld 1 (.tmp 1)) none [],.mk (some 25) (.load false 1 (.tmp 24)) none [0],.mk (some 26) (.mv (.tmp 6)) none [],.mk (some 27) (.idxA 1 (.tmp 25) (.tmp 26)) none [1,2],.mk (some 28) (.load false 1 (.tmp 27)) none [3],.mk (some 29) (.bin .sub (.tmp 28) (.const (.int .i64 1))) none [4],.mk (some 30) (.mv (.tmp 7)) none [],.mk (some 31) (.bin .mul (.tmp 29) (.tmp 30)) none [5,6],.mk (some 8) (.mv (.tmp 31)) none [7,0,1,2,3,4,5,6,7]]
def l57r8 : List AOper :=
  [.mk (some 32) (.mv (.tmp 4)) none [],.mk (some 33) (.mv (.tmp 8)) none [],.mk (some 34) (.minmax false (.tmp 33) (.const (.int .i64 0))) none [1],.mk (some 35) (.bin .add (.tmp 32) (.tmp 34)) none [0,2],.mk (some 4) (.mv (.tmp 35)) none [3,0,1,2,3]]
def l57r9 : List AOper :=
  [.mk (some 36) (.mv (.tmp 5)) none [],.mk (some 37) (.mv (.tmp 8)) none [],.mk (some 38) (.minmax true (.tmp 37) (.const (.int .i64 0))) none [1],.mk (some 39) (.bin .add (.tmp 36) (.tmp 38)) none [0,2],.mk (some 5) (.mv (.tmp 39)) none [3,0,1,2,3]]
def l57r10 : List AOper :=
  [.mk (some 40) (.bin .add (.tmp 19) (.const (.int .i64 1))) none [],.mk (some 19) (.mv (.tmp 40)) none [0]]
def l57r11 : List AOper :=
  [.mk (some 41) (.mv (.tmp 4)) none [],.mk (some 42) (.mv (.tmp 5)) none [],.mk (some 2) (.mv (.tmp 41)) none [0,0],.mk (some 3) (.mv (.tmp 42)) none [1,2,0,1,2]]
def l57 : AFn :=
  (AFn.mk 43 1 (.seq (.reg l57r0) (.seq (.seq (.reg l57r1) (.cond (.tmp 11) (.seq (.reg l57r2) .ret) .skip)) (.seq (.draw l57r3) (.seq (.seq (.reg l57r4) (.block 0 (.loop (.seq (.reg l57r5) (.seq (.cond (.tmp 20) .skip (.exit 0)) (.seq (.block 1 (.seq (.reg l57r6) (.seq (.reg l57r7) (.seq (.reg l57r8) (.reg l57r9))))) (.reg l57r10))))))) (.seq (.reg l57r11) .ret))))) [.tmp 2,.tmp 3])
theorem l57_eq : lowFn Try.prog 57 = some l57 := by kernel_rfl
def l58r0 : List AOper :=
  [.mk (some 1) (.box (.tmp 0)) none [],.mk (some 2) (.mv (.const (.int .i64 0))) none []]
def l58r1 : List AOper :=
  [.mk (some 3) (.fld 1 (.tmp 1)) none [],.mk (some 4) (.load false 1 (.tmp 3)) none [0],.mk (some 5) (.call 89 [.tmp 4]) none [1],.mk (some 2) (.mv (.tmp 5)) none [2,2,0,1,2]]
def l58 : AFn :=
  (AFn.mk 6 1 (.seq (.reg l58r0) (.seq (.reg l58r1) .ret)) [.tmp 2])
theorem l58_eq : lowFn Try.prog 58 = some l58 := by kernel_rfl
def l59r0 : List AOper :=
  [.mk (some 1) (.box (.tmp 0)) none [],.mk (some 2) (.mv (.const (.slice none 0 0))) none []]
def l59r1 : List AOper :=
  [.mk (some 3) (.load true 3 (.tmp 1)) none [],.mk (some 4) (.bslice 3 [.int .i64 0,.slice none 0 0,.slice none 0 0] [(0,.tmp 3)] 1) none [0],.mk (some 5) (.call 47 [.tmp 4]) none [1],.mk (some 6) (.call 65 [.tmp 5,.const (.int .i64 1)]) none [2,2],.mk (some 2) (.mv (.tmp 6)) none [3,3,0,1,2,3]]
def l59 : AFn :=
  (AFn.mk 7 1 (.seq (.reg l59r0) (.seq (.reg l59r1) .ret)) [.tmp 2])
theorem l59_eq : lowFn Try.prog 59 = some l59 := by kernel_rfl
def l62r0 : List AOper :=
  [.mk (some 2) (.mv (.const (.bool false))) none []]
def l62r1 : List AOper :=
  [.mk (some 3) (.mv (.tmp 0)) none [],.mk (some 4) (.bin .leq (.const (.int .i64 0)) (.tmp 3)) none [0],.mk (some 5) (.mv (.tmp 4)) none [1],.mk (some 6) (.mv (.tmp 0)) (some (5,true)) [2],.mk (some 7) (.bin .leq (.tmp 6) (.const (.int .i64 60))) (some (5,true)) [3,2],.mk (some 8) (.pick (.tmp 5) (.tmp 7) (.const (.bool false))) none [2,4],.mk (some 2) (.mv (.tmp 8)) none [5,2,0,1,2,3,4,5]]
def l62 : AFn :=
  (AFn.mk 9 1 (.seq (.reg l62r0) (.seq (.reg l62r1) .ret)) [.tmp 2])
theorem l62_eq : lowFn Try.prog 62 = some l62 := by kernel_rfl
def l64r0 : List AOper :=
  [.mk (some 4) (.mv (.const (.bool false))) none []]
def l64r1 : List AOper :=
  [.mk (some 6) (.mv (.tmp 0)) none [],.mk (some 7) (.len (.tmp 6)) none [0],.mk (some 8) (.mv (.tmp 1)) none [],.mk (some 9) (.len (.tmp 8)) none [2],.mk (some 10) (.bin .neq (.tmp 7) (.tmp 9)) none [1,3]]
def l64r2 : List AOper :=
  [.mk (some 4) (.mv (.const (.bool false))) none []]
def l64r3 : List AOper :=
  [.mk (some 11) (.mv (.tmp 0)) none [],.mk (some 12) (.len (.tmp 11)) none [0],.mk (some 13) (.mv (.const (.int .i64 0))) none []]
def l64r4 : List AOper :=
  [.mk (some 14) (.bin .lss (.tmp 13) (.tmp 12)) none []]
def l64r5 : List AOper :=
  [.mk (some 15) (.mv (.tmp 13)) none [],.mk (some 5) (.mv (.tmp 15)) none [0,0]]
def l64r6a : List AOper :=
  [.mk (some 16) (.mv (.tmp 0)) none [],.mk (some 17) (.mv (.tmp 5)) none [],.mk (some 18) (.idxA 1 (.tmp 16) (.tmp 17)) none [0,1],.mk (some 19) (.load false 1 (.tmp 18)) none [2],.mk (some 20) (.mv (.tmp 1)) none [],.mk (some 21) (.mv (.tmp 5)) none [],.mk (some 22) (.idxA 1 (.tmp 20) (.tmp 21)) none [4,5],.mk (some 23) (.load false 1 (.tmp 22)) none [6]]
def l64r6b : List AOper :=
  [.mk (some 24) (.bin .neq (.tmp 19) (.tmp 23)) none [3,7]]
def l64r6 : List AOper := l64r6a ++ l64r6b
def l64r7 : List AOper :=
  [.mk (some 4) (.mv (.const (.bool false))) none []]
def l64r8 : List AOper :=
  [.mk (some 25) (.bin .add (.tmp 13) (.const (.int .i64 1))) none [],.mk (some 13) (.mv (.tmp 25)) none [0]]
def l64r9 : List AOper :=
  [.mk (some 4) (.mv (.const (.bool true))) none []]
def l64 : AFn :=
  (AFn.mk 26 2 (.seq (.reg l64r0) (.seq (.seq (.reg l64r1) (.cond (.tmp 10) (.seq (.reg l64r2) .ret) .skip)) (.seq (.seq (.reg l64r3) (.block 0 (.loop (.seq (.reg l64r4) (.seq (.cond (.tmp 14) .skip (.exit 0)) (.seq (.block 1 (.seq (.reg l64r5) (.seq (.draw l64r6) (.cond (.tmp 24) (.seq (.reg l64r7) .ret) .skip)))) (.reg l64r8))))))) (.seq (.reg l64r9) .ret)))) [.tmp 4])
theorem l64_eq : lowFn Try.prog 64 = some l64 := by kernel_rfl
def l65r0 : List AOper :=
  [.mk (some 4) (.mv (.const (.slice none 0 0))) none []]
def l65r1 : List AOper :=
  [.mk (some 5) (.mv (.const (.slice none 0 0))) none []]
def l65r2 : List AOper :=
  [.mk (some 8) (.mv (.tmp 0)) none [],.mk (some 9) (.raw (Op.range 63 (.tmp 8))) none [0]]
def l65r3 : List AOper :=
  [.mk (some 10) (.raw (Op.next (.tmp 9) false)) none [],.mk (some 11) (.extract (.tmp 10) 0) none [0]]
def l65r4 : List AOper :=
  [.mk (some 12) (.raw (Op.entry (.tmp 9))) none [],.mk (some 13) (.extract (.tmp 12) 0) none [0],.mk (some 14) (.extract (.tmp 12) 1) none [0],.mk (some 6) (.mv (.tmp 13)) none [1,0,1],.mk (some 7) (.mv (.tmp 14)) none [2,3,0,1,2,3]]
def l65r5 : List AOper :=
  [.mk (some 15) (.mv (.tmp 7)) none [],.mk (some 16) (.mv (.tmp 1)) none [],.mk (some 17) (.bin .geq (.tmp 15) (.tmp 16)) none [0,1]]
def l65r6 : List AOper :=
  [.mk (some 18) (.mv (.tmp 5)) none [],.mk (some 19) (.mv (.tmp 6)) none [],.mk (some 20) (.bslice 1 [.int .i64 0] [(0,.tmp 19)] 1) none [1],.mk (some 21) (.append 1 (.tmp 18) (.tmp 20)) none [0,2],.mk (some 5) (.mv (.tmp 21)) none [3,3,0,1,2,3]]
def l65r7 : List AOper :=
  [.mk (some 22) (.mv (.tmp 5)) none [],.mk (some 23) (.call 111 [.tmp 22]) none [0]]
def l65r8 : List AOper :=
  [.mk (some 24) (.mv (.tmp 5)) none [],.mk (some 4) (.mv (.tmp 24)) none [0,0]]
def l65 : AFn :=
  (AFn.mk 25 2 (.seq (.reg l65r0) (.seq (.reg l65r1) (.seq (.seq (.reg l65r2) (.block 0 (.loop (.seq (.reg l65r3) (.seq (.cond (.tmp 11) .skip (.exit 0)) (.block 1 (.seq (.reg l65r4) (.seq (.reg l65r5) (.cond (.tmp 17) (.reg l65r6) .skip))))))))) (.seq (.reg l65r7) (.seq (.reg l65r8) .ret))))) [.tmp 4])
theorem l65_eq : lowFn Try.prog 65 = some l65 := by kernel_rfl
def l67r0 : List AOper :=
  [.mk (some 6) (.mv (.const (.bool false))) none []]
def l67r1 : List AOper :=
  [.mk (some 7) (.mv (.tmp 1)) none [],.mk (some 8) (.mv (.tmp 0)) none [],.mk (some 9) (.bin .leq (.tmp 7) (.tmp 8)) none [0,1],.mk (some 10) (.mv (.tmp 9)) none [2],.mk (some 11) (.mv (.tmp 0)) (some (10,true)) [3],.mk (some 12) (.mv (.tmp 2)) (some (10,true)) [3],.mk (some 13) (.bin .leq (.tmp 11) (.tmp 12)) (some (10,true)) [4,5,3],.mk (some 14) (.pick (.tmp 10) (.tmp 13) (.const (.bool false))) none [3,6],.mk (some 6) (.mv (.tmp 14)) none [7,3,0,1,2,3,4,5,6,7]]
def l67 : AFn :=
  (AFn.mk 15 3 (.seq (.reg l67r0) (.seq (.reg l67r1) .ret)) [.tmp 6])
theorem l67_eq : lowFn Try.prog 67 = some l67 := by kernel_rfl
def l68r0 : List AOper :=
  [.mk (some 1) (.box (.tmp 0)) none [],.mk (some 2) (.mv (.const (.slice none 0 0))) none []]
def l68r1 : List AOper :=
  [.mk (some 5) (.bslice 1 [.int .i64 0] [] 0) none [],.mk (some 3) (.mv (.tmp 5)) none [0,0]]
def l68r2 : List AOper :=
  [.mk (some 4) (.mv (.const (.int .i64 0))) none []]
def l68r3 : List AOper :=
  [.mk (some 6) (.mv (.tmp 4)) none [],.mk (some 7) (.fld 1 (.tmp 1)) none [],.mk (some 8) (.load false 1 (.tmp 7)) none [1],.mk (some 9) (.call 107 [.tmp 8]) none [2],.mk (some 10) (.bin .lss (.tmp 6) (.tmp 9)) none [0,3]]
def l68r4a : List AOper :=
  [.mk (some 13) (.mv (.tmp 3)) none [],.mk (some 14) (.load true 3 (.tmp 1)) none [],.mk (some 15) (.fld 1 (.tmp 1)) none [],.mk (some 16) (.load false 1 (.tmp 15)) none [2],.mk (some 17) (.mv (.tmp 4)) none [],.mk (some 18) (.call 113 [.tmp 16,.tmp 17]) none [3,4],.mk (some 19) (.call 112 [.tmp 14,.tmp 18]) none [1,5,5],.mk (some 20) (.bslice 1 [.int .i64 0] [(0,.tmp 19)] 1) none [6]]
def l68r4b : List AOper :=
  [.mk (some 21) (.append 1 (.tmp 13) (.tmp 20)) none [0,7,6],.mk (some 3) (.mv (.tmp 21)) none [8,8,0,1,2,3,4,5,6,7,8]]
def l68r4 : List AOper := l68r4a ++ l68r4b
def l68r5 : List AOper :=
  [.mk (some 11) (.mv (.tmp 4)) none [],.mk (some 12) (.bin .add (.tmp 11) (.const (.int .i64 1))) none [0],.mk (some 4) (.mv (.tmp 12)) none [1,0,1]]
def l68r6 : List AOper :=
  [.mk (some 22) (.mv (.tmp 3)) none [],.mk (some 2) (.mv (.tmp 22)) none [0,0]]
def l68 : AFn :=
  (AFn.mk 23 1 (.seq (.reg l68r0) (.seq (.reg l68r1) (.seq (.seq (.reg l68r2) (.block 0 (.loop (.seq (.seq (.reg l68r3) (.cond (.tmp 10) .skip (.exit 0))) (.seq (.block 1 (.draw l68r4)) (.reg l68r5)))))) (.seq (.reg l68r6) .ret)))) [.tmp 2])
theorem l68_eq : lowFn Try.prog 68 = some l68 := by kernel_rfl
def l69r0 : List AOper :=
  [.mk (some 2) (.mv (.const (.bool false))) none []]
def l69r1 : List AOper :=
  [.mk (some 3) (.mv (.const (.int .i64 0))) none []]
def l69r2 : List AOper :=
  [.mk (some 4) (.mv (.tmp 3)) none [],.mk (some 5) (.mv (.tmp 0)) none [],.mk (some 6) (.len (.tmp 5)) none [1],.mk (some 7) (.bin .lss (.tmp 4) (.tmp 6)) none [0,2]]
def l69r3a : List AOper :=
  [.mk (some 10) (.mv (.tmp 0)) none [],.mk (some 11) (.mv (.tmp 3)) none [],.mk (some 12) (.slice 1 (.tmp 10) none (some (.tmp 11))) none [0,1],.mk (some 13) (.mv (.tmp 0)) none [],.mk (some 14) (.mv (.tmp 3)) none [],.mk (some 15) (.idxA 1 (.tmp 13) (.tmp 14)) none [3,4],.mk (some 16) (.load false 1 (.tmp 15)) none [5]]
def l69r3b : List AOper :=
  [.mk (some 17) (.call 76 [.tmp 12,.tmp 16]) none [2,6],.mk (some 18) (.bin .geq (.tmp 17) (.const (.int .i64 0))) none [7]]
def l69r3 : List AOper := l69r3a ++ l69r3b
def l69r4 : List AOper :=
  [.mk (some 2) (.mv (.const (.bool false))) none []]
def l69r5 : List AOper :=
  [.mk (some 8) (.mv (.tmp 3)) none [],.mk (some 9) (.bin .add (.tmp 8) (.const (.int .i64 1))) none [0],.mk (some 3) (.mv (.tmp 9)) none [1,0,1]]
def l69r6 : List AOper :=
  [.mk (some 2) (.mv (.const (.bool true))) none []]
def l69 : AFn :=
  (AFn.mk 19 1 (.seq (.reg l69r0) (.seq (.seq (.reg l69r1) (.block 0 (.loop (.seq (.seq (.reg l69r2) (.cond (.tmp 7) .skip (.exit 0))) (.seq (.block 1 (.seq (.draw l69r3) (.cond (.tmp 18) (.seq (.reg l69r4) .ret) .skip))) (.reg l69r5)))))) (.seq (.reg l69r6) .ret))) [.tmp 2])
theorem l69_eq : lowFn Try.prog 69 = some l69 := by kernel_rfl
def l70r0 : List AOper :=
  [.mk (some 6) (.mv (.const (.bool false))) none []]
def l70r1 : List AOper :=
  [.mk (some 7) (.mv (.const (.int .i64 0))) none []]
def l70r2 : List AOper :=
  [.mk (some 8) (.mv (.tmp 7)) none [],.mk (some 9) (.mv (.tmp 0)) none [],.mk (some 10) (.len (.tmp 9)) none [1],.mk (some 11) (.bin .lss (.tmp 8) (.tmp 10)) none [0,2]]
def l70r3 : List AOper :=
  [.mk (some 14) (.mv (.tmp 0)) none [],.mk (some 15) (.mv (.tmp 7)) none [],.mk (some 16) (.idxA 1 (.tmp 14) (.tmp 15)) none [0,1],.mk (some 17) (.load false 1 (.tmp 16)) none [2],.mk (some 18) (.mv (.tmp 1)) none [],.mk (some 19) (.mv (.tmp 2)) none [],.mk (some 20) (.call 67 [.tmp 17,.tmp 18,.tmp 19]) none [3,4,5],.mk (some 21) (.un .not (.tmp 20)) none [6]]
def l70r4 : List AOper :=
  [.mk (some 6) (.mv (.const (.bool false))) none []]
def l70r5 : List AOper :=
  [.mk (some 12) (.mv (.tmp 7)) none [],.mk (some 13) (.bin .add (.tmp 12) (.const (.int .i64 1))) none [0],.mk (some 7) (.mv (.tmp 13)) none [1,0,1]]
def l70r6 : List AOper :=
  [.mk (some 6) (.mv (.const (.bool true))) none []]
def l70 : AFn :=
  (AFn.mk 22 3 (.seq (.reg l70r0) (.seq (.seq (.reg l70r1) (.block 0 (.loop (.seq (.seq (.reg l70r2) (.cond (.tmp 11) .skip (.exit 0))) (.seq (.block 1 (.seq (.reg l70r3) (.cond (.tmp 21) (.seq (.reg l70r4) .ret) .skip))) (.reg l70r5)))))) (.seq (.reg l70r6) .ret))) [.tmp 6])
theorem l70_eq : lowFn Try.prog 70 = some l70 := by kernel_rfl
def l71r0 : List AOper :=
  [.mk (some 6) (.mv (.tmp 1)) none [],.mk (some 7) (.len (.tmp 6)) none [0],.mk (some 8) (.mv (.const (.int .i64 0))) none []]
def l71r1 : List AOper :=
  [.mk (some 9) (.bin .lss (.tmp 8) (.tmp 7)) none []]
def l71r2 : List AOper :=
  [.mk (some 10) (.idxA 1 (.tmp 6) (.tmp 8)) none [],.mk (some 11) (.load false 1 (.tmp 10)) none [0],.mk (some 5) (.mv (.tmp 11)) none [1,0,1]]
def l71r3 : List AOper :=
  [.mk (some 12) (.mv (.tmp 0)) none [],.mk (some 13) (.mv (.tmp 5)) none [],.mk (some 14) (.raw (Op.lookup 63 (.tmp 12) (.tmp 13) false)) none [0,1],.mk (some 15) (.bin .add (.tmp 14) (.const (.int .i64 1))) none [2],.mk none (.raw (Op.mapUpdate 63 (.tmp 12) (.tmp 13) (.tmp 15))) none [0,1,3,0,1,2,3]]
def l71r4 : List AOper :=
  [.mk (some 16) (.bin .add (.tmp 8) (.const (.int .i64 1))) none [],.mk (some 8) (.mv (.tmp 16)) none [0]]
def l71 : AFn :=
  (AFn.mk 17 2 (.seq (.reg l71r0) (.block 0 (.loop (.seq (.reg l71r1) (.seq (.cond (.tmp 9) .skip (.exit 0)) (.seq (.block 1 (.seq (.reg l71r2) (.reg l71r3))) (.reg l71r4))))))) [])
theorem l71_eq : lowFn Try.prog 71 = some l71 := by kernel_rfl
def l72r0 : List AOper :=
  [.mk (some 1) (.box (.tmp 0)) none [],.mk (some 2) (.mv (.const (.slice none 0 0))) none []]
def l72r1 : List AOper :=
  [.mk (some 5) (.load true 3 (.tmp 1)) none [],.mk (some 6) (.call 58 [.tmp 5]) none [0],.mk (some 7) (.mkslice 1 [.int .i64 0] (.tmp 6) (.tmp 6)) none [1,1],.mk (some 3) (.mv (.tmp 7)) none [2,1,0,1,2]]
def l72r2 : List AOper :=
  [.mk (some 8) (.mv (.tmp 3)) none [],.mk (some 9) (.len (.tmp 8)) none [0],.mk (some 10) (.mv (.const (.int .i64 0))) none []]
def l72r3 : List AOper :=
  [.mk (some 11) (.bin .lss (.tmp 10) (.tmp 9)) none []]
def l72r4 : List AOper :=
  [.mk (some 12) (.mv (.tmp 10)) none [],.mk (some 4) (.mv (.tmp 12)) none [0,0]]
def l72r5a : List AOper :=
  [.mk (some 13) (.mv (.tmp 3)) none [],.mk (some 14) (.mv (.tmp 4)) none [],.mk (some 15) (.load true 3 (.tmp 1)) none [],.mk (some 16) (.fld 1 (.tmp 1)) none [],.mk (some 17) (.load false 1 (.tmp 16)) none [3],.mk (some 18) (.mv (.tmp 4)) none [],.mk (some 19) (.call 90 [.tmp 17,.tmp 18]) none [4,5],.mk (some 20) (.call 93 [.tmp 15,.tmp 19]) none [2,6,6]]
def l72r5b : List AOper :=
  [.mk (some 21) (.idxA 1 (.tmp 13) (.tmp 14)) none [0,1,0,1,2,3,4,5,6,7],.mk none (.store 1 (.tmp 21) (.tmp 20)) none [8,7,7,0,1,2,3,4,5,6,7]]
def l72r5 : List AOper := l72r5a ++ l72r5b
def l72r6 : List AOper :=
  [.mk (some 22) (.bin .add (.tmp 10) (.const (.int .i64 1))) none [],.mk (some 10) (.mv (.tmp 22)) none [0]]
def l72r7 : List AOper :=
  [.mk (some 23) (.mv (.tmp 3)) none [],.mk (some 2) (.mv (.tmp 23)) none [0,0]]
def l72 : AFn :=
  (AFn.mk 24 1 (.seq (.reg l72r0) (.seq (.reg l72r1) (.seq (.seq (.reg l72r2) (.block 0 (.loop (.seq (.reg l72r3) (.seq (.cond (.tmp 11) .skip (.exit 0)) (.seq (.block 1 (.seq (.reg l72r4) (.draw l72r5))) (.reg l72r6))))))) (.seq (.reg l72r7) .ret)))) [.tmp 2])
theorem l72_eq : lowFn Try.prog 72 = some l72 := by kernel_rfl
def l73r0 : List AOper :=
  [.mk (some 2) (.box (.tmp 0)) none [],.mk (some 3) (.box (.tmp 1)) none [],.mk (some 4) (.mv (.const (.slice none 0 0))) none []]
def l73r1 : List AOper :=
  [.mk (some 5) (.load true 3 (.tmp 2)) none [],.mk (some 6) (.call 12 [.tmp 5]) none [0],.mk (some 7) (.un .not (.tmp 6)) none [1],.mk (some 8) (.mv (.tmp 7)) none [2,1],.mk (some 9) (.load true 3 (.tmp 3)) (some (8,false)) [3],.mk (some 10) (.call 12 [.tmp 9]) (some (8,false)) [4,3,3],.mk (some 11) (.un .not (.tmp 10)) (some (8,false)) [5,3],.mk (some 12) (.pick (.tmp 8) (.const (.bool true)) (.tmp 11)) none [3,6]]
def l73r2 : List AOper :=
  [.mk (some 4) (.mv (.const (.slice none 0 0))) none []]
def l73r3 : List AOper :=
  [.mk (some 13) (.load true 3 (.tmp 2)) none [],.mk (some 14) (.load true 3 (.tmp 3)) none [],.mk (some 15) (.call 114 [.tmp 13,.tmp 14]) none [0,1],.mk (some 4) (.mv (.tmp 15)) none [2,2,0,1,2]]
def l73 : AFn :=
  (AFn.mk 16 2 (.seq (.reg l73r0) (.seq (.seq (.reg l73r1) (.cond (.tmp 12) (.seq (.reg l73r2) .ret) .skip)) (.seq (.reg l73r3) .ret))) [.tmp 4])
theorem l73_eq : lowFn Try.prog 73 = some l73 := by kernel_rfl
def l76r0 : List AOper :=
  [.mk (some 4) (.mv (.const (.int .i64 0))) none []]
def l76r1 : List AOper :=
  [.mk (some 5) (.mv (.const (.int .i64 0))) none []]
def l76r2 : List AOper :=
  [.mk (some 6) (.mv (.tmp 5)) none [],.mk (some 7) (.mv (.tmp 0)) none [],.mk (some 8) (.len (.tmp 7)) none [1],.mk (some 9) (.bin .lss (.tmp 6) (.tmp 8)) none [0,2]]
def l76r3 : List AOper :=
  [.mk (some 12) (.mv (.tmp 0)) none [],.mk (some 13) (.mv (.tmp 5)) none [],.mk (some 14) (.idxA 1 (.tmp 12) (.tmp 13)) none [0,1],.mk (some 15) (.load false 1 (.tmp 14)) none [2],.mk (some 16) (.mv (.tmp 1)) none [],.mk (some 17) (.bin .eql (.tmp 15) (.tmp 16)) none [3,4]]
def l76r4 : List AOper :=
  [.mk (some 18) (.mv (.tmp 5)) none [],.mk (some 4) (.mv (.tmp 18)) none [0,0]]
def l76r5 : List AOper :=
  [.mk (some 10) (.mv (.tmp 5)) none [],.mk (some 11) (.bin .add (.tmp 10) (.const (.int .i64 1))) none [0],.mk (some 5) (.mv (.tmp 11)) none [1,0,1]]
def l76r6 : List AOper :=
  [.mk (some 4) (.mv (.const (.int .i64 (-1)))) none []]
def l76 : AFn :=
  (AFn.mk 19 2 (.seq (.reg l76r0) (.seq (.seq (.reg l76r1) (.block 0 (.loop (.seq (.seq (.reg l76r2) (.cond (.tmp 9) .skip (.exit 0))) (.seq (.block 1 (.seq (.reg l76r3) (.cond (.tmp 17) (.seq (.reg l76r4) .ret) .skip))) (.reg l76r5)))))) (.seq (.reg l76r6) .ret))) [.tmp 4])
theorem l76_eq : lowFn Try.prog 76 = some l76 := by kernel_rfl
def l89r0 : List AOper :=
  [.mk (some 2) (.mv (.const (.int .i64 0))) none []]
def l89r1 : List AOper :=
  [.mk (some 3) (.mv (.const (.int .i64 1))) none []]
def l89r2 : List AOper :=
  [.mk (some 6) (.mv (.tmp 0)) none [],.mk (some 7) (.len (.tmp 6)) none [0],.mk (some 8) (.mv (.const (.int .i64 0))) none []]
def l89r3 : List AOper :=
  [.mk (some 9) (.bin .lss (.tmp 8) (.tmp 7)) none []]
def l89r4 : List AOper :=
  [.mk (some 10) (.idxA 1 (.tmp 6) (.tmp 8)) none [],.mk (some 11) (.load false 1 (.tmp 10)) none [0],.mk (some 5) (.mv (.tmp 11)) none [1,0,1]]
def l89r5 : List AOper :=
  [.mk (some 12) (.mv (.tmp 3)) none [],.mk (some 13) (.mv (.tmp 5)) none [],.mk (some 14) (.bin .mul (.tmp 12) (.tmp 13)) none [0,1],.mk (some 3) (.mv (.tmp 14)) none [2,0,1,2]]
def l89r6 : List AOper :=
  [.mk (some 15) (.bin .add (.tmp 8) (.const (.int .i64 1))) none [],.mk (some 8) (.mv (.tmp 15)) none [0]]
def l89r7 : List AOper :=
  [.mk (some 16) (.mv (.tmp 3)) none [],.mk (some 2) (.mv (.tmp 16)) none [0,0]]
def l89 : AFn :=
  (AFn.mk 17 1 (.seq (.reg l89r0) (.seq (.reg l89r1) (.seq (.seq (.reg l89r2) (.block 0 (.loop (.seq (.reg l89r3) (.seq (.cond (.tmp 9) .skip (.exit 0)) (.seq (.block 1 (.seq (.reg l89r4) (.reg l89r5))) (.reg l89r6))))))) (.seq (.reg l89r7) .ret)))) [.tmp 2])
theorem l89_eq : lowFn Try.prog 89 = some l89 := by kernel_rfl
def l90r0 : List AOper :=
  [.mk (some 4) (.alloc [.int .i64 0,.int .i64 0,.int .i64 0,.int .i64 0]) none []]
def l90r1 : List AOper :=
  [.mk (some 5) (.alloc [.int .i64 0,.int .i64 0,.int .i64 0,.int .i64 0]) none []]
def l90r2 : List AOper :=
  [.mk (some 7) (.mv (.tmp 0)) none [],.mk (some 8) (.len (.tmp 7)) none [0],.mk (some 9) (.bin .sub (.tmp 8) (.const (.int .i64 1))) none [1],.mk (some 6) (.mv (.tmp 9)) none [2,0,1,2]]
def l90r3 : List AOper :=
  [.mk (some 10) (.mv (.tmp 6)) none [],.mk (some 11) (.bin .geq (.tmp 10) (.const (.int .i64 0))) none [0]]
def l90r4 : List AOper :=
  [.mk (some 14) (.mv (.tmp 6)) none [],.mk (some 15) (.mv (.tmp 1)) none [],.mk (some 16) (.mv (.tmp 0)) none [],.mk (some 17) (.mv (.tmp 6)) none [],.mk (some 18) (.idxA 1 (.tmp 16) (.tmp 17)) none [2,3],.mk (some 19) (.load false 1 (.tmp 18)) none [4],.mk (some 20) (.bin .rem (.tmp 15) (.tmp 19)) none [1,5],.mk (some 21) (.idxP 1 4 (.tmp 5) (.tmp 14)) none [0,0,1,2,3,4,5,6],.mk none (.store 1 (.tmp 21) (.tmp 20)) none [7,6,0,1,2,3,4,5,6]]
def l90r5 : List AOper :=
  [.mk (some 22) (.mv (.tmp 1)) none [],.mk (some 23) (.mv (.tmp 0)) none [],.mk (some 24) (.mv (.tmp 6)) none [],.mk (some 25) (.idxA 1 (.tmp 23) (.tmp 24)) none [1,2],.mk (some 26) (.load false 1 (.tmp 25)) none [3],.mk (some 27) (.bin .quo (.tmp 22) (.tmp 26)) none [0,4],.mk (some 1) (.mv (.tmp 27)) none [5,0,1,2,3,4,5]]
def l90r6 : List AOper :=
  [.mk (some 12) (.mv (.tmp 6)) none [],.mk (some 13) (.bin .sub (.tmp 12) (.const (.int .i64 1))) none [0],.mk (some 6) (.mv (.tmp 13)) none [1,0,1]]
def l90r7 : List AOper :=
  [.mk (some 28) (.load true 4 (.tmp 5)) none [],.mk none (.store 4 (.tmp 4) (.tmp 28)) none [0,0]]
def l90 : AFn :=
  (AFn.mk 29 2 (.seq (.reg l90r0) (.seq (.reg l90r1) (.seq (.seq (.reg l90r2) (.block 0 (.loop (.seq (.seq (.reg l90r3) (.cond (.tmp 11) .skip (.exit 0))) (.seq (.block 1 (.seq (.reg l90r4) (.reg l90r5))) (.reg l90r6)))))) (.seq (.reg l90r7) .ret)))) [.cell 4 true 4])
theorem l90_eq : lowFn Try.prog 90 = some l90 := by kernel_rfl
def l91r0 : List AOper :=
  [.mk (some 2) (.mv (.const (.slice none 0 0))) none []]
def l91r1 : List AOper :=
  [.mk (some 3) (.mv (.tmp 0)) none [],.mk (some 4) (.isnil false (.tmp 3)) none [0]]
def l91r2 : List AOper :=
  [.mk (some 2) (.mv (.const (.slice none 0 0))) none []]
def l91r3 : List AOper :=
  [.mk (some 5) (.bslice 1 [.int .i64 0] [] 0) none [],.mk (some 6) (.mv (.tmp 0)) none [],.mk (some 7) (.append 1 (.tmp 5) (.tmp 6)) none [0,1],.mk (some 2) (.mv (.tmp 7)) none [2,2,0,1,2]]
def l91 : AFn :=
  (AFn.mk 8 1 (.seq (.reg l91r0) (.seq (.seq (.reg l91r1) (.cond (.tmp 4) (.seq (.reg l91r2) .ret) .skip)) (.seq (.reg l91r3) .ret))) [.tmp 2])
theorem l91_eq : lowFn Try.prog 91 = some l91 := by kernel_rfl
def l93r0 : List AOper :=
  [.mk (some 2) (.box (.tmp 0)) none [],.mk (some 3) (.box (.tmp 1)) none [],.mk (some 4) (.mv (.const (.int .i64 0))) none []]
def l93r1a : List AOper :=
  [.mk (some 5) (.fld 0 (.tmp 2)) none [],.mk (some 6) (.load false 1 (.tmp 5)) none [0],.mk (some 7) (.load true 4 (.tmp 3)) none [],.mk (some 8) (.fld 2 (.tmp 2)) none [],.mk (some 9) (.load false 1 (.tmp 8)) none [3],.mk (some 10) (.call 118 [.tmp 7,.tmp 9]) none [2,4]]
def l93r1b : List AOper :=
  [.mk (some 11) (.bin .add (.tmp 6) (.tmp 10)) none [1,5],.mk (some 4) (.mv (.tmp 11)) none [6,5,0,1,2,3,4,5,6]]
def l93r1 : List AOper := l93r1a ++ l93r1b
def l93 : AFn :=
  (AFn.mk 12 2 (.seq (.reg l93r0) (.seq (.draw l93r1) .ret)) [.tmp 4])
theorem l93_eq : lowFn Try.prog 93 = some l93 := by kernel_rfl
def l94r0 : List AOper :=
  [.mk (some 4) (.mv (.const (.int .i64 0))) none []]
def l94r1 : List AOper :=
  [.mk (some 5) (.mv (.tmp 1)) none [],.mk (some 6) (.mv (.tmp 0)) none [],.mk (some 7) (.len (.tmp 6)) none [1],.mk (some 8) (.bin .sub (.tmp 5) (.tmp 7)) none [0,2],.mk (some 1) (.mv (.tmp 8)) none [3,0,1,2,3]]
def l94r2 : List AOper :=
  [.mk (some 9) (.mv (.tmp 1)) none [],.mk (some 10) (.bin .lss (.tmp 9) (.const (.int .i64 0))) none [0]]
def l94r3 : List AOper :=
  [.mk (some 4) (.mv (.const (.int .i64 (-1)))) none []]
def l94r4 : List AOper :=
  [.mk (some 11) (.mv (.tmp 1)) none [],.mk (some 4) (.mv (.tmp 11)) none [0,0]]
def l94 : AFn :=
  (AFn.mk 12 2 (.seq (.reg l94r0) (.seq (.reg l94r1) (.seq (.seq (.reg l94r2) (.cond (.tmp 10) (.seq (.reg l94r3) .ret) .skip)) (.seq (.reg l94r4) .ret)))) [.tmp 4])
theorem l94_eq : lowFn Try.prog 94 = some l94 := by kernel_rfl
def l95r0 : List AOper :=
  [.mk (some 4) (.box (.tmp 1)) none [],.mk (some 5) (.box (.tmp 2)) none [],.mk (some 6) (.mv (.const (.bool false))) none []]
def l95r1 : List AOper :=
  [.mk (some 7) (.mv (.tmp 0)) none [],.mk (some 8) (.load true 3 (.tmp 4)) none [],.mk (some 9) (.call 119 [.tmp 7,.tmp 8]) none [0,1],.mk (some 10) (.mv (.tmp 9)) none [2,2],.mk (some 11) (.mv (.tmp 0)) (some (10,true)) [3],.mk (some 12) (.load true 3 (.tmp 5)) (some (10,true)) [3],.mk (some 13) (.call 119 [.tmp 11,.tmp 12]) (some (10,true)) [4,5,3,3],.mk (some 14) (.pick (.tmp 10) (.tmp 13) (.const (.bool false))) none [3,6],.mk (some 15) (.mv (.tmp 14)) none [7,6],.mk (some 16) (.fld 1 (.tmp 4)) (some (15,true)) [8],.mk (some 17) (.load false 1 (.tmp 16)) (some (15,true)) [9,8],.mk (some 18) (.fld 1 (.tmp 5)) (some (15,true)) [8],.mk (some 19) (.load false 1 (.tmp 18)) (some (15,true)) [11,8],.mk (some 20) (.call 120 [.tmp 17,.tmp 19]) (some (15,true)) [10,12,8,8],.mk (some 21) (.pick (.tmp 15) (.tmp 20) (.const (.bool false))) none [8,13],.mk (some 6) (.mv (.tmp 21)) none [14,13,0,1,2,3,4,5,6,7,8,9,10,11,12,13,14]]
def l95 : AFn :=
  (AFn.mk 22 3 (.seq (.reg l95r0) (.seq (.reg l95r1) .ret)) [.tmp 6])
theorem l95_eq : lowFn Try.prog 95 = some l95 := by kernel_rfl
def l96r0 : List AOper :=
  [.mk (some 4) (.mv (.const (.slice none 0 0))) none []]
def l96r1 : List AOper :=
  [.mk (some 7) (.bslice 1 [.int .i64 0] [] 0) none [],.mk (some 5) (.mv (.tmp 7)) none [0,0]]
def l96r2 : List AOper :=
  [.mk (some 6) (.mv (.const (.int .i64 0))) none []]
def l96r3 : List AOper :=
  [.mk (some 8) (.mv (.tmp 6)) none [],.mk (some 9) (.bin .lss (.tmp 8) (.const (.int .i64 60))) none [0]]
def l96r4 : List AOper :=
  [.mk (some 12) (.mv (.tmp 0)) none [],.mk (some 13) (.mv (.tmp 6)) none [],.mk (some 14) (.call 76 [.tmp 12,.tmp 13]) none [0,1],.mk (some 15) (.bin .geq (.tmp 14) (.const (.int .i64 0))) none [2],.mk (some 16) (.mv (.tmp 15)) none [3,2],.mk (some 17) (.mv (.tmp 1)) (some (16,true)) [4],.mk (some 18) (.mv (.tmp 6)) (some (16,true)) [4],.mk (some 19) (.call 76 [.tmp 17,.tmp 18]) (some (16,true)) [5,6,4,4],.mk (some 20) (.bin .geq (.tmp 19) (.const (.int .i64 0))) (some (16,true)) [7,4],.mk (some 21) (.pick (.tmp 16) (.tmp 20) (.const (.bool false))) none [4,8]]
def l96r5 : List AOper :=
  [.mk (some 22) (.mv (.tmp 5)) none [],.mk (some 23) (.mv (.tmp 6)) none [],.mk (some 24) (.bslice 1 [.int .i64 0] [(0,.tmp 23)] 1) none [1],.mk (some 25) (.append 1 (.tmp 22) (.tmp 24)) none [0,2],.mk (some 5) (.mv (.tmp 25)) none [3,3,0,1,2,3]]
def l96r6 : List AOper :=
  [.mk (some 10) (.mv (.tmp 6)) none [],.mk (some 11) (.bin .add (.tmp 10) (.const (.int .i64 1))) none [0],.mk (some 6) (.mv (.tmp 11)) none [1,0,1]]
def l96r7 : List AOper :=
  [.mk (some 26) (.mv (.tmp 5)) none [],.mk (some 4) (.mv (.tmp 26)) none [0,0]]
def l96 : AFn :=
  (AFn.mk 27 2 (.seq (.reg l96r0) (.seq (.reg l96r1) (.seq (.seq (.reg l96r2) (.block 0 (.loop (.seq (.seq (.reg l96r3) (.cond (.tmp 9) .skip (.exit 0))) (.seq (.block 1 (.seq (.reg l96r4) (.cond (.tmp 21) (.reg l96r5) .skip))) (.reg l96r6)))))) (.seq (.reg l96r7) .ret)))) [.tmp 4])
theorem l96_eq : lowFn Try.prog 96 = some l96 := by kernel_rfl
def l97r0 : List AOper :=
  [.mk (some 4) (.box (.tmp 1)) none [],.mk (some 6) (.mv (.const (.slice none 0 0))) none []]
def l97r1 : List AOper :=
  [.mk (some 10) (.mv (.tmp 0)) none [],.mk (some 11) (.call 115 [.tmp 10]) none [0],.mk (some 7) (.mv (.tmp 11)) none [1,1,0,1]]
def l97r2 : List AOper :=
  [.mk (some 12) (.load true 3 (.tmp 4)) none [],.mk (some 13) (.call 68 [.tmp 12]) none [0],.mk (some 8) (.mv (.tmp 13)) none [1,1,0,1]]
def l97r3 : List AOper :=
  [.mk (some 9) (.mv (.const (.int .i64 0))) none []]
def l97r4 : List AOper :=
  [.mk (some 14) (.mv (.tmp 9)) none [],.mk (some 15) (.mv (.tmp 8)) none [],.mk (some 16) (.len (.tmp 15)) none [1],.mk (some 17) (.bin .lss (.tmp 14) (.tmp 16)) none [0,2]]
def l97r5a : List AOper :=
  [.mk (some 20) (.mv (.tmp 7)) none [],.mk (some 21) (.mv (.tmp 8)) none [],.mk (some 22) (.mv (.tmp 9)) none [],.mk (some 23) (.idxA 1 (.tmp 21) (.tmp 22)) none [1,2],.mk (some 24) (.load false 1 (.tmp 23)) none [3],.mk (some 25) (.mv (.tmp 2)) none [],.mk (some 26) (.mv (.tmp 9)) none [],.mk (some 27) (.idxA 1 (.tmp 25) (.tmp 26)) none [5,6],.mk (some 28) (.load false 1 (.tmp 27)) none [7]]
def l97r5b : List AOper :=
  [.mk (some 29) (.idxA 1 (.tmp 20) (.tmp 24)) none [0,4,0,1,2,3,4,5,6,7,8],.mk none (.store 1 (.tmp 29) (.tmp 28)) none [9,8,0,1,2,3,4,5,6,7,8]]
def l97r5 : List AOper := l97r5a ++ l97r5b
def l97r6 : List AOper :=
  [.mk (some 18) (.mv (.tmp 9)) none [],.mk (some 19) (.bin .add (.tmp 18) (.const (.int .i64 1))) none [0],.mk (some 9) (.mv (.tmp 19)) none [1,0,1]]
def l97r7 : List AOper :=
  [.mk (some 30) (.mv (.tmp 7)) none [],.mk (some 6) (.mv (.tmp 30)) none [0,0]]
def l97 : AFn :=
  (AFn.mk 31 3 (.seq (.reg l97r0) (.seq (.reg l97r1) (.seq (.reg l97r2) (.seq (.seq (.reg l97r3) (.block 0 (.loop (.seq (.seq (.reg l97r4) (.cond (.tmp 17) .skip (.exit 0))) (.seq (.block 1 (.draw l97r5)) (.reg l97r6)))))) (.seq (.reg l97r7) .ret))))) [.tmp 6])
theorem l97_eq : lowFn Try.prog 97 = some l97 := by kernel_rfl
def l98r0 : List AOper :=
  [.mk (some 3) (.box (.tmp 1)) none [],.mk (some 4) (.mv (.const (.slice none 0 0))) none []]
def l98r1 : List AOper :=
  [.mk (some 8) (.bslice 1 [.int .i64 0] [] 0) none [],.mk (some 5) (.mv (.tmp 8)) none [0,0]]
def l98r2 : List AOper :=
  [.mk (some 9) (.load true 3 (.tmp 3)) none [],.mk (some 10) (.call 68 [.tmp 9]) none [0],.mk (some 6) (.mv (.tmp 10)) none [1,1,0,1]]
def l98r3 : List AOper :=
  [.mk (some 7) (.mv (.const (.int .i64 0))) none []]
def l98r4 : List AOper :=
  [.mk (some 11) (.mv (.tmp 7)) none [],.mk (some 12) (.mv (.tmp 6)) none [],.mk (some 13) (.len (.tmp 12)) none [1],.mk (some 14) (.bin .lss (.tmp 11) (.tmp 13)) none [0,2]]
def l98r5 : List AOper :=
  [.mk (some 17) (.mv (.tmp 5)) none [],.mk (some 18) (.mv (.tmp 0)) none [],.mk (some 19) (.mv (.tmp 6)) none [],.mk (some 20) (.mv (.tmp 7)) none [],.mk (some 21) (.idxA 1 (.tmp 19) (.tmp 20)) none [2,3],.mk (some 22) (.load false 1 (.tmp 21)) none [4],.mk (some 23) (.idxA 1 (.tmp 18) (.tmp 22)) none [1,5],.mk (some 24) (.load false 1 (.tmp 23)) none [6],.mk (some 25) (.bslice 1 [.int .i64 0] [(0,.tmp 24)] 1) none [7],.mk (some 26) (.append 1 (.tmp 17) (.tmp 25)) none [0,8],.mk (some 5) (.mv (.tmp 26)) none [9,9,0,1,2,3,4,5,6,7,8,9]]
def l98r6 : List AOper :=
  [.mk (some 15) (.mv (.tmp 7)) none [],.mk (some 16) (.bin .add (.tmp 15) (.const (.int .i64 1))) none [0],.mk (some 7) (.mv (.tmp 16)) none [1,0,1]]
def l98r7 : List AOper :=
  [.mk (some 27) (.mv (.tmp 5)) none [],.mk (some 4) (.mv (.tmp 27)) none [0,0]]
def l98 : AFn :=
  (AFn.mk 28 2 (.seq (.reg l98r0) (.seq (.reg l98r1) (.seq (.reg l98r2) (.seq (.seq (.reg l98r3) (.block 0 (.loop (.seq (.seq (.reg l98r4) (.cond (.tmp 14) .skip (.exit 0))) (.seq (.block 1 (.reg l98r5)) (.reg l98r6)))))) (.seq (.reg l98r7) .ret))))) [.tmp 4])
theorem l98_eq : lowFn Try.prog 98 = some l98 := by kernel_rfl
def l99r0 : List AOper :=
  [.mk (some 4) (.box (.tmp 1)) none [],.mk (some 5) (.box (.tmp 2)) none [],.mk (some 6) (.mv (.const (.bool false))) none []]
def l99r1 : List AOper :=
  [.mk (some 7) (.mv (.tmp 0)) none [],.mk (some 8) (.load true 3 (.tmp 4)) none [],.mk (some 9) (.call 121 [.tmp 7,.tmp 8]) none [0,1],.mk (some 10) (.mv (.tmp 9)) none [2,2],.mk (some 11) (.mv (.tmp 0)) (some (10,true)) [3],.mk (some 12) (.load true 3 (.tmp 5)) (some (10,true)) [3],.mk (some 13) (.call 121 [.tmp 11,.tmp 12]) (some (10,true)) [4,5,3,3],.mk (some 14) (.pick (.tmp 10) (.tmp 13) (.const (.bool false))) none [3,6],.mk (some 15) (.mv (.tmp 14)) none [7,6],.mk (some 16) (.fld 1 (.tmp 4)) (some (15,true)) [8],.mk (some 17) (.load false 1 (.tmp 16)) (some (15,true)) [9,8],.mk (some 18) (.fld 1 (.tmp 5)) (some (15,true)) [8],.mk (some 19) (.load false 1 (.tmp 18)) (some (15,true)) [11,8],.mk (some 20) (.call 64 [.tmp 17,.tmp 19]) (some (15,true)) [10,12,8,8],.mk (some 21) (.pick (.tmp 15) (.tmp 20) (.const (.bool false))) none [8,13],.mk (some 6) (.mv (.tmp 21)) none [14,13,0,1,2,3,4,5,6,7,8,9,10,11,12,13,14]]
def l99 : AFn :=
  (AFn.mk 22 3 (.seq (.reg l99r0) (.seq (.reg l99r1) .ret)) [.tmp 6])
theorem l99_eq : lowFn Try.prog 99 = some l99 := by kernel_rfl
def l100r0 : List AOper :=
  [.mk (some 4) (.box (.tmp 1)) none [],.mk (some 6) (.mv (.const (.slice none 0 0))) none []]
def l100r1 : List AOper :=
  [.mk (some 11) (.mv (.tmp 0)) none [],.mk (some 12) (.call 91 [.tmp 11]) none [0],.mk (some 7) (.mv (.tmp 12)) none [1,1,0,1]]
def l100r2a : List AOper :=
  [.mk (some 13) (.load true 3 (.tmp 4)) none [],.mk (some 14) (.call 72 [.tmp 13]) none [0],.mk (some 15) (.load true 3 (.tmp 4)) none []]
def l100r2b : List AOper :=
  [.mk (some 16) (.call 122 [.tmp 15]) none [2,1],.mk (some 8) (.mv (.tmp 14)) none [1,3,0,1],.mk (some 9) (.mv (.tmp 16)) none [3,4,0,1,2,3,4]]
def l100r2 : List AOper := l100r2a ++ l100r2b
def l100r3 : List AOper :=
  [.mk (some 10) (.mv (.const (.int .i64 0))) none []]
def l100r4 : List AOper :=
  [.mk (some 17) (.mv (.tmp 10)) none [],.mk (some 18) (.mv (.tmp 8)) none [],.mk (some 19) (.len (.tmp 18)) none [1],.mk (some 20) (.bin .lss (.tmp 17) (.tmp 19)) none [0,2]]
def l100r5 : List AOper :=
  [.mk (some 24) (.mv (.tmp 7)) none [],.mk (some 25) (.mv (.tmp 8)) none [],.mk (some 26) (.mv (.tmp 10)) none [],.mk (some 27) (.idxA 1 (.tmp 25) (.tmp 26)) none [1,2],.mk (some 28) (.load false 1 (.tmp 27)) none [3],.mk (some 29) (.mv (.tmp 9)) none [],.mk (some 30) (.call 123 [.tmp 24,.tmp 28,.tmp 29]) none [0,4,5],.mk (some 31) (.mv (.tmp 2)) none [],.mk (some 32) (.mv (.tmp 10)) none [],.mk (some 33) (.mv (.tmp 9)) none [],.mk (some 34) (.call 123 [.tmp 31,.tmp 32,.tmp 33]) none [7,8,9,6],.mk (some 35) (.cpy 1 (.tmp 30) (.tmp 34)) none [6,10,10]]
def l100r6 : List AOper :=
  [.mk (some 21) (.mv (.tmp 10)) none [],.mk (some 22) (.mv (.tmp 9)) none [],.mk (some 23) (.bin .add (.tmp 21) (.tmp 22)) none [0,1],.mk (some 10) (.mv (.tmp 23)) none [2,0,1,2]]
def l100r7 : List AOper :=
  [.mk (some 36) (.mv (.tmp 7)) none [],.mk (some 6) (.mv (.tmp 36)) none [0,0]]
def l100 : AFn :=
  (AFn.mk 37 3 (.seq (.reg l100r0) (.seq (.reg l100r1) (.seq (.draw l100r2) (.seq (.seq (.reg l100r3) (.block 0 (.loop (.seq (.seq (.reg l100r4) (.cond (.tmp 20) .skip (.exit 0))) (.seq (.block 1 (.reg l100r5)) (.reg l100r6)))))) (.seq (.reg l100r7) .ret))))) [.tmp 6])
theorem l100_eq : lowFn Try.prog 100 = some l100 := by kernel_rfl
def l101r0 : List AOper :=
  [.mk (some 3) (.box (.tmp 1)) none [],.mk (some 4) (.mv (.const (.slice none 0 0))) none []]
def l101r1a : List AOper :=
  [.mk (some 9) (.load true 3 (.tmp 3)) none [],.mk (some 10) (.call 72 [.tmp 9]) none [0],.mk (some 11) (.load true 3 (.tmp 3)) none []]
def l101r1b : List AOper :=
  [.mk (some 12) (.call 122 [.tmp 11]) none [2,1],.mk (some 5) (.mv (.tmp 10)) none [1,3,0,1],.mk (some 6) (.mv (.tmp 12)) none [3,4,0,1,2,3,4]]
def l101r1 : List AOper := l101r1a ++ l101r1b
def l101r2 : List AOper :=
  [.mk (some 13) (.mv (.tmp 5)) none [],.mk (some 14) (.len (.tmp 13)) none [0],.mk (some 15) (.mkslice 1 [.int .i64 0] (.tmp 14) (.tmp 14)) none [1,1],.mk (some 7) (.mv (.tmp 15)) none [2,0,1,2]]
def l101r3 : List AOper :=
  [.mk (some 8) (.mv (.const (.int .i64 0))) none []]
def l101r4 : List AOper :=
  [.mk (some 16) (.mv (.tmp 8)) none [],.mk (some 17) (.mv (.tmp 5)) none [],.mk (some 18) (.len (.tmp 17)) none [1],.mk (some 19) (.bin .lss (.tmp 16) (.tmp 18)) none [0,2]]
def l101r5a : List AOper :=
  [.mk (some 23) (.mv (.tmp 7)) none [],.mk (some 24) (.mv (.tmp 8)) none [],.mk (some 25) (.mv (.tmp 6)) none [],.mk (some 26) (.call 123 [.tmp 23,.tmp 24,.tmp 25]) none [0,1,2],.mk (some 27) (.mv (.tmp 0)) none [],.mk (some 28) (.mv (.tmp 5)) none [],.mk (some 29) (.mv (.tmp 8)) none [],.mk (some 30) (.idxA 1 (.tmp 28) (.tmp 29)) none [5,6],.mk (some 31) (.load false 1 (.tmp 30)) none [7],.mk (some 32) (.mv (.tmp 6)) none []]
def l101r5b : List AOper :=
  [.mk (some 33) (.call 123 [.tmp 27,.tmp 31,.tmp 32]) none [4,8,9,3],.mk (some 34) (.cpy 1 (.tmp 26) (.tmp 33)) none [3,10,10]]
def l101r5 : List AOper := l101r5a ++ l101r5b
def l101r6 : List AOper :=
  [.mk (some 20) (.mv (.tmp 8)) none [],.mk (some 21) (.mv (.tmp 6)) none [],.mk (some 22) (.bin .add (.tmp 20) (.tmp 21)) none [0,1],.mk (some 8) (.mv (.tmp 22)) none [2,0,1,2]]
def l101r7 : List AOper :=
  [.mk (some 35) (.mv (.tmp 7)) none [],.mk (some 4) (.mv (.tmp 35)) none [0,0]]
def l101 : AFn :=
  (AFn.mk 36 2 (.seq (.reg l101r0) (.seq (.draw l101r1) (.seq (.reg l101r2) (.seq (.seq (.reg l101r3) (.block 0 (.loop (.seq (.seq (.reg l101r4) (.cond (.tmp 19) .skip (.exit 0))) (.seq (.block 1 (.draw l101r5)) (.reg l101r6)))))) (.seq (.reg l101r7) .ret))))) [.tmp 4])
theorem l101_eq : lowFn Try.prog 101 = some l101 := by kernel_rfl
def l106r0 : List AOper :=
  [.mk (some 2) (.mv (.const (.bool false))) none []]
def l106r1 : List AOper :=
  [.mk (some 3) (.mv (.tmp 0)) none [],.mk (some 4) (.len (.tmp 3)) none [0],.mk (some 5) (.bin .leq (.tmp 4) (.const (.int .i64 4))) none [1],.mk (some 6) (.mv (.tmp 5)) none [2],.mk (some 7) (.mv (.tmp 0)) (some (6,true)) [3],.mk (some 8) (.call 70 [.tmp 7,.const (.int .i64 0),.const (.int .i64 60)]) (some (6,true)) [4,3,3],.mk (some 9) (.pick (.tmp 6) (.tmp 8) (.const (.bool false))) none [3,5],.mk (some 10) (.mv (.tmp 9)) none [6,5],.mk (some 11) (.mv (.tmp 0)) (some (10,true)) [7],.mk (some 12) (.call 107 [.tmp 11]) (some (10,true)) [8,7,7],.mk (some 13) (.bin .leq (.tmp 12) (.const (.int .i64 60))) (some (10,true)) [9,7],.mk (some 14) (.pick (.tmp 10) (.tmp 13) (.const (.bool false))) none [7,10],.mk (some 2) (.mv (.tmp 14)) none [11,9,0,1,2,3,4,5,6,7,8,9,10,11]]
def l106 : AFn :=
  (AFn.mk 15 1 (.seq (.reg l106r0) (.seq (.reg l106r1) .ret)) [.tmp 2])
theorem l106_eq : lowFn Try.prog 106 = some l106 := by kernel_rfl
def l107r0 : List AOper :=
  [.mk (some 2) (.mv (.const (.int .i64 0))) none []]
def l107r1 : List AOper :=
  [.mk (some 3) (.mv (.const (.int .i64 1))) none []]
def l107r2 : List AOper :=
  [.mk (some 4) (.mv (.const (.int .i64 0))) none []]
def l107r3 : List AOper :=
  [.mk (some 5) (.mv (.tmp 4)) none [],.mk (some 6) (.mv (.tmp 0)) none [],.mk (some 7) (.len (.tmp 6)) none [1],.mk (some 8) (.bin .lss (.tmp 5) (.tmp 7)) none [0,2]]
def l107r4 : List AOper :=
  [.mk (some 11) (.mv (.tmp 3)) none [],.mk (some 12) (.mv (.tmp 0)) none [],.mk (some 13) (.mv (.tmp 4)) none [],.mk (some 14) (.idxA 1 (.tmp 12) (.tmp 13)) none [1,2],.mk (some 15) (.load false 1 (.tmp 14)) none [3],.mk (some 16) (.bin .mul (.tmp 11) (.tmp 15)) none [0,4],.mk (some 3) (.mv (.tmp 16)) none [5,0,1,2,3,4,5]]
def l107r5 : List AOper :=
  [.mk (some 9) (.mv (.tmp 4)) none [],.mk (some 10) (.bin .add (.tmp 9) (.const (.int .i64 1))) none [0],.mk (some 4) (.mv (.tmp 10)) none [1,0,1]]
def l107r6 : List AOper :=
  [.mk (some 17) (.mv (.tmp 3)) none [],.mk (some 2) (.mv (.tmp 17)) none [0,0]]
def l107 : AFn :=
  (AFn.mk 18 1 (.seq (.reg l107r0) (.seq (.reg l107r1) (.seq (.seq (.reg l107r2) (.block 0 (.loop (.seq (.seq (.reg l107r3) (.cond (.tmp 8) .skip (.exit 0))) (.seq (.block 1 (.reg l107r4)) (.reg l107r5)))))) (.seq (.reg l107r6) .ret)))) [.tmp 2])
theorem l107_eq : lowFn Try.prog 107 = some l107 := by kernel_rfl
def l108r0 : List AOper :=
  [.mk (some 4) (.mv (.const (.bool false))) none []]
def l108r1 : List AOper :=
  [.mk (some 5) (.mv (.tmp 1)) none [],.mk (some 6) (.un .neg (.tmp 5)) none [0],.mk (some 7) (.mv (.tmp 0)) none [],.mk (some 8) (.bin .leq (.tmp 6) (.tmp 7)) none [1,2],.mk (some 9) (.mv (.tmp 8)) none [3],.mk (some 10) (.mv (.tmp 0)) (some (9,true)) [4],.mk (some 11) (.mv (.tmp 1)) (some (9,true)) [4],.mk (some 12) (.bin .leq (.tmp 10) (.tmp 11)) (some (9,true)) [5,6,4],.mk (some 13) (.pick (.tmp 9) (.tmp 12) (.const (.bool false))) none [4,7],.mk (some 4) (.mv (.tmp 13)) none [8,4,0,1,2,3,4,5,6,7,8]]
def l108 : AFn :=
  (AFn.mk 14 2 (.seq (.reg l108r0) (.seq (.reg l108r1) .ret)) [.tmp 4])
theorem l108_eq : lowFn Try.prog 108 = some l108 := by kernel_rfl
def l112r0 : List AOper :=
  [.mk (some 2) (.box (.tmp 0)) none [],.mk (some 4) (.mv (.const (.int .i64 0))) none []]
def l112r1 : List AOper :=
  [.mk (some 7) (.fld 0 (.tmp 2)) none [],.mk (some 8) (.load false 1 (.tmp 7)) none [0],.mk (some 5) (.mv (.tmp 8)) none [1,0,1]]
def l112r2 : List AOper :=
  [.mk (some 6) (.mv (.const (.int .i64 0))) none []]
def l112r3 : List AOper :=
  [.mk (some 9) (.mv (.tmp 6)) none [],.mk (some 10) (.mv (.tmp 1)) none [],.mk (some 11) (.len (.tmp 10)) none [1],.mk (some 12) (.bin .lss (.tmp 9) (.tmp 11)) none [0,2]]
def l112r4a : List AOper :=
  [.mk (some 15) (.mv (.tmp 5)) none [],.mk (some 16) (.mv (.tmp 1)) none [],.mk (some 17) (.mv (.tmp 6)) none [],.mk (some 18) (.idxA 1 (.tmp 16) (.tmp 17)) none [1,2],.mk (some 19) (.load false 1 (.tmp 18)) none [3],.mk (some 20) (.fld 2 (.tmp 2)) none [],.mk (some 21) (.load false 1 (.tmp 20)) none [5],.mk (some 22) (.mv (.tmp 6)) none [],.mk (some 23) (.idxA 1 (.tmp 21) (.tmp 22)) none [6,7],.mk (some 24) (.load false 1 (.tmp 23)) none [8],.mk (some 25) (.bin .mul (.tmp 19) (.tmp 24)) none [4,9]]
def l112r4b : List AOper :=
  [.mk (some 26) (.bin .add (.tmp 15) (.tmp 25)) none [0,10],.mk (some 5) (.mv (.tmp 26)) none [11,0,1,2,3,4,5,6,7,8,9,10,11]]
def l112r4 : List AOper := l112r4a ++ l112r4b
def l112r5 : List AOper :=
  [.mk (some 13) (.mv (.tmp 6)) none [],.mk (some 14) (.bin .add (.tmp 13) (.const (.int .i64 1))) none [0],.mk (some 6) (.mv (.tmp 14)) none [1,0,1]]
def l112r6 : List AOper :=
  [.mk (some 27) (.mv (.tmp 5)) none [],.mk (some 4) (.mv (.tmp 27)) none [0,0]]
def l112 : AFn :=
  (AFn.mk 28 2 (.seq (.reg l112r0) (.seq (.reg l112r1) (.seq (.seq (.reg l112r2) (.block 0 (.loop (.seq (.seq (.reg l112r3) (.cond (.tmp 12) .skip (.exit 0))) (.seq (.block 1 (.draw l112r4)) (.reg l112r5)))))) (.seq (.reg l112r6) .ret)))) [.tmp 4])
theorem l112_eq : lowFn Try.prog 112 = some l112 := by kernel_rfl
def l113r0 : List AOper :=
  [.mk (some 4) (.mv (.const (.slice none 0 0))) none []]
def l113r1 : List AOper :=
  [.mk (some 7) (.mv (.tmp 0)) none [],.mk (some 8) (.len (.tmp 7)) none [0],.mk (some 9) (.mkslice 1 [.int .i64 0] (.tmp 8) (.tmp 8)) none [1,1],.mk (some 5) (.mv (.tmp 9)) none [2,0,1,2]]
def l113r2 : List AOper :=
  [.mk (some 10) (.mv (.tmp 0)) none [],.mk (some 11) (.len (.tmp 10)) none [0],.mk (some 12) (.bin .sub (.tmp 11) (.const (.int .i64 1))) none [1],.mk (some 6) (.mv (.tmp 12)) none [2,0,1,2]]
def l113r3 : List AOper :=
  [.mk (some 13) (.mv (.tmp 6)) none [],.mk (some 14) (.bin .geq (.tmp 13) (.const (.int .i64 0))) none [0]]
def l113r4 : List AOper :=
  [.mk (some 17) (.mv (.tmp 5)) none [],.mk (some 18) (.mv (.tmp 6)) none [],.mk (some 19) (.mv (.tmp 1)) none [],.mk (some 20) (.mv (.tmp 0)) none [],.mk (some 21) (.mv (.tmp 6)) none [],.mk (some 22) (.idxA 1 (.tmp 20) (.tmp 21)) none [3,4],.mk (some 23) (.load false 1 (.tmp 22)) none [5],.mk (some 24) (.bin .rem (.tmp 19) (.tmp 23)) none [2,6],.mk (some 25) (.idxA 1 (.tmp 17) (.tmp 18)) none [0,1,0,1,2,3,4,5,6,7],.mk none (.store 1 (.tmp 25) (.tmp 24)) none [8,7,0,1,2,3,4,5,6,7]]
def l113r5 : List AOper :=
  [.mk (some 26) (.mv (.tmp 1)) none [],.mk (some 27) (.mv (.tmp 0)) none [],.mk (some 28) (.mv (.tmp 6)) none [],.mk (some 29) (.idxA 1 (.tmp 27) (.tmp 28)) none [1,2],.mk (some 30) (.load false 1 (.tmp 29)) none [3],.mk (some 31) (.bin .quo (.tmp 26) (.tmp 30)) none [0,4],.mk (some 1) (.mv (.tmp 31)) none [5,0,1,2,3,4,5]]
def l113r6 : List AOper :=
  [.mk (some 15) (.mv (.tmp 6)) none [],.mk (some 16) (.bin .sub (.tmp 15) (.const (.int .i64 1))) none [0],.mk (some 6) (.mv (.tmp 16)) none [1,0,1]]
def l113r7 : List AOper :=
  [.mk (some 32) (.mv (.tmp 5)) none [],.mk (some 4) (.mv (.tmp 32)) none [0,0]]
def l113 : AFn :=
  (AFn.mk 33 2 (.seq (.reg l113r0) (.seq (.reg l113r1) (.seq (.seq (.reg l113r2) (.block 0 (.loop (.seq (.seq (.reg l113r3) (.cond (.tmp 14) .skip (.exit 0))) (.seq (.block 1 (.seq (.reg l113r4) (.reg l113r5))) (.reg l113r6)))))) (.seq (.reg l113r7) .ret)))) [.tmp 4])
theorem l113_eq : lowFn Try.prog 113 = some l113 := by kernel_rfl
def l114r0 : List AOper :=
  [.mk (some 2) (.box (.tmp 0)) none [],.mk (some 3) (.box (.tmp 1)) none [],.mk (some 4) (.mv (.const (.slice none 0 0))) none []]
def l114r1 : List AOper :=
  [.mk (some 6) (.raw (Op.makeMap 63 none)) none [],.mk (some 5) (.mv (.tmp 6)) none [0,0]]
def l114r2 : List AOper :=
  [.mk (some 7) (.mv (.tmp 5)) none [],.mk (some 8) (.load true 3 (.tmp 2)) none [],.mk (some 9) (.call 59 [.tmp 8]) none [1],.mk (some 10) (.call 71 [.tmp 7,.tmp 9]) none [0,2,2]]
def l114r3 : List AOper :=
  [.mk (some 11) (.mv (.tmp 5)) none [],.mk (some 12) (.load true 3 (.tmp 3)) none [],.mk (some 13) (.call 59 [.tmp 12]) none [1],.mk (some 14) (.call 71 [.tmp 11,.tmp 13]) none [0,2,2]]
def l114r4 : List AOper :=
  [.mk (some 15) (.mv (.tmp 5)) none [],.mk (some 16) (.call 65 [.tmp 15,.const (.int .i64 2)]) none [0],.mk (some 4) (.mv (.tmp 16)) none [1,1,0,1]]
def l114 : AFn :=
  (AFn.mk 17 2 (.seq (.reg l114r0) (.seq (.reg l114r1) (.seq (.reg l114r2) (.seq (.reg l114r3) (.seq (.reg l114r4) .ret))))) [.tmp 4])
theorem l114_eq : lowFn Try.prog 114 = some l114 := by kernel_rfl
def l115r0 : List AOper :=
  [.mk (some 2) (.mv (.const (.slice none 0 0))) none []]
def l115r1 : List AOper :=
  [.mk (some 3) (.bslice 1 [.int .i64 0] [] 0) none [],.mk (some 4) (.mv (.tmp 0)) none [],.mk (some 5) (.append 1 (.tmp 3) (.tmp 4)) none [0,1],.mk (some 2) (.mv (.tmp 5)) none [2,2,0,1,2]]
def l115 : AFn :=
  (AFn.mk 6 1 (.seq (.reg l115r0) (.seq (.reg l115r1) .ret)) [.tmp 2])
theorem l115_eq : lowFn Try.prog 115 = some l115 := by kernel_rfl
def l118r0 : List AOper :=
  [.mk (some 2) (.box (.tmp 0)) none [],.mk (some 4) (.mv (.const (.int .i64 0))) none []]
def l118r1 : List AOper :=
  [.mk (some 5) (.mv (.const (.int .i64 0))) none []]
def l118r2 : List AOper :=
  [.mk (some 8) (.mv (.tmp 1)) none [],.mk (some 9) (.len (.tmp 8)) none [0],.mk (some 10) (.mv (.const (.int .i64 0))) none []]
def l118r3 : List AOper :=
  [.mk (some 11) (.bin .lss (.tmp 10) (.tmp 9)) none []]
def l118r4 : List AOper :=
  [.mk (some 12) (.mv (.tmp 10)) none [],.mk (some 13) (.idxA 1 (.tmp 8) (.tmp 10)) none [],.mk (some 14) (.load false 1 (.tmp 13)) none [1],.mk (some 6) (.mv (.tmp 12)) none [0,0,1,2],.mk (some 7) (.mv (.tmp 14)) none [2,3,0,1,2,3]]
def l118r5 : List AOper :=
  [.mk (some 15) (.mv (.tmp 5)) none [],.mk (some 16) (.mv (.tmp 6)) none [],.mk (some 17) (.idxP 1 4 (.tmp 2) (.tmp 16)) none [1],.mk (some 18) (.load false 1 (.tmp 17)) none [2],.mk (some 19) (.mv (.tmp 7)) none [],.mk (some 20) (.bin .mul (.tmp 18) (.tmp 19)) none [3,4],.mk (some 21) (.bin .add (.tmp 15) (.tmp 20)) none [0,5],.mk (some 5) (.mv (.tmp 21)) none [6,0,1,2,3,4,5,6]]
def l118r6 : List AOper :=
  [.mk (some 22) (.bin .add (.tmp 10) (.const (.int .i64 1))) none [],.mk (some 10) (.mv (.tmp 22)) none [0]]
def l118r7 : List AOper :=
  [.mk (some 23) (.mv (.tmp 5)) none [],.mk (some 4) (.mv (.tmp 23)) none [0,0]]
def l118 : AFn :=
  (AFn.mk 24 2 (.seq (.reg l118r0) (.seq (.reg l118r1) (.seq (.seq (.reg l118r2) (.block 0 (.loop (.seq (.reg l118r3) (.seq (.cond (.tmp 11) .skip (.exit 0)) (.seq (.block 1 (.seq (.reg l118r4) (.reg l118r5))) (.reg l118r6))))))) (.seq (.reg l118r7) .ret)))) [.tmp 4])
theorem l118_eq : lowFn Try.prog 118 = some l118 := by kernel_rfl
def l119r0 : List AOper :=
  [.mk (some 3) (.box (.tmp 1)) none [],.mk (some 4) (.mv (.const (.bool false))) none []]
def l119r1 : List AOper :=
  [.mk (some 5) (.mv (.tmp 0)) none [],.mk (some 6) (.call 137 [.tmp 5]) none [0],.mk (some 7) (.mv (.tmp 6)) none [1,1],.mk (some 8) (.load true 3 (.tmp 3)) (some (7,true)) [2],.mk (some 9) (.call 52 [.tmp 8]) (some (7,true)) [3,2,2],.mk (some 10) (.pick (.tmp 7) (.tmp 9) (.const (.bool false))) none [2,4],.mk (some 11) (.mv (.tmp 10)) none [5,4],.mk (some 12) (.load true 3 (.tmp 3)) (some (11,true)) [6],.mk (some 13) (.mv (.tmp 0)) (some (11,true)) [6],.mk (some 14) (.len (.tmp 13)) (some (11,true)) [8,6],.mk (some 15) (.call 138 [.tmp 12,.tmp 14]) (some (11,true)) [7,9,6,6],.mk (some 16) (.pick (.tmp 11) (.tmp 15) (.const (.bool false))) none [6,10],.mk (some 4) (.mv (.tmp 16)) none [11,10,0,1,2,3,4,5,6,7,8,9,10,11]]
def l119 : AFn :=
  (AFn.mk 17 2 (.seq (.reg l119r0) (.seq (.reg l119r1) .ret)) [.tmp 4])
theorem l119_eq : lowFn Try.prog 119 = some l119 := by kernel_rfl
def l120r0 : List AOper :=
  [.mk (some 4) (.mv (.const (.bool false))) none []]
def l120r1 : List AOper :=
  [.mk (some 6) (.mv (.tmp 0)) none [],.mk (some 7) (.len (.tmp 6)) none [0],.mk (some 8) (.mv (.tmp 1)) none [],.mk (some 9) (.len (.tmp 8)) none [2],.mk (some 10) (.bin .neq (.tmp 7) (.tmp 9)) none [1,3]]
def l120r2 : List AOper :=
  [.mk (some 4) (.mv (.const (.bool false))) none []]
def l120r3 : List AOper :=
  [.mk (some 5) (.mv (.const (.int .i64 0))) none []]
def l120r4 : List AOper :=
  [.mk (some 11) (.mv (.tmp 5)) none [],.mk (some 12) (.mv (.tmp 0)) none [],.mk (some 13) (.len (.tmp 12)) none [1],.mk (some 14) (.bin .lss (.tmp 11) (.tmp 13)) none [0,2]]
def l120r5a : List AOper :=
  [.mk (some 17) (.mv (.tmp 0)) none [],.mk (some 18) (.mv (.tmp 5)) none [],.mk (some 19) (.idxA 1 (.tmp 17) (.tmp 18)) none [0,1],.mk (some 20) (.load false 1 (.tmp 19)) none [2],.mk (some 21) (.mv (.tmp 1)) none [],.mk (some 22) (.mv (.tmp 5)) none [],.mk (some 23) (.idxA 1 (.tmp 21) (.tmp 22)) none [4,5],.mk (some 24) (.load false 1 (.tmp 23)) none [6]]
def l120r5b : List AOper :=
  [.mk (some 25) (.bin .neq (.tmp 20) (.tmp 24)) none [3,7]]
def l120r5 : List AOper := l120r5a ++ l120r5b
def l120r6 : List AOper :=
  [.mk (some 4) (.mv (.const (.bool false))) none []]
def l120r7 : List AOper :=
  [.mk (some 15) (.mv (.tmp 5)) none [],.mk (some 16) (.bin .add (.tmp 15) (.const (.int .i64 1))) none [0],.mk (some 5) (.mv (.tmp 16)) none [1,0,1]]
def l120r8 : List AOper :=
  [.mk (some 4) (.mv (.const (.bool true))) none []]
def l120 : AFn :=
  (AFn.mk 26 2 (.seq (.reg l120r0) (.seq (.seq (.reg l120r1) (.cond (.tmp 10) (.seq (.reg l120r2) .ret) .skip)) (.seq (.seq (.reg l120r3) (.block 0 (.loop (.seq (.seq (.reg l120r4) (.cond (.tmp 14) .skip (.exit 0))) (.seq (.block 1 (.seq (.draw l120r5) (.cond (.tmp 25) (.seq (.reg l120r6) .ret) .skip))) (.reg l120r7)))))) (.seq (.reg l120r8) .ret)))) [.tmp 4])
theorem l120_eq : lowFn Try.prog 120 = some l120 := by kernel_rfl
def l121r0 : List AOper :=
  [.mk (some 3) (.box (.tmp 1)) none [],.mk (some 4) (.mv (.const (.bool false))) none []]
def l121r1 : List AOper :=
  [.mk (some 5) (.mv (.tmp 0)) none [],.mk (some 6) (.call 139 [.tmp 5]) none [0],.mk (some 7) (.mv (.tmp 6)) none [1,1],.mk (some 8) (.load true 3 (.tmp 3)) (some (7,true)) [2],.mk (some 9) (.mv (.tmp 0)) (some (7,true)) [2],.mk (some 10) (.len (.tmp 9)) (some (7,true)) [4,2],.mk (some 11) (.call 23 [.tmp 8,.tmp 10]) (some (7,true)) [3,5,2,2],.mk (some 12) (.pick (.tmp 7) (.tmp 11) (.const (.bool false))) none [2,6],.mk (some 4) (.mv (.tmp 12)) none [7,6,0,1,2,3,4,5,6,7]]
def l121 : AFn :=
  (AFn.mk 13 2 (.seq (.reg l121r0) (.seq (.reg l121r1) .ret)) [.tmp 4])
theorem l121_eq : lowFn Try.prog 121 = some l121 := by kernel_rfl
def l122r0 : List AOper :=
  [.mk (some 1) (.box (.tmp 0)) none [],.mk (some 2) (.mv (.const (.int .i64 0))) none []]
def l122r1 : List AOper :=
  [.mk (some 4) (.fld 1 (.tmp 1)) none [],.mk (some 5) (.load false 1 (.tmp 4)) none [0],.mk (some 6) (.len (.tmp 5)) none [1],.mk (some 7) (.bin .sub (.tmp 6) (.const (.int .i64 1))) none [2],.mk (some 3) (.mv (.tmp 7)) none [3,0,1,2,3]]
def l122r2 : List AOper :=
  [.mk (some 8) (.mv (.tmp 3)) none [],.mk (some 9) (.bin .lss (.tmp 8) (.const (.int .i64 0))) none [0],.mk (some 10) (.mv (.tmp 9)) none [1],.mk (some 11) (.fld 2 (.tmp 1)) (some (10,false)) [2],.mk (some 12) (.load false 1 (.tmp 11)) (some (10,false)) [3,2],.mk (some 13) (.mv (.tmp 3)) (some (10,false)) [2],.mk (some 14) (.idxA 1 (.tmp 12) (.tmp 13)) (some (10,false)) [4,5,2],.mk (some 15) (.load false 1 (.tmp 14)) (some (10,false)) [6,2],.mk (some 16) (.bin .neq (.tmp 15) (.const (.int .i64 1))) (some (10,false)) [7,2],.mk (some 17) (.pick (.tmp 10) (.const (.bool true)) (.tmp 16)) none [2,8]]
def l122r3 : List AOper :=
  [.mk (some 2) (.mv (.const (.int .i64 1))) none []]
def l122r4 : List AOper :=
  [.mk (some 18) (.fld 1 (.tmp 1)) none [],.mk (some 19) (.load false 1 (.tmp 18)) none [0],.mk (some 20) (.mv (.tmp 3)) none [],.mk (some 21) (.idxA 1 (.tmp 19) (.tmp 20)) none [1,2],.mk (some 22) (.load false 1 (.tmp 21)) none [3],.mk (some 2) (.mv (.tmp 22)) none [4,0,1,2,3,4]]
def l122 : AFn :=
  (AFn.mk 23 1 (.seq (.reg l122r0) (.seq (.reg l122r1) (.seq (.seq (.reg l122r2) (.cond (.tmp 17) (.seq (.reg l122r3) .ret) .skip)) (.seq (.reg l122r4) .ret)))) [.tmp 2])
theorem l122_eq : lowFn Try.prog 122 = some l122 := by kernel_rfl
def l123r0 : List AOper :=
  [.mk (some 6) (.mv (.const (.slice none 0 0))) none []]
def l123r1 : List AOper :=
  [.mk (some 8) (.mv (.tmp 1)) none [],.mk (some 9) (.mv (.tmp 2)) none [],.mk (some 10) (.bin .add (.tmp 8) (.tmp 9)) none [0,1],.mk (some 7) (.mv (.tmp 10)) none [2,0,1,2]]
def l123r2 : List AOper :=
  [.mk (some 11) (.mv (.tmp 0)) none [],.mk (some 12) (.mv (.tmp 1)) none [],.mk (some 13) (.mv (.tmp 7)) none [],.mk (some 14) (.mv (.tmp 7)) none [],.mk (some 15) (.slice3 1 (.tmp 11) (some (.tmp 12)) (.tmp 13) (.tmp 14)) none [0,1,2,3],.mk (some 6) (.mv (.tmp 15)) none [4,0,1,2,3,4]]
def l123 : AFn :=
  (AFn.mk 16 3 (.seq (.reg l123r0) (.seq (.reg l123r1) (.seq (.reg l123r2) .ret))) [.tmp 6])
theorem l123_eq : lowFn Try.prog 123 = some l123 := by kernel_rfl
def l137r0 : List AOper :=
  [.mk (some 2) (.mv (.const (.bool false))) none []]
def l137r1 : List AOper :=
  [.mk (some 3) (.mv (.tmp 0)) none [],.mk (some 4) (.len (.tmp 3)) none [0],.mk (some 5) (.bin .leq (.tmp 4) (.const (.int .i64 60))) none [1],.mk (some 6) (.mv (.tmp 5)) none [2],.mk (some 7) (.mv (.tmp 0)) (some (6,true)) [3],.mk (some 8) (.call 70 [.tmp 7,.const (.int .i64 0),.const (.int .i64 255)]) (some (6,true)) [4,3,3],.mk (some 9) (.pick (.tmp 6) (.tmp 8) (.const (.bool false))) none [3,5],.mk (some 2) (.mv (.tmp 9)) none [6,5,0,1,2,3,4,5,6]]
def l137 : AFn :=
  (AFn.mk 10 1 (.seq (.reg l137r0) (.seq (.reg l137r1) .ret)) [.tmp 2])
theorem l137_eq : lowFn Try.prog 137 = some l137 := by kernel_rfl
def l138r0 : List AOper :=
  [.mk (some 2) (.box (.tmp 0)) none [],.mk (some 4) (.mv (.const (.bool false))) none []]
def l138r1 : List AOper :=
  [.mk (some 5) (.load true 3 (.tmp 2)) none [],.mk (some 6) (.call 68 [.tmp 5]) none [0],.mk (some 7) (.mv (.tmp 1)) none [],.mk (some 8) (.bin .sub (.tmp 7) (.const (.int .i64 1))) none [2],.mk (some 9) (.call 70 [.tmp 6,.const (.int .i64 0),.tmp 8]) none [1,3,1],.mk (some 4) (.mv (.tmp 9)) none [4,4,0,1,2,3,4]]
def l138 : AFn :=
  (AFn.mk 10 2 (.seq (.reg l138r0) (.seq (.reg l138r1) .ret)) [.tmp 4])
theorem l138_eq : lowFn Try.prog 138 = some l138 := by kernel_rfl
def l139r0 : List AOper :=
  [.mk (some 2) (.mv (.const (.bool false))) none []]
def l139r1 : List AOper :=
  [.mk (some 3) (.mv (.tmp 0)) none [],.mk (some 4) (.len (.tmp 3)) none [0],.mk (some 5) (.call 62 [.tmp 4]) none [1],.mk (some 6) (.mv (.tmp 5)) none [2,2],.mk (some 7) (.mv (.tmp 0)) (some (6,true)) [3],.mk (some 8) (.call 156 [.tmp 7]) (some (6,true)) [4,3,3],.mk (some 9) (.pick (.tmp 6) (.tmp 8) (.const (.bool false))) none [3,5],.mk (some 2) (.mv (.tmp 9)) none [6,5,0,1,2,3,4,5,6]]
def l139 : AFn :=
  (AFn.mk 10 1 (.seq (.reg l139r0) (.seq (.reg l139r1) .ret)) [.tmp 2])
theorem l139_eq : lowFn Try.prog 139 = some l139 := by kernel_rfl
def l156r0 : List AOper :=
  [.mk (some 2) (.mv (.const (.bool false))) none []]
def l156r1 : List AOper :=
  [.mk (some 5) (.mv (.tmp 0)) none [],.mk (some 6) (.len (.tmp 5)) none [0],.mk (some 7) (.mv (.const (.int .i64 0))) none []]
def l156r2 : List AOper :=
  [.mk (some 8) (.bin .lss (.tmp 7) (.tmp 6)) none []]
def l156r3 : List AOper :=
  [.mk (some 9) (.idxA 1 (.tmp 5) (.tmp 7)) none [],.mk (some 10) (.load false 1 (.tmp 9)) none [0],.mk (some 4) (.mv (.tmp 10)) none [1,0,1]]
def l156r4 : List AOper :=
  [.mk (some 11) (.mv (.tmp 4)) none [],.mk (some 12) (.call 56 [.tmp 11,.const (.int .i64 255)]) none [0],.mk (some 13) (.un .not (.tmp 12)) none [1]]
def l156r5 : List AOper :=
  [.mk (some 2) (.mv (.const (.bool false))) none []]
def l156r6 : List AOper :=
  [.mk (some 14) (.bin .add (.tmp 7) (.const (.int .i64 1))) none [],.mk (some 7) (.mv (.tmp 14)) none [0]]
def l156r7 : List AOper :=
  [.mk (some 2) (.mv (.const (.bool true))) none []]
def l156 : AFn :=
  (AFn.mk 15 1 (.seq (.reg l156r0) (.seq (.seq (.reg l156r1) (.block 0 (.loop (.seq (.reg l156r2) (.seq (.cond (.tmp 8) .skip (.exit 0)) (.seq (.block 1 (.seq (.reg l156r3) (.seq (.reg l156r4) (.cond (.tmp 13) (.seq (.reg l156r5) .ret) .skip)))) (.reg l156r6))))))) (.seq (.reg l156r7) .ret))) [.tmp 2])
theorem l156_eq : lowFn Try.prog 156 = some l156 := by kernel_rfl
end Go.Proofs.Ytceopplkfomalaa
