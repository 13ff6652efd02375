import Derived.Test.YtejbfjmiidofcaaCW3
import Derived.Test.YtejbfjmiidofcaaProg
import Derived.KernelRfl
set_option maxRecDepth 100000
namespace Go.Proofs.Ytejbfjmiidofcaa
open Vw Go
instance globs : Inhabited GlobT := ⟨⟨[]⟩⟩
attribute [push_cast] Bool.false_eq_true List.length_replicate
attribute [bitvec_to_nat] decide_eq_true_eq decide_eq_false_iff_not Bool.not_eq_true' Bool.not_eq_false' Bool.and_eq_true Bool.or_eq_true Bool.and_eq_false_iff Bool.or_eq_false_iff Int.not_le Int.not_lt bne_iff_ne ne_eq beq_iff_eq Bool.not_eq_true Bool.not_eq_false
theorem sd {P : Prop} (h : P := by first | assumption | rfl | omega | (simp <;> omega) | (simp_all <;> omega)) : P := h
def l7r0 : List AOper :=
  [.mk (some 2) (.mv (.const (.bool false))) none []]
def l7r1 : List AOper :=
  [.mk (some 10) (.mv (.tmp 0)) none [],.mk (some 11) (.len (.tmp 10)) none [0],.mk (some 12) (.bin .gtr (.tmp 11) (.const (.int .i64 1048576))) none [1]]
def l7r2 : List AOper :=
  [.mk (some 2) (.mv (.const (.bool true))) none []]
def l7r3 : List AOper :=
  [.mk (some 14) (.mv (.tmp 0)) none [],.mk (some 15) (.call 26 [.tmp 14]) none [0],.mk (some 13) (.mv (.tmp 15)) none [1],.mk (some 16) (.extract (.tmp 13) 0) none [2],.mk (some 17) (.extract (.tmp 13) 1) none [2],.mk (some 18) (.extract (.tmp 13) 2) none [2],.mk (some 19) (.extract (.tmp 13) 3) none [2],.mk (some 20) (.extract (.tmp 13) 4) none [2],.mk (some 3) (.mv (.tmp 16)) none [3,1,0,1,2,3],.mk (some 4) (.mv (.tmp 17)) none [4,8,0,1,2,3,4,8],.mk (some 5) (.mv (.tmp 18)) none [5,9,0,1,2,3,4,5,8,9],.mk (some 6) (.mv (.tmp 19)) none [6,10,0,1,2,3,4,5,6,8,9,10],.mk (some 7) (.mv (.tmp 20)) none [7,11,0,1,2,3,4,5,6,7,8,9,10,11]]
def l7r4 : List AOper :=
  [.mk (some 21) (.mv (.tmp 3)) none [],.mk (some 22) (.mv (.tmp 4)) none [],.mk (some 23) (.mv (.tmp 5)) none [],.mk (some 24) (.mv (.tmp 6)) none [],.mk (some 25) (.mv (.tmp 7)) none [],.mk (some 26) (.call 27 [.tmp 21,.tmp 22,.tmp 23,.tmp 24,.tmp 25]) none [0,1,2,3,4],.mk (some 8) (.mv (.tmp 26)) none [5,5,0,1,2,3,4,5]]
def l7r5 : List AOper :=
  [.mk (some 27) (.mv (.tmp 8)) none [],.mk (some 28) (.mv (.tmp 3)) none [],.mk (some 29) (.mv (.tmp 4)) none [],.mk (some 30) (.mv (.tmp 5)) none [],.mk (some 31) (.mv (.tmp 6)) none [],.mk (some 32) (.mv (.tmp 7)) none [],.mk (some 33) (.call 28 [.tmp 28,.tmp 29,.tmp 30,.tmp 31,.tmp 32]) none [1,2,3,4,5],.mk (some 34) (.bin .neq (.tmp 27) (.tmp 33)) none [0,6],.mk (some 35) (.mv (.tmp 34)) none [7,6],.mk (some 36) (.mv (.tmp 8)) (some (35,false)) [8],.mk (some 37) (.bin .lss (.tmp 36) (.const (.int .i64 0))) (some (35,false)) [9,8],.mk (some 38) (.pick (.tmp 35) (.const (.bool true)) (.tmp 37)) none [8,10]]
def l7r6 : List AOper :=
  [.mk (some 39) (.mv (.tmp 8)) none [],.mk (some 40) (.mv (.tmp 3)) none [],.mk (some 41) (.mv (.tmp 4)) none [],.mk (some 42) (.mv (.tmp 5)) none [],.mk (some 43) (.mv (.tmp 6)) none [],.mk (some 44) (.mv (.tmp 7)) none [],.mk (some 45) (.call 28 [.tmp 40,.tmp 41,.tmp 42,.tmp 43,.tmp 44]) none [1,2,3,4,5],.mk (some 46) (.bin .eql (.tmp 39) (.tmp 45)) none [0,6],.mk (some 2) (.mv (.tmp 46)) none [7,6,0,1,2,3,4,5,6,7]]
def l7r7a : List AOper :=
  [.mk (some 47) (.mv (.tmp 3)) none [],.mk (some 48) (.mv (.tmp 6)) none [],.mk (some 49) (.idxA 2 (.tmp 47) (.tmp 48)) none [0,1],.mk (some 50) (.load true 2 (.tmp 49)) none [2],.mk (some 51) (.mv (.tmp 3)) none [],.mk (some 52) (.mv (.tmp 7)) none [],.mk (some 53) (.idxA 2 (.tmp 51) (.tmp 52)) none [4,5],.mk (some 54) (.load true 2 (.tmp 53)) none [6],.mk (some 55) (.bslice 2 [.slice none 0 0,.slice none 0 0] [(0,.tmp 50),(1,.tmp 54)] 2) none [3,7],.mk (some 56) (.mv (.tmp 4)) none [],.mk (some 57) (.mv (.tmp 6)) none [],.mk (some 58) (.idxA 1 (.tmp 56) (.tmp 57)) none [9,10],.mk (some 59) (.load false 1 (.tmp 58)) none [11],.mk (some 60) (.mv (.tmp 4)) none [],.mk (some 61) (.mv (.tmp 7)) none [],.mk (some 62) (.idxA 1 (.tmp 60) (.tmp 61)) none [13,14],.mk (some 63) (.load false 1 (.tmp 62)) none [15],.mk (some 64) (.bslice 1 [.slice none 0 0] [(0,.tmp 59),(1,.tmp 63)] 2) none [12,16]]
def l7r7b : List AOper :=
  [.mk (some 65) (.call 20 [.tmp 55,.tmp 64]) none [8,17],.mk (some 9) (.mv (.tmp 65)) none [18,18,0,1,2,3,4,5,6,7,8,9,10,11,12,13,14,15,16,17,18]]
def l7r7 : List AOper := l7r7a ++ l7r7b
def l7r8 : List AOper :=
  [.mk (some 66) (.mv (.tmp 3)) none [],.mk (some 67) (.mv (.tmp 4)) none [],.mk (some 68) (.mv (.tmp 5)) none [],.mk (some 69) (.mv (.tmp 7)) none [],.mk (some 70) (.mv (.tmp 6)) none [],.mk (some 71) (.call 27 [.tmp 66,.tmp 67,.tmp 68,.tmp 69,.tmp 70]) none [0,1,2,3,4],.mk (some 72) (.mv (.tmp 8)) none [],.mk (some 73) (.bin .eql (.tmp 71) (.tmp 72)) none [5,6],.mk (some 74) (.mv (.tmp 73)) none [7,5],.mk (some 75) (.mv (.tmp 9)) (some (74,true)) [8],.mk (some 76) (.bin .geq (.tmp 75) (.const (.int .i64 0))) (some (74,true)) [9,8],.mk (some 77) (.pick (.tmp 74) (.tmp 76) (.const (.bool false))) none [8,10],.mk (some 78) (.mv (.tmp 77)) none [11,8],.mk (some 79) (.mv (.tmp 9)) (some (78,true)) [12],.mk (some 80) (.mv (.tmp 8)) (some (78,true)) [12],.mk (some 81) (.bin .leq (.tmp 79) (.tmp 80)) (some (78,true)) [13,14,12],.mk (some 82) (.pick (.tmp 78) (.tmp 81) (.const (.bool false))) none [12,15],.mk (some 2) (.mv (.tmp 82)) none [16,12,0,1,2,3,4,5,6,7,8,9,10,11,12,13,14,15,16]]
def l7 : AFn :=
  (AFn.mk 83 1 (.seq (.reg l7r0) (.seq (.seq (.reg l7r1) (.cond (.tmp 12) (.seq (.reg l7r2) .ret) .skip)) (.seq (.reg l7r3) (.seq (.reg l7r4) (.seq (.seq (.reg l7r5) (.cond (.tmp 38) (.seq (.reg l7r6) .ret) .skip)) (.seq (.draw l7r7) (.seq (.reg l7r8) .ret))))))) [.tmp 2])
theorem l7_eq : lowFn Try.prog 7 = some l7 := by kernel_rfl
def l11r0 : List AOper :=
  [.mk (some 1) (.box (.tmp 0)) none [],.mk (some 2) (.mv (.const (.bool false))) none []]
def l11r1a : List AOper :=
  [.mk (some 5) (.fld 0 (.tmp 1)) none [],.mk (some 6) (.load false 1 (.tmp 5)) none [0],.mk (some 7) (.call 41 [.tmp 6]) none [1],.mk (some 8) (.un .not (.tmp 7)) none [2],.mk (some 9) (.mv (.tmp 8)) none [3,2],.mk (some 10) (.fld 1 (.tmp 1)) (some (9,false)) [4],.mk (some 11) (.load false 1 (.tmp 10)) (some (9,false)) [5,4],.mk (some 12) (.len (.tmp 11)) (some (9,false)) [6,4],.mk (some 13) (.fld 0 (.tmp 1)) (some (9,false)) [4],.mk (some 14) (.load false 1 (.tmp 13)) (some (9,false)) [8,4],.mk (some 15) (.call 42 [.tmp 14]) (some (9,false)) [9,4,4]]
def l11r1b : List AOper :=
  [.mk (some 16) (.bin .neq (.tmp 12) (.tmp 15)) (some (9,false)) [7,10,4],.mk (some 17) (.pick (.tmp 9) (.const (.bool true)) (.tmp 16)) none [4,11]]
def l11r1 : List AOper := l11r1a ++ l11r1b
def l11r2 : List AOper :=
  [.mk (some 2) (.mv (.const (.bool false))) none []]
def l11r3 : List AOper :=
  [.mk (some 18) (.fld 1 (.tmp 1)) none [],.mk (some 19) (.load false 1 (.tmp 18)) none [0],.mk (some 20) (.len (.tmp 19)) none [1],.mk (some 21) (.mv (.const (.int .i64 0))) none []]
def l11r4 : List AOper :=
  [.mk (some 22) (.bin .lss (.tmp 21) (.tmp 20)) none []]
def l11r5 : List AOper :=
  [.mk (some 23) (.idxA 1 (.tmp 19) (.tmp 21)) none [],.mk (some 24) (.load false 1 (.tmp 23)) none [0],.mk (some 4) (.mv (.tmp 24)) none [1,0,1]]
def l11r6 : List AOper :=
  [.mk (some 25) (.mv (.tmp 4)) none [],.mk (some 26) (.call 43 [.tmp 25,.const (.int .i64 1000000)]) none [0],.mk (some 27) (.un .not (.tmp 26)) none [1]]
def l11r7 : List AOper :=
  [.mk (some 2) (.mv (.const (.bool false))) none []]
def l11r8 : List AOper :=
  [.mk (some 28) (.bin .add (.tmp 21) (.const (.int .i64 1))) none [],.mk (some 21) (.mv (.tmp 28)) none [0]]
def l11r9 : List AOper :=
  [.mk (some 2) (.mv (.const (.bool true))) none []]
def l11 : AFn :=
  (AFn.mk 29 1 (.seq (.reg l11r0) (.seq (.seq (.draw l11r1) (.cond (.tmp 17) (.seq (.reg l11r2) .ret) .skip)) (.seq (.seq (.reg l11r3) (.block 0 (.loop (.seq (.reg l11r4) (.seq (.cond (.tmp 22) .skip (.exit 0)) (.seq (.block 1 (.seq (.reg l11r5) (.seq (.reg l11r6) (.cond (.tmp 27) (.seq (.reg l11r7) .ret) .skip)))) (.reg l11r8))))))) (.seq (.reg l11r9) .ret)))) [.tmp 2])
theorem l11_eq : lowFn Try.prog 11 = some l11 := by kernel_rfl
def l16r0 : List AOper :=
  [.mk (some 4) (.mv (.const (.slice none 0 0))) none [],.mk (some 5) (.mv (.const (.bool false))) none [0]]
def l16r1 : List AOper :=
  [.mk (some 6) (.mv (.tmp 0)) none [],.mk (some 7) (.mv (.tmp 1)) none [],.mk (some 8) (.call 49 [.tmp 6,.tmp 7]) none [0,1],.mk (some 9) (.un .not (.tmp 8)) none [2]]
def l16r2 : List AOper :=
  [.mk (some 4) (.mv (.const (.slice none 0 0))) none [],.mk (some 5) (.mv (.const (.bool false))) none [0,0]]
def l16r3 : List AOper :=
  [.mk (some 10) (.mv (.tmp 0)) none [],.mk (some 11) (.mv (.tmp 1)) none [],.mk (some 12) (.call 50 [.tmp 10,.tmp 11]) none [0,1],.mk (some 13) (.extract (.tmp 12) 0) none [2],.mk (some 14) (.extract (.tmp 12) 1) none [2],.mk (some 4) (.mv (.tmp 13)) none [3,2,0,1,2,3,4],.mk (some 5) (.mv (.tmp 14)) none [4,5,0,1,2,3,4,5]]
def l16 : AFn :=
  (AFn.mk 15 2 (.seq (.reg l16r0) (.seq (.seq (.reg l16r1) (.cond (.tmp 9) (.seq (.reg l16r2) .ret) .skip)) (.seq (.reg l16r3) .ret))) [.tmp 4,.tmp 5])
theorem l16_eq : lowFn Try.prog 16 = some l16 := by kernel_rfl
def l20r0 : List AOper :=
  [.mk (some 4) (.mv (.const (.int .i64 0))) none []]
def l20r1 : List AOper :=
  [.mk (some 8) (.mv (.tmp 0)) none [],.mk (some 9) (.mv (.tmp 1)) none [],.mk (some 10) (.call 47 [.tmp 8,.tmp 9,.const (.slice none 0 0)]) none [0,1],.mk (some 7) (.mv (.tmp 10)) none [2],.mk (some 11) (.extract (.tmp 7) 0) none [3],.mk (some 12) (.extract (.tmp 7) 1) none [3],.mk (some 5) (.alloc [.int .i64 0,.int .i64 0,.int .i64 0,.int .i64 0,.int .i64 0]) none [],.mk none (.store 5 (.tmp 5) (.tmp 11)) none [6,4,2,0,1,2,3,4,6],.mk (some 6) (.mv (.tmp 12)) none [5,7,0,1,2,3,4,5,6,7]]
def l20r2 : List AOper :=
  [.mk (some 13) (.mv (.tmp 6)) none [],.mk (some 14) (.un .not (.tmp 13)) none [0]]
def l20r3 : List AOper :=
  [.mk (some 4) (.mv (.const (.int .i64 (-1)))) none []]
def l20r4 : List AOper :=
  [.mk (some 15) (.load true 5 (.tmp 5)) none [],.mk (some 16) (.mv (.tmp 1)) none [],.mk (some 17) (.call 51 [.tmp 15,.tmp 16]) none [0,1],.mk (some 4) (.mv (.tmp 17)) none [2,2,0,1,2]]
def l20 : AFn :=
  (AFn.mk 18 2 (.seq (.reg l20r0) (.seq (.reg l20r1) (.seq (.seq (.reg l20r2) (.cond (.tmp 14) (.seq (.reg l20r3) .ret) .skip)) (.seq (.reg l20r4) .ret)))) [.tmp 4])
theorem l20_eq : lowFn Try.prog 20 = some l20 := by kernel_rfl
def l26r0 : List AOper :=
  [.mk (some 2) (.mv (.const (.slice none 0 0))) none [],.mk (some 3) (.mv (.const (.slice none 0 0))) none [0],.mk (some 4) (.mv (.const (.slice none 0 0))) none [1],.mk (some 5) (.mv (.const (.int .i64 0))) none [2],.mk (some 6) (.mv (.const (.int .i64 0))) none [3]]
def l26r1 : List AOper :=
  [.mk (some 7) (.mv (.tmp 0)) none [],.mk (some 8) (.call 40 [.tmp 7]) none [0],.mk (some 9) (.call 53 [.tmp 8]) none [1,1],.mk (some 10) (.extract (.tmp 9) 0) none [2],.mk (some 11) (.extract (.tmp 9) 1) none [2],.mk (some 12) (.extract (.tmp 9) 2) none [2],.mk (some 13) (.extract (.tmp 9) 3) none [2],.mk (some 14) (.extract (.tmp 9) 4) none [2],.mk (some 2) (.mv (.tmp 10)) none [3,2,0,1,2,3,4,5,6,7],.mk (some 3) (.mv (.tmp 11)) none [4,8,0,1,2,3,4,5,6,7,8],.mk (some 4) (.mv (.tmp 12)) none [5,9,0,1,2,3,4,5,6,7,8,9],.mk (some 5) (.mv (.tmp 13)) none [6,10,0,1,2,3,4,5,6,7,8,9,10],.mk (some 6) (.mv (.tmp 14)) none [7,11,0,1,2,3,4,5,6,7,8,9,10,11]]
def l26 : AFn :=
  (AFn.mk 15 1 (.seq (.reg l26r0) (.seq (.reg l26r1) .ret)) [.tmp 2,.tmp 3,.tmp 4,.tmp 5,.tmp 6])
theorem l26_eq : lowFn Try.prog 26 = some l26 := by kernel_rfl
def l27r0 : List AOper :=
  [.mk (some 10) (.mv (.const (.int .i64 0))) none []]
def l27r1 : List AOper :=
  [.mk (some 15) (.mv (.tmp 0)) none [],.mk (some 16) (.mv (.tmp 1)) none [],.mk (some 17) (.mv (.tmp 2)) none [],.mk (some 18) (.call 47 [.tmp 15,.tmp 16,.tmp 17]) none [0,1,2],.mk (some 14) (.mv (.tmp 18)) none [3],.mk (some 19) (.extract (.tmp 14) 0) none [4],.mk (some 20) (.extract (.tmp 14) 1) none [4],.mk (some 11) (.alloc [.int .i64 0,.int .i64 0,.int .i64 0,.int .i64 0,.int .i64 0]) none [],.mk none (.store 5 (.tmp 11) (.tmp 19)) none [7,5,3,0,1,2,3,4,5,7],.mk (some 12) (.mv (.tmp 20)) none [6,8,0,1,2,3,4,5,6,7,8]]
def l27r2 : List AOper :=
  [.mk (some 21) (.mv (.tmp 12)) none [],.mk (some 22) (.un .not (.tmp 21)) none [0],.mk (some 23) (.mv (.tmp 22)) none [1],.mk (some 24) (.mv (.tmp 3)) (some (23,false)) [2],.mk (some 25) (.mv (.tmp 4)) (some (23,false)) [2],.mk (some 26) (.mv (.tmp 0)) (some (23,false)) [2],.mk (some 27) (.len (.tmp 26)) (some (23,false)) [5,2],.mk (some 28) (.call 54 [.tmp 24,.tmp 25,.tmp 27]) (some (23,false)) [3,4,6,2,2],.mk (some 29) (.un .not (.tmp 28)) (some (23,false)) [7,2],.mk (some 30) (.pick (.tmp 23) (.const (.bool true)) (.tmp 29)) none [2,8]]
def l27r3 : List AOper :=
  [.mk (some 10) (.mv (.const (.int .i64 (-1)))) none []]
def l27r4 : List AOper :=
  [.mk (some 31) (.mv (.tmp 1)) none [],.mk (some 32) (.mv (.tmp 3)) none [],.mk (some 33) (.mv (.tmp 4)) none [],.mk (some 34) (.call 59 [.tmp 31,.tmp 32,.tmp 33]) none [0,1,2],.mk (some 35) (.mv (.tmp 1)) none [],.mk (some 36) (.mv (.tmp 2)) none [],.mk (some 37) (.mv (.tmp 3)) none [],.mk (some 38) (.mv (.tmp 4)) none [],.mk (some 39) (.call 55 [.tmp 35,.tmp 36,.tmp 37,.tmp 38]) none [4,5,6,7,3],.mk (some 40) (.bslice 1 [.slice none 0 0] [(0,.tmp 39)] 1) none [8],.mk (some 41) (.append 1 (.tmp 34) (.tmp 40)) none [3,9,8],.mk (some 13) (.mv (.tmp 41)) none [10,10,0,1,2,3,4,5,6,7,8,9,10]]
def l27r5a : List AOper :=
  [.mk (some 42) (.load true 5 (.tmp 11)) none [],.mk (some 43) (.mv (.tmp 1)) none [],.mk (some 44) (.mv (.tmp 3)) none [],.mk (some 45) (.idxA 1 (.tmp 43) (.tmp 44)) none [1,2],.mk (some 46) (.load false 1 (.tmp 45)) none [3],.mk (some 47) (.mv (.tmp 1)) none [],.mk (some 48) (.mv (.tmp 4)) none [],.mk (some 49) (.idxA 1 (.tmp 47) (.tmp 48)) none [5,6],.mk (some 50) (.load false 1 (.tmp 49)) none [7],.mk (some 51) (.bslice 1 [.slice none 0 0] [(0,.tmp 46),(1,.tmp 50)] 2) none [4,8],.mk (some 52) (.call 51 [.tmp 42,.tmp 51]) none [0,9],.mk (some 53) (.load true 5 (.tmp 11)) none [],.mk (some 54) (.mv (.tmp 13)) none []]
def l27r5b : List AOper :=
  [.mk (some 55) (.call 51 [.tmp 53,.tmp 54]) none [11,12,10],.mk (some 56) (.bin .add (.tmp 52) (.tmp 55)) none [10,13],.mk (some 10) (.mv (.tmp 56)) none [14,13,0,1,2,3,4,5,6,7,8,9,10,11,12,13,14]]
def l27r5 : List AOper := l27r5a ++ l27r5b
def l27 : AFn :=
  (AFn.mk 57 5 (.seq (.reg l27r0) (.seq (.reg l27r1) (.seq (.seq (.reg l27r2) (.cond (.tmp 30) (.seq (.reg l27r3) .ret) .skip)) (.seq (.reg l27r4) (.seq (.draw l27r5) .ret))))) [.tmp 10])
theorem l27_eq : lowFn Try.prog 27 = some l27 := by kernel_rfl
def l28r0 : List AOper :=
  [.mk (some 10) (.mv (.const (.int .i64 0))) none []]
def l28r1 : List AOper :=
  [.mk (some 14) (.mv (.tmp 0)) none [],.mk (some 15) (.mv (.tmp 1)) none [],.mk (some 16) (.call 16 [.tmp 14,.tmp 15]) none [0,1],.mk (some 13) (.mv (.tmp 16)) none [2],.mk (some 17) (.extract (.tmp 13) 0) none [3],.mk (some 18) (.extract (.tmp 13) 1) none [3],.mk (some 11) (.mv (.tmp 17)) none [4,2,0,1,2,3,4],.mk (some 12) (.mv (.tmp 18)) none [5,6,0,1,2,3,4,5,6]]
def l28r2 : List AOper :=
  [.mk (some 19) (.mv (.tmp 12)) none [],.mk (some 20) (.un .not (.tmp 19)) none [0],.mk (some 21) (.mv (.tmp 20)) none [1],.mk (some 22) (.mv (.tmp 2)) (some (21,false)) [2],.mk (some 23) (.call 56 [.tmp 22,.const (.int .i64 0),.const (.int .i64 4)]) (some (21,false)) [3,2,2],.mk (some 24) (.un .not (.tmp 23)) (some (21,false)) [4,2],.mk (some 25) (.pick (.tmp 21) (.const (.bool true)) (.tmp 24)) none [2,5],.mk (some 26) (.mv (.tmp 25)) none [6,4],.mk (some 27) (.mv (.tmp 3)) (some (26,false)) [7],.mk (some 28) (.mv (.tmp 0)) (some (26,false)) [7],.mk (some 29) (.len (.tmp 28)) (some (26,false)) [9,7],.mk (some 30) (.bin .sub (.tmp 29) (.const (.int .i64 1))) (some (26,false)) [10,7],.mk (some 31) (.call 57 [.tmp 27,.const (.int .i64 0),.tmp 30]) (some (26,false)) [8,11,7,7],.mk (some 32) (.un .not (.tmp 31)) (some (26,false)) [12,7],.mk (some 33) (.pick (.tmp 26) (.const (.bool true)) (.tmp 32)) none [7,13],.mk (some 34) (.mv (.tmp 33)) none [14,12],.mk (some 35) (.mv (.tmp 4)) (some (34,false)) [15],.mk (some 36) (.mv (.tmp 0)) (some (34,false)) [15],.mk (some 37) (.len (.tmp 36)) (some (34,false)) [17,15],.mk (some 38) (.bin .sub (.tmp 37) (.const (.int .i64 1))) (some (34,false)) [18,15],.mk (some 39) (.call 57 [.tmp 35,.const (.int .i64 0),.tmp 38]) (some (34,false)) [16,19,15,15],.mk (some 40) (.un .not (.tmp 39)) (some (34,false)) [20,15],.mk (some 41) (.pick (.tmp 34) (.const (.bool true)) (.tmp 40)) none [15,21],.mk (some 42) (.mv (.tmp 41)) none [22,20],.mk (some 43) (.mv (.tmp 3)) (some (42,false)) [23],.mk (some 44) (.mv (.tmp 4)) (some (42,false)) [23],.mk (some 45) (.bin .eql (.tmp 43) (.tmp 44)) (some (42,false)) [24,25,23],.mk (some 46) (.pick (.tmp 42) (.const (.bool true)) (.tmp 45)) none [23,26]]
def l28r3 : List AOper :=
  [.mk (some 10) (.mv (.const (.int .i64 (-1)))) none []]
def l28r4 : List AOper :=
  [.mk (some 47) (.mv (.tmp 11)) none [],.mk (some 48) (.mv (.tmp 1)) none [],.mk (some 49) (.mv (.tmp 2)) none [],.mk (some 50) (.mv (.tmp 3)) none [],.mk (some 51) (.mv (.tmp 4)) none [],.mk (some 52) (.call 60 [.tmp 47,.tmp 48,.tmp 49,.tmp 50,.tmp 51]) none [0,1,2,3,4],.mk (some 10) (.mv (.tmp 52)) none [5,5,0,1,2,3,4,5]]
def l28 : AFn :=
  (AFn.mk 53 5 (.seq (.reg l28r0) (.seq (.reg l28r1) (.seq (.seq (.reg l28r2) (.cond (.tmp 46) (.seq (.reg l28r3) .ret) .skip)) (.seq (.reg l28r4) .ret)))) [.tmp 10])
theorem l28_eq : lowFn Try.prog 28 = some l28 := by kernel_rfl
def l39r0 : List AOper :=
  [.mk (some 2) (.alloc [.slice none 0 0,.slice none 0 0]) none []]
def l39r1 : List AOper :=
  [.mk (some 4) (.mv (.tmp 0)) none [],.mk (some 5) (.mv (.tmp 0)) none [],.mk (some 6) (.call 82 [.tmp 5]) none [1],.mk (some 7) (.call 81 [.tmp 4,.tmp 6]) none [0,2,2],.mk (some 3) (.alloc [.slice none 0 0,.slice none 0 0]) none [],.mk none (.store 2 (.tmp 3) (.tmp 7)) none [4,3,3,0,1,2,3,4]]
def l39r2 : List AOper :=
  [.mk (some 8) (.mv (.tmp 0)) none [],.mk (some 9) (.call 78 [.tmp 8,.const (.int .i64 24)]) none [0]]
def l39r3 : List AOper :=
  [.mk (some 11) (.bin .eql (.tmp 9) (.const (.int .i64 0))) none [],.mk (some 10) (.mv (.tmp 11)) none [0]]
def l39r4 : List AOper :=
  [.mk (some 12) (.fld 1 (.tmp 3)) none [],.mk (some 13) (.load false 1 (.tmp 12)) none [0],.mk (some 14) (.bslice 1 [.int .i64 0] [(0,.const (.int .i64 1))] 1) none [],.mk (some 15) (.append 1 (.tmp 13) (.tmp 14)) none [1,2],.mk (some 16) (.fld 1 (.tmp 3)) none [0,1,2,3],.mk none (.store 1 (.tmp 16) (.tmp 15)) none [4,3,3,0,1,2,3]]
def l39r5 : List AOper :=
  [.mk (some 18) (.bin .eql (.tmp 9) (.const (.int .i64 1))) none [],.mk (some 17) (.mv (.tmp 18)) none [0]]
def l39r6 : List AOper :=
  [.mk (some 19) (.fld 0 (.tmp 3)) none [],.mk (some 20) (.load false 1 (.tmp 19)) none [0],.mk (some 21) (.bslice 1 [.int .i64 0] [(0,.const (.int .i64 (-1)))] 1) none [],.mk (some 22) (.append 1 (.tmp 20) (.tmp 21)) none [1,2],.mk (some 23) (.fld 0 (.tmp 3)) none [0,1,2,3],.mk none (.store 1 (.tmp 23) (.tmp 22)) none [4,3,3,0,1,2,3]]
def l39r7 : List AOper :=
  [.mk (some 24) (.load true 2 (.tmp 3)) none [],.mk none (.store 2 (.tmp 2) (.tmp 24)) none [0,0]]
def l39 : AFn :=
  (AFn.mk 25 1 (.seq (.reg l39r0) (.seq (.reg l39r1) (.seq (.seq (.reg l39r2) (.block 0 (.seq (.reg l39r3) (.cond (.tmp 10) (.reg l39r4) (.seq (.reg l39r5) (.cond (.tmp 17) (.reg l39r6) .skip)))))) (.seq (.reg l39r7) .ret)))) [.cell 2 true 2])
theorem l39_eq : lowFn Try.prog 39 = some l39 := by kernel_rfl
def l40r0 : List AOper :=
  [.mk (some 2) (.mv (.const (.pointer none))) none []]
def l40r1 : List AOper :=
  [.mk (some 3) (.mv (.tmp 0)) none [],.mk (some 4) (.len (.tmp 3)) none [0],.mk (some 5) (.bin .gtr (.tmp 4) (.const (.int .i64 2000))) none [1]]
def l40r2 : List AOper :=
  [.mk (some 6) (.mv (.tmp 0)) none [],.mk (some 7) (.slice 1 (.tmp 6) none (some (.const (.int .i64 2000)))) none [0],.mk (some 0) (.mv (.tmp 7)) none [1,0,1]]
def l40r3 : List AOper :=
  [.mk (some 8) (.mv (.tmp 0)) none [],.mk (some 9) (.build [.slice none 0 0,.int .i64 0] [(0,1,.tmp 8)]) none [0],.mk (some 10) (.box (.tmp 9)) none [1],.mk (some 2) (.mv (.tmp 10)) none [2,0,1,2]]
def l40 : AFn :=
  (AFn.mk 11 1 (.seq (.reg l40r0) (.seq (.seq (.reg l40r1) (.cond (.tmp 5) (.reg l40r2) .skip)) (.seq (.reg l40r3) .ret))) [.tmp 2])
theorem l40_eq : lowFn Try.prog 40 = some l40 := by kernel_rfl
def l41r0 : List AOper :=
  [.mk (some 2) (.mv (.const (.bool false))) none []]
def l41r1 : List AOper :=
  [.mk (some 5) (.mv (.tmp 0)) none [],.mk (some 6) (.len (.tmp 5)) none [0],.mk (some 7) (.bin .gtr (.tmp 6) (.const (.int .i64 4))) none [1]]
def l41r2 : List AOper :=
  [.mk (some 2) (.mv (.const (.bool false))) none []]
def l41r3 : List AOper :=
  [.mk (some 8) (.mv (.tmp 0)) none [],.mk (some 9) (.len (.tmp 8)) none [0],.mk (some 10) (.mv (.const (.int .i64 0))) none []]
def l41r4 : List AOper :=
  [.mk (some 11) (.bin .lss (.tmp 10) (.tmp 9)) none []]
def l41r5 : List AOper :=
  [.mk (some 12) (.idxA 1 (.tmp 8) (.tmp 10)) none [],.mk (some 13) (.load false 1 (.tmp 12)) none [0],.mk (some 4) (.mv (.tmp 13)) none [1,0,1]]
def l41r6 : List AOper :=
  [.mk (some 14) (.mv (.tmp 4)) none [],.mk (some 15) (.call 76 [.tmp 14,.const (.int .i64 60)]) none [0],.mk (some 16) (.un .not (.tmp 15)) none [1]]
def l41r7 : List AOper :=
  [.mk (some 2) (.mv (.const (.bool false))) none []]
def l41r8 : List AOper :=
  [.mk (some 17) (.bin .add (.tmp 10) (.const (.int .i64 1))) none [],.mk (some 10) (.mv (.tmp 17)) none [0]]
def l41r9 : List AOper :=
  [.mk (some 18) (.mv (.tmp 0)) none [],.mk (some 19) (.call 42 [.tmp 18]) none [0],.mk (some 20) (.bin .leq (.tmp 19) (.const (.int .i64 60))) none [1],.mk (some 2) (.mv (.tmp 20)) none [2,1,0,1,2]]
def l41 : AFn :=
  (AFn.mk 21 1 (.seq (.reg l41r0) (.seq (.seq (.reg l41r1) (.cond (.tmp 7) (.seq (.reg l41r2) .ret) .skip)) (.seq (.seq (.reg l41r3) (.block 0 (.loop (.seq (.reg l41r4) (.seq (.cond (.tmp 11) .skip (.exit 0)) (.seq (.block 1 (.seq (.reg l41r5) (.seq (.reg l41r6) (.cond (.tmp 16) (.seq (.reg l41r7) .ret) .skip)))) (.reg l41r8))))))) (.seq (.reg l41r9) .ret)))) [.tmp 2])
theorem l41_eq : lowFn Try.prog 41 = some l41 := by kernel_rfl
def l42r0 : List AOper :=
  [.mk (some 2) (.mv (.const (.int .i64 0))) none []]
def l42r1 : List AOper :=
  [.mk (some 3) (.mv (.const (.int .i64 1))) none []]
def l42r2 : List AOper :=
  [.mk (some 6) (.mv (.tmp 0)) none [],.mk (some 7) (.len (.tmp 6)) none [0],.mk (some 8) (.mv (.const (.int .i64 0))) none []]
def l42r3 : List AOper :=
  [.mk (some 9) (.bin .lss (.tmp 8) (.tmp 7)) none []]
def l42r4 : List AOper :=
  [.mk (some 10) (.idxA 1 (.tmp 6) (.tmp 8)) none [],.mk (some 11) (.load false 1 (.tmp 10)) none [0],.mk (some 5) (.mv (.tmp 11)) none [1,0,1]]
def l42r5 : List AOper :=
  [.mk (some 12) (.mv (.tmp 3)) none [],.mk (some 13) (.mv (.tmp 5)) none [],.mk (some 14) (.bin .mul (.tmp 12) (.tmp 13)) none [0,1],.mk (some 3) (.mv (.tmp 14)) none [2,0,1,2]]
def l42r6 : List AOper :=
  [.mk (some 15) (.bin .add (.tmp 8) (.const (.int .i64 1))) none [],.mk (some 8) (.mv (.tmp 15)) none [0]]
def l42r7 : List AOper :=
  [.mk (some 16) (.mv (.tmp 3)) none [],.mk (some 2) (.mv (.tmp 16)) none [0,0]]
def l42 : AFn :=
  (AFn.mk 17 1 (.seq (.reg l42r0) (.seq (.reg l42r1) (.seq (.seq (.reg l42r2) (.block 0 (.loop (.seq (.reg l42r3) (.seq (.cond (.tmp 9) .skip (.exit 0)) (.seq (.block 1 (.seq (.reg l42r4) (.reg l42r5))) (.reg l42r6))))))) (.seq (.reg l42r7) .ret)))) [.tmp 2])
theorem l42_eq : lowFn Try.prog 42 = some l42 := by kernel_rfl
def l43r0 : List AOper :=
  [.mk (some 4) (.mv (.const (.bool false))) none []]
def l43r1 : List AOper :=
  [.mk (some 5) (.mv (.tmp 1)) none [],.mk (some 6) (.un .neg (.tmp 5)) none [0],.mk (some 7) (.mv (.tmp 0)) none [],.mk (some 8) (.bin .leq (.tmp 6) (.tmp 7)) none [1,2],.mk (some 9) (.mv (.tmp 8)) none [3],.mk (some 10) (.mv (.tmp 0)) (some (9,true)) [4],.mk (some 11) (.mv (.tmp 1)) (some (9,true)) [4],.mk (some 12) (.bin .leq (.tmp 10) (.tmp 11)) (some (9,true)) [5,6,4],.mk (some 13) (.pick (.tmp 9) (.tmp 12) (.const (.bool false))) none [4,7],.mk (some 4) (.mv (.tmp 13)) none [8,4,0,1,2,3,4,5,6,7,8]]
def l43 : AFn :=
  (AFn.mk 14 2 (.seq (.reg l43r0) (.seq (.reg l43r1) .ret)) [.tmp 4])
theorem l43_eq : lowFn Try.prog 43 = some l43 := by kernel_rfl
def l44r0 : List AOper :=
  [.mk (some 1) (.box (.tmp 0)) none [],.mk (some 2) (.mv (.const (.bool false))) none []]
def l44r1a : List AOper :=
  [.mk (some 3) (.fld 0 (.tmp 1)) none [],.mk (some 4) (.load false 1 (.tmp 3)) none [0],.mk (some 5) (.call 83 [.tmp 4]) none [1],.mk (some 6) (.mv (.tmp 5)) none [2,2],.mk (some 7) (.fld 1 (.tmp 1)) (some (6,true)) [3],.mk (some 8) (.load false 1 (.tmp 7)) (some (6,true)) [4,3],.mk (some 9) (.len (.tmp 8)) (some (6,true)) [5,3],.mk (some 10) (.fld 0 (.tmp 1)) (some (6,true)) [3],.mk (some 11) (.load false 1 (.tmp 10)) (some (6,true)) [7,3],.mk (some 12) (.call 84 [.tmp 11]) (some (6,true)) [8,3,3]]
def l44r1b : List AOper :=
  [.mk (some 13) (.bin .eql (.tmp 9) (.tmp 12)) (some (6,true)) [6,9,3],.mk (some 14) (.pick (.tmp 6) (.tmp 13) (.const (.bool false))) none [3,10],.mk (some 15) (.mv (.tmp 14)) none [11,9],.mk (some 16) (.fld 1 (.tmp 1)) (some (15,true)) [12],.mk (some 17) (.load false 1 (.tmp 16)) (some (15,true)) [13,12],.mk (some 18) (.call 56 [.tmp 17,.const (.int .i64 (-1000000)),.const (.int .i64 1000000)]) (some (15,true)) [14,12,12],.mk (some 19) (.pick (.tmp 15) (.tmp 18) (.const (.bool false))) none [12,15],.mk (some 2) (.mv (.tmp 19)) none [16,15,0,1,2,3,4,5,6,7,8,9,10,11,12,13,14,15,16]]
def l44r1 : List AOper := l44r1a ++ l44r1b
def l44 : AFn :=
  (AFn.mk 20 1 (.seq (.reg l44r0) (.seq (.draw l44r1) .ret)) [.tmp 2])
theorem l44_eq : lowFn Try.prog 44 = some l44 := by kernel_rfl
def l45r0 : List AOper :=
  [.mk (some 4) (.mv (.const (.slice none 0 0))) none [],.mk (some 5) (.mv (.const (.slice none 0 0))) none [0],.mk (some 6) (.mv (.const (.slice none 0 0))) none [1]]
def l45r1 : List AOper :=
  [.mk (some 17) (.mv (.tmp 0)) none [],.mk (some 18) (.bslice 1 [.int .i64 0] [(0,.const (.int .i64 2)),(1,.const (.int .i64 3)),(2,.const (.int .i64 1))] 3) none [],.mk (some 19) (.call 46 [.tmp 17,.tmp 18]) none [0,1],.mk (some 20) (.mv (.tmp 0)) none [],.mk (some 21) (.bslice 1 [.int .i64 0] [(0,.const (.int .i64 3)),(1,.const (.int .i64 2)),(2,.const (.int .i64 4))] 3) none [],.mk (some 22) (.call 46 [.tmp 20,.tmp 21]) none [3,4,2],.mk (some 23) (.mv (.tmp 0)) none [],.mk (some 24) (.bslice 1 [.int .i64 0] [(0,.const (.int .i64 2)),(1,.const (.int .i64 1)),(2,.const (.int .i64 0))] 3) none [],.mk (some 25) (.call 46 [.tmp 23,.tmp 24]) none [6,7,5],.mk (some 26) (.mv (.tmp 0)) none [],.mk (some 27) (.bslice 1 [.int .i64 0] [(0,.const (.int .i64 2)),(1,.const (.int .i64 3))] 2) none [],.mk (some 28) (.call 46 [.tmp 26,.tmp 27]) none [9,10,8],.mk (some 29) (.bslice 1 [.int .i64 0] [(0,.tmp 19),(1,.tmp 22),(2,.tmp 25),(3,.tmp 28),(4,.const (.int .i64 2))] 5) none [2,5,8,11],.mk (some 7) (.mv (.tmp 29)) none [12,11,0,1,2,3,4,5,6,7,8,9,10,11,12]]
def l45r2 : List AOper :=
  [.mk (some 30) (.bslice 2 [.slice none 0 0,.slice none 0 0] [] 0) none [],.mk (some 8) (.mv (.tmp 30)) none [0,0]]
def l45r3 : List AOper :=
  [.mk (some 31) (.bslice 1 [.slice none 0 0] [] 0) none [],.mk (some 9) (.mv (.tmp 31)) none [0,0]]
def l45r4 : List AOper :=
  [.mk (some 32) (.bslice 1 [.int .i64 0] [] 0) none [],.mk (some 10) (.mv (.tmp 32)) none [0,0]]
def l45r5 : List AOper :=
  [.mk (some 11) (.mv (.const (.int .i64 0))) none []]
def l45r6 : List AOper :=
  [.mk (some 33) (.mv (.tmp 11)) none [],.mk (some 34) (.mv (.tmp 1)) none [],.mk (some 35) (.bin .lss (.tmp 33) (.tmp 34)) none [0,1]]
def l45r7 : List AOper :=
  [.mk (some 38) (.bslice 1 [.int .i64 0] [] 0) none [],.mk (some 12) (.mv (.tmp 38)) none [0,0]]
def l45r8 : List AOper :=
  [.mk (some 39) (.mv (.tmp 0)) none [],.mk (some 40) (.bslice 1 [.int .i64 0] [(0,.const (.int .i64 2)),(1,.const (.int .i64 1)),(2,.const (.int .i64 2)),(3,.const (.int .i64 3)),(4,.const (.int .i64 0))] 5) none [],.mk (some 41) (.call 46 [.tmp 39,.tmp 40]) none [0,1],.mk (some 13) (.mv (.tmp 41)) none [2,2,0,1,2]]
def l45r9 : List AOper :=
  [.mk (some 42) (.mv (.tmp 13)) none [],.mk (some 43) (.bin .gtr (.tmp 42) (.const (.int .i64 0))) none [0]]
def l45r10 : List AOper :=
  [.mk (some 46) (.mv (.tmp 0)) none [],.mk (some 47) (.call 78 [.tmp 46,.const (.int .i64 5)]) none [0],.mk (some 14) (.mv (.tmp 47)) none [1,1,0,1]]
def l45r11a : List AOper :=
  [.mk (some 48) (.mv (.tmp 7)) none [],.mk (some 49) (.mv (.tmp 12)) none [],.mk (some 50) (.call 85 [.tmp 48,.tmp 49]) none [0,1],.mk (some 51) (.call 84 [.tmp 50]) none [2,2],.mk (some 52) (.mv (.tmp 7)) none [],.mk (some 53) (.mv (.tmp 14)) none [],.mk (some 54) (.idxA 1 (.tmp 52) (.tmp 53)) none [4,5],.mk (some 55) (.load false 1 (.tmp 54)) none [6]]
def l45r11b : List AOper :=
  [.mk (some 56) (.bin .mul (.tmp 51) (.tmp 55)) none [3,7],.mk (some 57) (.bin .leq (.tmp 56) (.const (.int .i64 24))) none [8]]
def l45r11 : List AOper := l45r11a ++ l45r11b
def l45r12 : List AOper :=
  [.mk (some 58) (.mv (.tmp 12)) none [],.mk (some 59) (.mv (.tmp 14)) none [],.mk (some 60) (.bslice 1 [.int .i64 0] [(0,.tmp 59)] 1) none [1],.mk (some 61) (.append 1 (.tmp 58) (.tmp 60)) none [0,2],.mk (some 12) (.mv (.tmp 61)) none [3,3,0,1,2,3]]
def l45r13 : List AOper :=
  [.mk (some 44) (.mv (.tmp 13)) none [],.mk (some 45) (.bin .sub (.tmp 44) (.const (.int .i64 1))) none [0],.mk (some 13) (.mv (.tmp 45)) none [1,0,1]]
def l45r14 : List AOper :=
  [.mk (some 62) (.mv (.tmp 8)) none [],.mk (some 63) (.mv (.tmp 0)) none [],.mk (some 64) (.mv (.tmp 7)) none [],.mk (some 65) (.mv (.tmp 12)) none [],.mk (some 66) (.call 85 [.tmp 64,.tmp 65]) none [2,3],.mk (some 67) (.call 81 [.tmp 63,.tmp 66]) none [1,4,4],.mk (some 68) (.bslice 2 [.slice none 0 0,.slice none 0 0] [(0,.tmp 67)] 1) none [5],.mk (some 69) (.append 2 (.tmp 62) (.tmp 68)) none [0,6,5],.mk (some 8) (.mv (.tmp 69)) none [7,7,0,1,2,3,4,5,6,7]]
def l45r15 : List AOper :=
  [.mk (some 70) (.mv (.tmp 9)) none [],.mk (some 71) (.mv (.tmp 12)) none [],.mk (some 72) (.bslice 1 [.slice none 0 0] [(0,.tmp 71)] 1) none [1],.mk (some 73) (.append 1 (.tmp 70) (.tmp 72)) none [0,2],.mk (some 9) (.mv (.tmp 73)) none [3,3,0,1,2,3]]
def l45r16 : List AOper :=
  [.mk (some 74) (.mv (.tmp 10)) none [],.mk (some 75) (.mv (.tmp 12)) none [],.mk (some 76) (.append 1 (.tmp 74) (.tmp 75)) none [0,1],.mk (some 10) (.mv (.tmp 76)) none [2,2,0,1,2]]
def l45r17 : List AOper :=
  [.mk (some 36) (.mv (.tmp 11)) none [],.mk (some 37) (.bin .add (.tmp 36) (.const (.int .i64 1))) none [0],.mk (some 11) (.mv (.tmp 37)) none [1,0,1]]
def l45r18 : List AOper :=
  [.mk (some 77) (.bslice 1 [.int .i64 0] [] 0) none [],.mk (some 15) (.mv (.tmp 77)) none [0,0]]
def l45r19 : List AOper :=
  [.mk (some 16) (.mv (.const (.int .i64 0))) none []]
def l45r20 : List AOper :=
  [.mk (some 78) (.mv (.tmp 16)) none [],.mk (some 79) (.bin .lss (.tmp 78) (.const (.int .i64 5))) none [0]]
def l45r21a : List AOper :=
  [.mk (some 82) (.mv (.tmp 10)) none [],.mk (some 83) (.mv (.tmp 16)) none [],.mk (some 84) (.call 79 [.tmp 82,.tmp 83]) none [0,1],.mk (some 85) (.bin .geq (.tmp 84) (.const (.int .i64 0))) none [2],.mk (some 86) (.mv (.tmp 85)) none [3,2],.mk (some 87) (.mv (.tmp 0)) (some (86,true)) [4],.mk (some 88) (.call 78 [.tmp 87,.const (.int .i64 2)]) (some (86,true)) [5,4,4],.mk (some 89) (.bin .eql (.tmp 88) (.const (.int .i64 0))) (some (86,true)) [6,4],.mk (some 90) (.pick (.tmp 86) (.tmp 89) (.const (.bool false))) none [4,7],.mk (some 91) (.mv (.tmp 90)) none [8,6],.mk (some 92) (.mv (.tmp 7)) (some (91,true)) [9],.mk (some 93) (.mv (.tmp 15)) (some (91,true)) [9],.mk (some 94) (.call 85 [.tmp 92,.tmp 93]) (some (91,true)) [10,11,9,9],.mk (some 95) (.call 84 [.tmp 94]) (some (91,true)) [12,12,9],.mk (some 96) (.mv (.tmp 7)) (some (91,true)) [9],.mk (some 97) (.mv (.tmp 16)) (some (91,true)) [9],.mk (some 98) (.idxA 1 (.tmp 96) (.tmp 97)) (some (91,true)) [14,15,9],.mk (some 99) (.load false 1 (.tmp 98)) (some (91,true)) [16,9]]
def l45r21b : List AOper :=
  [.mk (some 100) (.bin .mul (.tmp 95) (.tmp 99)) (some (91,true)) [13,17,9],.mk (some 101) (.bin .leq (.tmp 100) (.const (.int .i64 60))) (some (91,true)) [18,9],.mk (some 102) (.pick (.tmp 91) (.tmp 101) (.const (.bool false))) none [9,19],.mk (some 103) (.mv (.tmp 102)) none [20,13],.mk (some 104) (.mv (.tmp 15)) (some (103,true)) [21],.mk (some 105) (.len (.tmp 104)) (some (103,true)) [22,21],.mk (some 106) (.bin .lss (.tmp 105) (.const (.int .i64 4))) (some (103,true)) [23,21],.mk (some 107) (.pick (.tmp 103) (.tmp 106) (.const (.bool false))) none [21,24]]
def l45r21 : List AOper := l45r21a ++ l45r21b
def l45r22 : List AOper :=
  [.mk (some 108) (.mv (.tmp 15)) none [],.mk (some 109) (.mv (.tmp 0)) none [],.mk (some 110) (.mv (.tmp 15)) none [],.mk (some 111) (.len (.tmp 110)) none [2],.mk (some 112) (.bin .add (.tmp 111) (.const (.int .i64 1))) none [3],.mk (some 113) (.call 78 [.tmp 109,.tmp 112]) none [1,4],.mk (some 114) (.mv (.tmp 16)) none [],.mk (some 115) (.call 86 [.tmp 108,.tmp 113,.tmp 114]) none [0,5,6,5],.mk (some 15) (.mv (.tmp 115)) none [7,7,0,1,2,3,4,5,6,7]]
def l45r23 : List AOper :=
  [.mk (some 80) (.mv (.tmp 16)) none [],.mk (some 81) (.bin .add (.tmp 80) (.const (.int .i64 1))) none [0],.mk (some 16) (.mv (.tmp 81)) none [1,0,1]]
def l45r24 : List AOper :=
  [.mk (some 116) (.mv (.tmp 0)) none [],.mk (some 117) (.call 78 [.tmp 116,.const (.int .i64 24)]) none [0]]
def l45r25 : List AOper :=
  [.mk (some 119) (.bin .eql (.tmp 117) (.const (.int .i64 0))) none [],.mk (some 118) (.mv (.tmp 119)) none [0]]
def l45r26 : List AOper :=
  [.mk (some 120) (.mv (.tmp 15)) none [],.mk (some 121) (.mv (.tmp 0)) none [],.mk (some 122) (.bslice 1 [.int .i64 0] [(0,.const (.int .i64 4)),(1,.const (.int .i64 (-1))),(2,.const (.int .i64 5))] 3) none [],.mk (some 123) (.call 46 [.tmp 121,.tmp 122]) none [1,2],.mk (some 124) (.bslice 1 [.int .i64 0] [(0,.tmp 123)] 1) none [3],.mk (some 125) (.append 1 (.tmp 120) (.tmp 124)) none [0,4,3],.mk (some 15) (.mv (.tmp 125)) none [5,5,0,1,2,3,4,5]]
def l45r27 : List AOper :=
  [.mk (some 127) (.bin .eql (.tmp 117) (.const (.int .i64 1))) none [],.mk (some 126) (.mv (.tmp 127)) none [0]]
def l45r28 : List AOper :=
  [.mk (some 128) (.mv (.tmp 9)) none [],.mk (some 129) (.mv (.tmp 9)) none [],.mk (some 130) (.idxA 1 (.tmp 129) (.const (.int .i64 0))) none [1],.mk (some 131) (.load false 1 (.tmp 130)) none [2],.mk (some 132) (.bslice 1 [.int .i64 0] [(0,.const (.int .i64 1))] 1) none [],.mk (some 133) (.append 1 (.tmp 131) (.tmp 132)) none [3,4],.mk (some 134) (.idxA 1 (.tmp 128) (.const (.int .i64 0))) none [0,0,1,2,3,4,5],.mk none (.store 1 (.tmp 134) (.tmp 133)) none [6,5,5,0,1,2,3,4,5]]
def l45r29 : List AOper :=
  [.mk (some 136) (.bin .eql (.tmp 117) (.const (.int .i64 2))) none [],.mk (some 135) (.mv (.tmp 136)) none [0]]
def l45r30 : List AOper :=
  [.mk (some 137) (.mv (.tmp 8)) none [],.mk (some 138) (.mv (.tmp 0)) none [],.mk (some 139) (.call 39 [.tmp 138]) none [1],.mk (some 140) (.idxA 2 (.tmp 137) (.const (.int .i64 0))) none [0,0,1,2],.mk none (.store 2 (.tmp 140) (.tmp 139)) none [3,2,2,0,1,2]]
def l45r31 : List AOper :=
  [.mk (some 141) (.mv (.tmp 8)) none [],.mk (some 142) (.mv (.tmp 9)) none [],.mk (some 143) (.mv (.tmp 15)) none [],.mk (some 4) (.mv (.tmp 141)) none [0,0],.mk (some 5) (.mv (.tmp 142)) none [1,3,0,1,3],.mk (some 6) (.mv (.tmp 143)) none [2,4,0,1,2,3,4]]
def l45 : AFn :=
  (AFn.mk 144 2 (.seq (.reg l45r0) (.seq (.reg l45r1) (.seq (.reg l45r2) (.seq (.reg l45r3) (.seq (.reg l45r4) (.seq (.seq (.reg l45r5) (.block 0 (.loop (.seq (.seq (.reg l45r6) (.cond (.tmp 35) .skip (.exit 0))) (.seq (.block 1 (.seq (.reg l45r7) (.seq (.seq (.reg l45r8) (.block 2 (.loop (.seq (.seq (.reg l45r9) (.cond (.tmp 43) .skip (.exit 2))) (.seq (.block 3 (.seq (.reg l45r10) (.seq (.draw l45r11) (.cond (.tmp 57) (.reg l45r12) .skip)))) (.reg l45r13)))))) (.seq (.reg l45r14) (.seq (.reg l45r15) (.reg l45r16)))))) (.reg l45r17)))))) (.seq (.reg l45r18) (.seq (.seq (.reg l45r19) (.block 4 (.loop (.seq (.seq (.reg l45r20) (.cond (.tmp 79) .skip (.exit 4))) (.seq (.block 5 (.seq (.draw l45r21) (.cond (.tmp 107) (.reg l45r22) .skip))) (.reg l45r23)))))) (.seq (.seq (.reg l45r24) (.block 6 (.seq (.reg l45r25) (.cond (.tmp 118) (.reg l45r26) (.seq (.reg l45r27) (.cond (.tmp 126) (.reg l45r28) (.seq (.reg l45r29) (.cond (.tmp 135) (.reg l45r30) .skip)))))))) (.seq (.reg l45r31) .ret)))))))))) [.tmp 4,.tmp 5,.tmp 6])
theorem l45_eq : lowFn Try.prog 45 = some l45 := by kernel_rfl
def l46r0 : List AOper :=
  [.mk (some 4) (.mv (.const (.int .i64 0))) none []]
def l46r1 : List AOper :=
  [.mk (some 5) (.mv (.tmp 1)) none [],.mk (some 6) (.mv (.tmp 0)) none [],.mk (some 7) (.mv (.tmp 1)) none [],.mk (some 8) (.len (.tmp 7)) none [2],.mk (some 9) (.call 78 [.tmp 6,.tmp 8]) none [1,3],.mk (some 10) (.idxA 1 (.tmp 5) (.tmp 9)) none [0,4],.mk (some 11) (.load false 1 (.tmp 10)) none [5],.mk (some 4) (.mv (.tmp 11)) none [6,4,0,1,2,3,4,5,6]]
def l46 : AFn :=
  (AFn.mk 12 2 (.seq (.reg l46r0) (.seq (.reg l46r1) .ret)) [.tmp 4])
theorem l46_eq : lowFn Try.prog 46 = some l46 := by kernel_rfl
def l47r0 : List AOper :=
  [.mk (some 6) (.alloc [.int .i64 0,.int .i64 0,.int .i64 0,.int .i64 0,.int .i64 0]) none [],.mk (some 7) (.mv (.const (.bool false))) none []]
def l47r1 : List AOper :=
  [.mk (some 8) (.mv (.tmp 0)) none [],.mk (some 9) (.len (.tmp 8)) none [0],.mk (some 10) (.bin .lss (.tmp 9) (.const (.int .i64 1))) none [1],.mk (some 11) (.mv (.tmp 10)) none [2],.mk (some 12) (.mv (.tmp 0)) (some (11,false)) [3],.mk (some 13) (.len (.tmp 12)) (some (11,false)) [4,3],.mk (some 14) (.bin .gtr (.tmp 13) (.const (.int .i64 3))) (some (11,false)) [5,3],.mk (some 15) (.pick (.tmp 11) (.const (.bool true)) (.tmp 14)) none [3,6],.mk (some 16) (.mv (.tmp 15)) none [7,3],.mk (some 17) (.mv (.tmp 1)) (some (16,false)) [8],.mk (some 18) (.len (.tmp 17)) (some (16,false)) [9,8],.mk (some 19) (.mv (.tmp 0)) (some (16,false)) [8],.mk (some 20) (.len (.tmp 19)) (some (16,false)) [11,8],.mk (some 21) (.bin .neq (.tmp 18) (.tmp 20)) (some (16,false)) [10,12,8],.mk (some 22) (.pick (.tmp 16) (.const (.bool true)) (.tmp 21)) none [8,13],.mk (some 23) (.mv (.tmp 22)) none [14,8],.mk (some 24) (.mv (.tmp 2)) (some (23,false)) [15],.mk (some 25) (.call 87 [.tmp 24]) (some (23,false)) [16,15,15],.mk (some 26) (.un .not (.tmp 25)) (some (23,false)) [17,15],.mk (some 27) (.pick (.tmp 23) (.const (.bool true)) (.tmp 26)) none [15,18]]
def l47r2 : List AOper :=
  [.mk (some 28) (.call 88 []) none [],.mk none (.store 5 (.tmp 6) (.tmp 28)) none [0,0,0],.mk (some 7) (.mv (.const (.bool false))) none [1,0,1]]
def l47r3 : List AOper :=
  [.mk (some 29) (.mv (.tmp 0)) none [],.mk (some 30) (.mv (.tmp 1)) none [],.mk (some 31) (.call 89 [.tmp 29,.tmp 30]) none [0,1],.mk (some 32) (.extract (.tmp 31) 0) none [2],.mk (some 33) (.extract (.tmp 31) 1) none [2],.mk none (.store 5 (.tmp 6) (.tmp 32)) none [3,2,0,1,2,3,4],.mk (some 7) (.mv (.tmp 33)) none [4,5,0,1,2,3,4,5]]
def l47 : AFn :=
  (AFn.mk 34 3 (.seq (.reg l47r0) (.seq (.seq (.reg l47r1) (.cond (.tmp 27) (.seq (.reg l47r2) .ret) .skip)) (.seq (.reg l47r3) .ret))) [.cell 6 true 5,.tmp 7])
theorem l47_eq : lowFn Try.prog 47 = some l47 := by kernel_rfl
def l49r0 : List AOper :=
  [.mk (some 4) (.mv (.const (.bool false))) none []]
def l49r1 : List AOper :=
  [.mk (some 5) (.mv (.const (.int .i64 0))) none []]
def l49r2 : List AOper :=
  [.mk (some 6) (.mv (.tmp 5)) none [],.mk (some 7) (.mv (.tmp 0)) none [],.mk (some 8) (.len (.tmp 7)) none [1],.mk (some 9) (.bin .lss (.tmp 6) (.tmp 8)) none [0,2]]
def l49r3 : List AOper :=
  [.mk (some 12) (.mv (.tmp 0)) none [],.mk (some 13) (.mv (.tmp 5)) none [],.mk (some 14) (.idxA 2 (.tmp 12) (.tmp 13)) none [0,1],.mk (some 15) (.load true 2 (.tmp 14)) none [2],.mk (some 16) (.call 44 [.tmp 15]) none [3],.mk (some 17) (.un .not (.tmp 16)) none [4]]
def l49r4 : List AOper :=
  [.mk (some 4) (.mv (.const (.bool false))) none []]
def l49r5 : List AOper :=
  [.mk (some 10) (.mv (.tmp 5)) none [],.mk (some 11) (.bin .add (.tmp 10) (.const (.int .i64 1))) none [0],.mk (some 5) (.mv (.tmp 11)) none [1,0,1]]
def l49r6 : List AOper :=
  [.mk (some 18) (.mv (.tmp 0)) none [],.mk (some 19) (.len (.tmp 18)) none [0],.mk (some 20) (.call 57 [.tmp 19,.const (.int .i64 1),.const (.int .i64 3)]) none [1],.mk (some 21) (.mv (.tmp 20)) none [2,2],.mk (some 22) (.mv (.tmp 1)) (some (21,true)) [3],.mk (some 23) (.len (.tmp 22)) (some (21,true)) [4,3],.mk (some 24) (.mv (.tmp 0)) (some (21,true)) [3],.mk (some 25) (.len (.tmp 24)) (some (21,true)) [6,3],.mk (some 26) (.bin .eql (.tmp 23) (.tmp 25)) (some (21,true)) [5,7,3],.mk (some 27) (.pick (.tmp 21) (.tmp 26) (.const (.bool false))) none [3,8],.mk (some 4) (.mv (.tmp 27)) none [9,3,0,1,2,3,4,5,6,7,8,9]]
def l49 : AFn :=
  (AFn.mk 28 2 (.seq (.reg l49r0) (.seq (.seq (.reg l49r1) (.block 0 (.loop (.seq (.seq (.reg l49r2) (.cond (.tmp 9) .skip (.exit 0))) (.seq (.block 1 (.seq (.reg l49r3) (.cond (.tmp 17) (.seq (.reg l49r4) .ret) .skip))) (.reg l49r5)))))) (.seq (.reg l49r6) .ret))) [.tmp 4])
theorem l49_eq : lowFn Try.prog 49 = some l49 := by kernel_rfl
def l50r0 : List AOper :=
  [.mk (some 4) (.mv (.const (.slice none 0 0))) none [],.mk (some 5) (.mv (.const (.bool false))) none [0]]
def l50r1 : List AOper :=
  [.mk (some 11) (.bslice 1 [.int .i64 0] [] 0) none [],.mk (some 6) (.mv (.tmp 11)) none [0,0]]
def l50r2 : List AOper :=
  [.mk (some 7) (.mv (.const (.int .i64 0))) none []]
def l50r3 : List AOper :=
  [.mk (some 12) (.mv (.tmp 7)) none [],.mk (some 13) (.bin .leq (.tmp 12) (.const (.int .i64 4))) none [0]]
def l50r4 : List AOper :=
  [.mk (some 16) (.mv (.tmp 6)) none [],.mk (some 17) (.bslice 1 [.int .i64 0] [(0,.const (.int .i64 (-1)))] 1) none [],.mk (some 18) (.append 1 (.tmp 16) (.tmp 17)) none [0,1],.mk (some 6) (.mv (.tmp 18)) none [2,2,0,1,2]]
def l50r5 : List AOper :=
  [.mk (some 14) (.mv (.tmp 7)) none [],.mk (some 15) (.bin .add (.tmp 14) (.const (.int .i64 1))) none [0],.mk (some 7) (.mv (.tmp 15)) none [1,0,1]]
def l50r6 : List AOper :=
  [.mk (some 8) (.mv (.const (.int .i64 0))) none []]
def l50r7 : List AOper :=
  [.mk (some 19) (.mv (.tmp 8)) none [],.mk (some 20) (.mv (.tmp 0)) none [],.mk (some 21) (.len (.tmp 20)) none [1],.mk (some 22) (.bin .lss (.tmp 19) (.tmp 21)) none [0,2]]
def l50r8a : List AOper :=
  [.mk (some 25) (.mv (.tmp 1)) none [],.mk (some 26) (.mv (.tmp 8)) none [],.mk (some 27) (.idxA 1 (.tmp 25) (.tmp 26)) none [0,1],.mk (some 28) (.load false 1 (.tmp 27)) none [2],.mk (some 29) (.len (.tmp 28)) none [3],.mk (some 30) (.mv (.tmp 0)) none [],.mk (some 31) (.mv (.tmp 8)) none [],.mk (some 32) (.idxA 2 (.tmp 30) (.tmp 31)) none [5,6],.mk (some 33) (.fld 0 (.tmp 32)) none [7],.mk (some 34) (.load false 1 (.tmp 33)) none [8],.mk (some 35) (.len (.tmp 34)) none [9],.mk (some 36) (.bin .neq (.tmp 29) (.tmp 35)) none [4,10],.mk (some 37) (.mv (.tmp 36)) none [11],.mk (some 38) (.mv (.tmp 1)) (some (37,false)) [12],.mk (some 39) (.mv (.tmp 8)) (some (37,false)) [12]]
def l50r8b : List AOper :=
  [.mk (some 40) (.idxA 1 (.tmp 38) (.tmp 39)) (some (37,false)) [13,14,12],.mk (some 41) (.load false 1 (.tmp 40)) (some (37,false)) [15,12],.mk (some 42) (.call 56 [.tmp 41,.const (.int .i64 0),.const (.int .i64 4)]) (some (37,false)) [16,12,12],.mk (some 43) (.un .not (.tmp 42)) (some (37,false)) [17,12],.mk (some 44) (.pick (.tmp 37) (.const (.bool true)) (.tmp 43)) none [12,18]]
def l50r8 : List AOper := l50r8a ++ l50r8b
def l50r9 : List AOper :=
  [.mk (some 4) (.mv (.const (.slice none 0 0))) none [],.mk (some 5) (.mv (.const (.bool false))) none [0,0]]
def l50r10 : List AOper :=
  [.mk (some 9) (.mv (.const (.int .i64 0))) none []]
def l50r11 : List AOper :=
  [.mk (some 45) (.mv (.tmp 9)) none [],.mk (some 46) (.mv (.tmp 1)) none [],.mk (some 47) (.mv (.tmp 8)) none [],.mk (some 48) (.idxA 1 (.tmp 46) (.tmp 47)) none [1,2],.mk (some 49) (.load false 1 (.tmp 48)) none [3],.mk (some 50) (.len (.tmp 49)) none [4],.mk (some 51) (.bin .lss (.tmp 45) (.tmp 50)) none [0,5]]
def l50r12 : List AOper :=
  [.mk (some 54) (.mv (.tmp 1)) none [],.mk (some 55) (.mv (.tmp 8)) none [],.mk (some 56) (.idxA 1 (.tmp 54) (.tmp 55)) none [0,1],.mk (some 57) (.load false 1 (.tmp 56)) none [2],.mk (some 58) (.mv (.tmp 9)) none [],.mk (some 59) (.idxA 1 (.tmp 57) (.tmp 58)) none [3,4],.mk (some 60) (.load false 1 (.tmp 59)) none [5],.mk (some 10) (.mv (.tmp 60)) none [6,0,1,2,3,4,5,6]]
def l50r13a : List AOper :=
  [.mk (some 61) (.mv (.tmp 6)) none [],.mk (some 62) (.mv (.tmp 10)) none [],.mk (some 63) (.idxA 1 (.tmp 61) (.tmp 62)) none [0,1],.mk (some 64) (.load false 1 (.tmp 63)) none [2],.mk (some 65) (.bin .geq (.tmp 64) (.const (.int .i64 0))) none [3],.mk (some 66) (.mv (.tmp 65)) none [4],.mk (some 67) (.mv (.tmp 6)) (some (66,true)) [5],.mk (some 68) (.mv (.tmp 10)) (some (66,true)) [5],.mk (some 69) (.idxA 1 (.tmp 67) (.tmp 68)) (some (66,true)) [6,7,5],.mk (some 70) (.load false 1 (.tmp 69)) (some (66,true)) [8,5],.mk (some 71) (.mv (.tmp 0)) (some (66,true)) [5],.mk (some 72) (.mv (.tmp 8)) (some (66,true)) [5],.mk (some 73) (.idxA 2 (.tmp 71) (.tmp 72)) (some (66,true)) [10,11,5],.mk (some 74) (.fld 0 (.tmp 73)) (some (66,true)) [12,5],.mk (some 75) (.load false 1 (.tmp 74)) (some (66,true)) [13,5],.mk (some 76) (.mv (.tmp 9)) (some (66,true)) [5],.mk (some 77) (.idxA 1 (.tmp 75) (.tmp 76)) (some (66,true)) [14,15,5],.mk (some 78) (.load false 1 (.tmp 77)) (some (66,true)) [16,5]]
def l50r13b : List AOper :=
  [.mk (some 79) (.bin .neq (.tmp 70) (.tmp 78)) (some (66,true)) [9,17,5],.mk (some 80) (.pick (.tmp 66) (.tmp 79) (.const (.bool false))) none [5,18]]
def l50r13 : List AOper := l50r13a ++ l50r13b
def l50r14 : List AOper :=
  [.mk (some 4) (.mv (.const (.slice none 0 0))) none [],.mk (some 5) (.mv (.const (.bool false))) none [0,0]]
def l50r15 : List AOper :=
  [.mk (some 81) (.mv (.tmp 6)) none [],.mk (some 82) (.mv (.tmp 10)) none [],.mk (some 83) (.mv (.tmp 0)) none [],.mk (some 84) (.mv (.tmp 8)) none [],.mk (some 85) (.idxA 2 (.tmp 83) (.tmp 84)) none [2,3],.mk (some 86) (.fld 0 (.tmp 85)) none [4],.mk (some 87) (.load false 1 (.tmp 86)) none [5],.mk (some 88) (.mv (.tmp 9)) none [],.mk (some 89) (.idxA 1 (.tmp 87) (.tmp 88)) none [6,7],.mk (some 90) (.load false 1 (.tmp 89)) none [8],.mk (some 91) (.idxA 1 (.tmp 81) (.tmp 82)) none [0,1,0,1,2,3,4,5,6,7,8,9],.mk none (.store 1 (.tmp 91) (.tmp 90)) none [10,9,0,1,2,3,4,5,6,7,8,9]]
def l50r16 : List AOper :=
  [.mk (some 52) (.mv (.tmp 9)) none [],.mk (some 53) (.bin .add (.tmp 52) (.const (.int .i64 1))) none [0],.mk (some 9) (.mv (.tmp 53)) none [1,0,1]]
def l50r17 : List AOper :=
  [.mk (some 23) (.mv (.tmp 8)) none [],.mk (some 24) (.bin .add (.tmp 23) (.const (.int .i64 1))) none [0],.mk (some 8) (.mv (.tmp 24)) none [1,0,1]]
def l50r18 : List AOper :=
  [.mk (some 92) (.mv (.tmp 6)) none [],.mk (some 4) (.mv (.tmp 92)) none [0,0],.mk (some 5) (.mv (.const (.bool true))) none [1,0,1]]
def l50 : AFn :=
  (AFn.mk 93 2 (.seq (.reg l50r0) (.seq (.reg l50r1) (.seq (.seq (.reg l50r2) (.block 0 (.loop (.seq (.seq (.reg l50r3) (.cond (.tmp 13) .skip (.exit 0))) (.seq (.block 1 (.reg l50r4)) (.reg l50r5)))))) (.seq (.seq (.reg l50r6) (.block 2 (.loop (.seq (.seq (.reg l50r7) (.cond (.tmp 22) .skip (.exit 2))) (.seq (.block 3 (.seq (.seq (.draw l50r8) (.cond (.tmp 44) (.seq (.reg l50r9) .ret) .skip)) (.seq (.reg l50r10) (.block 4 (.loop (.seq (.seq (.reg l50r11) (.cond (.tmp 51) .skip (.exit 4))) (.seq (.block 5 (.seq (.reg l50r12) (.seq (.seq (.draw l50r13) (.cond (.tmp 80) (.seq (.reg l50r14) .ret) .skip)) (.reg l50r15)))) (.reg l50r16)))))))) (.reg l50r17)))))) (.seq (.reg l50r18) .ret))))) [.tmp 4,.tmp 5])
theorem l50_eq : lowFn Try.prog 50 = some l50 := by kernel_rfl
def l51r0 : List AOper :=
  [.mk (some 2) (.box (.tmp 0)) none [],.mk (some 4) (.mv (.const (.int .i64 0))) none []]
def l51r1a : List AOper :=
  [.mk (some 5) (.load true 5 (.tmp 2)) none [],.mk (some 6) (.mv (.tmp 1)) none [],.mk (some 7) (.call 91 [.tmp 6]) none [1]]
def l51r1b : List AOper :=
  [.mk (some 8) (.call 90 [.tmp 5,.tmp 7]) none [0,2,2],.mk (some 9) (.call 42 [.tmp 8]) none [3,3],.mk (some 4) (.mv (.tmp 9)) none [4,4,0,1,2,3,4]]
def l51r1 : List AOper := l51r1a ++ l51r1b
def l51 : AFn :=
  (AFn.mk 10 2 (.seq (.reg l51r0) (.seq (.draw l51r1) .ret)) [.tmp 4])
theorem l51_eq : lowFn Try.prog 51 = some l51 := by kernel_rfl
def l52r0 : List AOper :=
  [.mk (some 2) (.mv (.const (.slice none 0 0))) none [],.mk (some 3) (.mv (.const (.int .i64 0))) none [0]]
def l52r1 : List AOper :=
  [.mk (some 8) (.bslice 1 [.int .i64 0] [] 0) none [],.mk (some 4) (.mv (.tmp 8)) none [0,0]]
def l52r2 : List AOper :=
  [.mk (some 5) (.mv (.const (.int .i64 1))) none []]
def l52r3 : List AOper :=
  [.mk (some 6) (.mv (.const (.int .i64 0))) none []]
def l52r4 : List AOper :=
  [.mk (some 9) (.mv (.tmp 6)) none [],.mk (some 10) (.mv (.tmp 0)) none [],.mk (some 11) (.len (.tmp 10)) none [1],.mk (some 12) (.bin .lss (.tmp 9) (.tmp 11)) none [0,2]]
def l52r5 : List AOper :=
  [.mk (some 15) (.mv (.tmp 0)) none [],.mk (some 16) (.mv (.tmp 6)) none [],.mk (some 17) (.idxA 1 (.tmp 15) (.tmp 16)) none [0,1],.mk (some 18) (.load false 1 (.tmp 17)) none [2],.mk (some 7) (.mv (.tmp 18)) none [3,0,1,2,3]]
def l52r6 : List AOper :=
  [.mk (some 19) (.mv (.tmp 7)) none [],.mk (some 20) (.bin .lss (.tmp 19) (.const (.int .i64 0))) none [0]]
def l52r7 : List AOper :=
  [.mk (some 7) (.mv (.const (.int .i64 1))) none []]
def l52r8 : List AOper :=
  [.mk (some 21) (.mv (.tmp 4)) none [],.mk (some 22) (.mv (.tmp 7)) none [],.mk (some 23) (.bslice 1 [.int .i64 0] [(0,.tmp 22)] 1) none [1],.mk (some 24) (.append 1 (.tmp 21) (.tmp 23)) none [0,2],.mk (some 4) (.mv (.tmp 24)) none [3,3,0,1,2,3]]
def l52r9 : List AOper :=
  [.mk (some 25) (.mv (.tmp 5)) none [],.mk (some 26) (.mv (.tmp 7)) none [],.mk (some 27) (.bin .mul (.tmp 25) (.tmp 26)) none [0,1],.mk (some 5) (.mv (.tmp 27)) none [2,0,1,2]]
def l52r10 : List AOper :=
  [.mk (some 13) (.mv (.tmp 6)) none [],.mk (some 14) (.bin .add (.tmp 13) (.const (.int .i64 1))) none [0],.mk (some 6) (.mv (.tmp 14)) none [1,0,1]]
def l52r11 : List AOper :=
  [.mk (some 28) (.mv (.tmp 4)) none [],.mk (some 29) (.mv (.tmp 5)) none [],.mk (some 2) (.mv (.tmp 28)) none [0,0],.mk (some 3) (.mv (.tmp 29)) none [1,2,0,1,2]]
def l52 : AFn :=
  (AFn.mk 30 1 (.seq (.reg l52r0) (.seq (.reg l52r1) (.seq (.reg l52r2) (.seq (.seq (.reg l52r3) (.block 0 (.loop (.seq (.seq (.reg l52r4) (.cond (.tmp 12) .skip (.exit 0))) (.seq (.block 1 (.seq (.reg l52r5) (.seq (.seq (.reg l52r6) (.cond (.tmp 20) (.reg l52r7) .skip)) (.seq (.reg l52r8) (.reg l52r9))))) (.reg l52r10)))))) (.seq (.reg l52r11) .ret))))) [.tmp 2,.tmp 3])
theorem l52_eq : lowFn Try.prog 52 = some l52 := by kernel_rfl
def l53r0 : List AOper :=
  [.mk (some 2) (.mv (.const (.slice none 0 0))) none [],.mk (some 3) (.mv (.const (.slice none 0 0))) none [0],.mk (some 4) (.mv (.const (.slice none 0 0))) none [1],.mk (some 5) (.mv (.const (.int .i64 0))) none [2],.mk (some 6) (.mv (.const (.int .i64 0))) none [3]]
def l53r1 : List AOper :=
  [.mk (some 11) (.mv (.tmp 0)) none [],.mk (some 12) (.mv (.tmp 0)) none [],.mk (some 13) (.bslice 1 [.int .i64 0] [(0,.const (.int .i64 3)),(1,.const (.int .i64 3)),(2,.const (.int .i64 2))] 3) none [],.mk (some 14) (.call 46 [.tmp 12,.tmp 13]) none [1,2],.mk (some 15) (.call 45 [.tmp 11,.tmp 14]) none [0,3,3],.mk (some 10) (.mv (.tmp 15)) none [4],.mk (some 16) (.extract (.tmp 10) 0) none [5],.mk (some 17) (.extract (.tmp 10) 1) none [5],.mk (some 18) (.extract (.tmp 10) 2) none [5],.mk (some 7) (.mv (.tmp 16)) none [6,4,0,1,2,3,4,5,6],.mk (some 8) (.mv (.tmp 17)) none [7,9,0,1,2,3,4,5,6,7,9],.mk (some 9) (.mv (.tmp 18)) none [8,10,0,1,2,3,4,5,6,7,8,9,10]]
def l53r2 : List AOper :=
  [.mk (some 19) (.mv (.tmp 7)) none [],.mk (some 20) (.mv (.tmp 8)) none [],.mk (some 21) (.mv (.tmp 9)) none [],.mk (some 22) (.mv (.tmp 0)) none [],.mk (some 23) (.bslice 1 [.int .i64 0] [(0,.const (.int .i64 0)),(1,.const (.int .i64 1)),(2,.const (.int .i64 2)),(3,.const (.int .i64 0)),(4,.const (.int .i64 (-1)))] 5) none [],.mk (some 24) (.call 46 [.tmp 22,.tmp 23]) none [3,4],.mk (some 25) (.mv (.tmp 0)) none [],.mk (some 26) (.bslice 1 [.int .i64 0] [(0,.const (.int .i64 1)),(1,.const (.int .i64 2)),(2,.const (.int .i64 0)),(3,.const (.int .i64 1)),(4,.const (.int .i64 3))] 5) none [],.mk (some 27) (.call 46 [.tmp 25,.tmp 26]) none [6,7,5],.mk (some 2) (.mv (.tmp 19)) none [0,8,0],.mk (some 3) (.mv (.tmp 20)) none [1,9,0,1,9],.mk (some 4) (.mv (.tmp 21)) none [2,10,0,1,2,9,10],.mk (some 5) (.mv (.tmp 24)) none [5,11,0,1,2,3,4,5,9,10,11],.mk (some 6) (.mv (.tmp 27)) none [8,12,0,1,2,3,4,5,6,7,8,9,10,11,12]]
def l53 : AFn :=
  (AFn.mk 28 1 (.seq (.reg l53r0) (.seq (.reg l53r1) (.seq (.reg l53r2) .ret))) [.tmp 2,.tmp 3,.tmp 4,.tmp 5,.tmp 6])
theorem l53_eq : lowFn Try.prog 53 = some l53 := by kernel_rfl
def l54r0 : List AOper :=
  [.mk (some 6) (.mv (.const (.bool false))) none []]
def l54r1 : List AOper :=
  [.mk (some 7) (.mv (.tmp 0)) none [],.mk (some 8) (.mv (.tmp 1)) none [],.mk (some 9) (.bin .neq (.tmp 7) (.tmp 8)) none [0,1],.mk (some 10) (.mv (.tmp 9)) none [2],.mk (some 11) (.mv (.tmp 0)) (some (10,true)) [3],.mk (some 12) (.mv (.tmp 2)) (some (10,true)) [3],.mk (some 13) (.bin .sub (.tmp 12) (.const (.int .i64 1))) (some (10,true)) [5,3],.mk (some 14) (.call 76 [.tmp 11,.tmp 13]) (some (10,true)) [4,6,3,3],.mk (some 15) (.pick (.tmp 10) (.tmp 14) (.const (.bool false))) none [3,7],.mk (some 16) (.mv (.tmp 15)) none [8,7],.mk (some 17) (.mv (.tmp 1)) (some (16,true)) [9],.mk (some 18) (.mv (.tmp 2)) (some (16,true)) [9],.mk (some 19) (.bin .sub (.tmp 18) (.const (.int .i64 1))) (some (16,true)) [11,9],.mk (some 20) (.call 76 [.tmp 17,.tmp 19]) (some (16,true)) [10,12,9,9],.mk (some 21) (.pick (.tmp 16) (.tmp 20) (.const (.bool false))) none [9,13],.mk (some 6) (.mv (.tmp 21)) none [14,13,0,1,2,3,4,5,6,7,8,9,10,11,12,13,14]]
def l54 : AFn :=
  (AFn.mk 22 3 (.seq (.reg l54r0) (.seq (.reg l54r1) .ret)) [.tmp 6])
theorem l54_eq : lowFn Try.prog 54 = some l54 := by kernel_rfl
def l55r0 : List AOper :=
  [.mk (some 8) (.mv (.const (.slice none 0 0))) none []]
def l55r1a : List AOper :=
  [.mk (some 11) (.mv (.tmp 0)) none [],.mk (some 12) (.mv (.tmp 2)) none [],.mk (some 13) (.idxA 1 (.tmp 11) (.tmp 12)) none [0,1],.mk (some 14) (.load false 1 (.tmp 13)) none [2],.mk (some 15) (.mv (.tmp 0)) none [],.mk (some 16) (.mv (.tmp 3)) none [],.mk (some 17) (.idxA 1 (.tmp 15) (.tmp 16)) none [4,5],.mk (some 18) (.load false 1 (.tmp 17)) none [6]]
def l55r1b : List AOper :=
  [.mk (some 19) (.bslice 1 [.slice none 0 0] [(0,.tmp 14),(1,.tmp 18)] 2) none [3,7],.mk (some 20) (.call 91 [.tmp 19]) none [8],.mk (some 9) (.mv (.tmp 20)) none [9,9,0,1,2,3,4,5,6,7,8,9]]
def l55r1 : List AOper := l55r1a ++ l55r1b
def l55r2 : List AOper :=
  [.mk (some 21) (.mv (.tmp 9)) none [],.mk (some 22) (.mv (.tmp 0)) none [],.mk (some 23) (.mv (.tmp 2)) none [],.mk (some 24) (.mv (.tmp 3)) none [],.mk (some 25) (.call 59 [.tmp 22,.tmp 23,.tmp 24]) none [1,2,3],.mk (some 26) (.mv (.tmp 1)) none [],.mk (some 27) (.bslice 1 [.slice none 0 0] [(0,.tmp 26)] 1) none [5],.mk (some 28) (.append 1 (.tmp 25) (.tmp 27)) none [4,6,4],.mk (some 29) (.call 93 [.tmp 28]) none [7,7],.mk (some 30) (.call 92 [.tmp 21,.tmp 29]) none [0,8,8],.mk (some 10) (.mv (.tmp 30)) none [9,9,0,1,2,3,4,5,6,7,8,9]]
def l55r3 : List AOper :=
  [.mk (some 31) (.mv (.tmp 9)) none [],.mk (some 32) (.mv (.tmp 10)) none [],.mk (some 33) (.call 92 [.tmp 31,.tmp 32]) none [0,1],.mk (some 8) (.mv (.tmp 33)) none [2,2,0,1,2]]
def l55 : AFn :=
  (AFn.mk 34 4 (.seq (.reg l55r0) (.seq (.draw l55r1) (.seq (.reg l55r2) (.seq (.reg l55r3) .ret)))) [.tmp 8])
theorem l55_eq : lowFn Try.prog 55 = some l55 := by kernel_rfl
def l56r0 : List AOper :=
  [.mk (some 6) (.mv (.const (.bool false))) none []]
def l56r1 : List AOper :=
  [.mk (some 7) (.mv (.const (.int .i64 0))) none []]
def l56r2 : List AOper :=
  [.mk (some 8) (.mv (.tmp 7)) none [],.mk (some 9) (.mv (.tmp 0)) none [],.mk (some 10) (.len (.tmp 9)) none [1],.mk (some 11) (.bin .lss (.tmp 8) (.tmp 10)) none [0,2]]
def l56r3 : List AOper :=
  [.mk (some 14) (.mv (.tmp 0)) none [],.mk (some 15) (.mv (.tmp 7)) none [],.mk (some 16) (.idxA 1 (.tmp 14) (.tmp 15)) none [0,1],.mk (some 17) (.load false 1 (.tmp 16)) none [2],.mk (some 18) (.mv (.tmp 1)) none [],.mk (some 19) (.mv (.tmp 2)) none [],.mk (some 20) (.call 57 [.tmp 17,.tmp 18,.tmp 19]) none [3,4,5],.mk (some 21) (.un .not (.tmp 20)) none [6]]
def l56r4 : List AOper :=
  [.mk (some 6) (.mv (.const (.bool false))) none []]
def l56r5 : List AOper :=
  [.mk (some 12) (.mv (.tmp 7)) none [],.mk (some 13) (.bin .add (.tmp 12) (.const (.int .i64 1))) none [0],.mk (some 7) (.mv (.tmp 13)) none [1,0,1]]
def l56r6 : List AOper :=
  [.mk (some 6) (.mv (.const (.bool true))) none []]
def l56 : AFn :=
  (AFn.mk 22 3 (.seq (.reg l56r0) (.seq (.seq (.reg l56r1) (.block 0 (.loop (.seq (.seq (.reg l56r2) (.cond (.tmp 11) .skip (.exit 0))) (.seq (.block 1 (.seq (.reg l56r3) (.cond (.tmp 21) (.seq (.reg l56r4) .ret) .skip))) (.reg l56r5)))))) (.seq (.reg l56r6) .ret))) [.tmp 6])
theorem l56_eq : lowFn Try.prog 56 = some l56 := by kernel_rfl
def l57r0 : List AOper :=
  [.mk (some 6) (.mv (.const (.bool false))) none []]
def l57r1 : List AOper :=
  [.mk (some 7) (.mv (.tmp 1)) none [],.mk (some 8) (.mv (.tmp 0)) none [],.mk (some 9) (.bin .leq (.tmp 7) (.tmp 8)) none [0,1],.mk (some 10) (.mv (.tmp 9)) none [2],.mk (some 11) (.mv (.tmp 0)) (some (10,true)) [3],.mk (some 12) (.mv (.tmp 2)) (some (10,true)) [3],.mk (some 13) (.bin .leq (.tmp 11) (.tmp 12)) (some (10,true)) [4,5,3],.mk (some 14) (.pick (.tmp 10) (.tmp 13) (.const (.bool false))) none [3,6],.mk (some 6) (.mv (.tmp 14)) none [7,3,0,1,2,3,4,5,6,7]]
def l57 : AFn :=
  (AFn.mk 15 3 (.seq (.reg l57r0) (.seq (.reg l57r1) .ret)) [.tmp 6])
theorem l57_eq : lowFn Try.prog 57 = some l57 := by kernel_rfl
def l58r0 : List AOper :=
  [.mk (some 8) (.mv (.const (.slice none 0 0))) none []]
def l58r1 : List AOper :=
  [.mk (some 13) (.bslice 1 [.int .i64 0] [] 0) none [],.mk (some 9) (.mv (.tmp 13)) none [0,0]]
def l58r2 : List AOper :=
  [.mk (some 10) (.mv (.const (.int .i64 0))) none []]
def l58r3 : List AOper :=
  [.mk (some 14) (.mv (.tmp 10)) none [],.mk (some 15) (.bin .leq (.tmp 14) (.const (.int .i64 4))) none [0]]
def l58r4 : List AOper :=
  [.mk (some 18) (.mv (.tmp 0)) none [],.mk (some 19) (.mv (.tmp 2)) none [],.mk (some 20) (.idxA 1 (.tmp 18) (.tmp 19)) none [0,1],.mk (some 21) (.load false 1 (.tmp 20)) none [2],.mk (some 22) (.mv (.tmp 10)) none [],.mk (some 23) (.call 79 [.tmp 21,.tmp 22]) none [3,4],.mk (some 24) (.bin .lss (.tmp 23) (.const (.int .i64 0))) none [5],.mk (some 25) (.mv (.tmp 24)) none [6,5],.mk (some 26) (.mv (.tmp 0)) (some (25,true)) [7],.mk (some 27) (.mv (.tmp 3)) (some (25,true)) [7],.mk (some 28) (.idxA 1 (.tmp 26) (.tmp 27)) (some (25,true)) [8,9,7],.mk (some 29) (.load false 1 (.tmp 28)) (some (25,true)) [10,7],.mk (some 30) (.mv (.tmp 10)) (some (25,true)) [7],.mk (some 31) (.call 79 [.tmp 29,.tmp 30]) (some (25,true)) [11,12,7,7],.mk (some 32) (.bin .lss (.tmp 31) (.const (.int .i64 0))) (some (25,true)) [13,7],.mk (some 33) (.pick (.tmp 25) (.tmp 32) (.const (.bool false))) none [7,14]]
def l58r5 : List AOper :=
  [.mk (some 34) (.mv (.tmp 1)) none [],.mk (some 35) (.mv (.tmp 10)) none [],.mk (some 36) (.call 79 [.tmp 34,.tmp 35]) none [0,1],.mk (some 37) (.bin .geq (.tmp 36) (.const (.int .i64 0))) none [2],.mk (some 11) (.mv (.tmp 37)) none [3,2,0,1,2,3]]
def l58r6 : List AOper :=
  [.mk (some 12) (.mv (.const (.int .i64 0))) none []]
def l58r7 : List AOper :=
  [.mk (some 38) (.mv (.tmp 12)) none [],.mk (some 39) (.mv (.tmp 0)) none [],.mk (some 40) (.len (.tmp 39)) none [1],.mk (some 41) (.bin .lss (.tmp 38) (.tmp 40)) none [0,2]]
def l58r8 : List AOper :=
  [.mk (some 44) (.mv (.tmp 11)) none [],.mk (some 45) (.mv (.tmp 44)) none [0],.mk (some 46) (.mv (.tmp 12)) (some (45,false)) [1],.mk (some 47) (.mv (.tmp 2)) (some (45,false)) [1],.mk (some 48) (.bin .neq (.tmp 46) (.tmp 47)) (some (45,false)) [2,3,1],.mk (some 49) (.mv (.tmp 48)) (some (45,false)) [4,1,1],.mk (some 50) (.mv (.tmp 12)) (some (49,true)) [5],.mk (some 51) (.mv (.tmp 3)) (some (49,true)) [5],.mk (some 52) (.bin .neq (.tmp 50) (.tmp 51)) (some (49,true)) [6,7,5],.mk (some 53) (.pick (.tmp 49) (.tmp 52) (.const (.bool false))) (some (45,false)) [5,8,1],.mk (some 54) (.mv (.tmp 53)) (some (45,false)) [9,5,1],.mk (some 55) (.mv (.tmp 0)) (some (54,true)) [10],.mk (some 56) (.mv (.tmp 12)) (some (54,true)) [10],.mk (some 57) (.idxA 1 (.tmp 55) (.tmp 56)) (some (54,true)) [11,12,10],.mk (some 58) (.load false 1 (.tmp 57)) (some (54,true)) [13,10],.mk (some 59) (.mv (.tmp 10)) (some (54,true)) [10],.mk (some 60) (.call 79 [.tmp 58,.tmp 59]) (some (54,true)) [14,15,10,10],.mk (some 61) (.bin .geq (.tmp 60) (.const (.int .i64 0))) (some (54,true)) [16,10],.mk (some 62) (.pick (.tmp 54) (.tmp 61) (.const (.bool false))) (some (45,false)) [10,17,1],.mk (some 63) (.pick (.tmp 45) (.const (.bool true)) (.tmp 62)) none [1,18],.mk (some 11) (.mv (.tmp 63)) none [19,16,0,1,2,3,4,5,6,7,8,9,10,11,12,13,14,15,16,17,18,19]]
def l58r9 : List AOper :=
  [.mk (some 42) (.mv (.tmp 12)) none [],.mk (some 43) (.bin .add (.tmp 42) (.const (.int .i64 1))) none [0],.mk (some 12) (.mv (.tmp 43)) none [1,0,1]]
def l58r10 : List AOper :=
  [.mk (some 64) (.mv (.tmp 11)) none []]
def l58r11 : List AOper :=
  [.mk (some 65) (.mv (.tmp 9)) none [],.mk (some 66) (.mv (.tmp 10)) none [],.mk (some 67) (.bslice 1 [.int .i64 0] [(0,.tmp 66)] 1) none [1],.mk (some 68) (.append 1 (.tmp 65) (.tmp 67)) none [0,2],.mk (some 9) (.mv (.tmp 68)) none [3,3,0,1,2,3]]
def l58r12 : List AOper :=
  [.mk (some 16) (.mv (.tmp 10)) none [],.mk (some 17) (.bin .add (.tmp 16) (.const (.int .i64 1))) none [0],.mk (some 10) (.mv (.tmp 17)) none [1,0,1]]
def l58r13 : List AOper :=
  [.mk (some 69) (.mv (.tmp 9)) none [],.mk (some 8) (.mv (.tmp 69)) none [0,0]]
def l58 : AFn :=
  (AFn.mk 70 4 (.seq (.reg l58r0) (.seq (.reg l58r1) (.seq (.seq (.reg l58r2) (.block 0 (.loop (.seq (.seq (.reg l58r3) (.cond (.tmp 15) .skip (.exit 0))) (.seq (.block 1 (.seq (.seq (.reg l58r4) (.cond (.tmp 33) (.exit 1) .skip)) (.seq (.reg l58r5) (.seq (.seq (.reg l58r6) (.block 2 (.loop (.seq (.seq (.reg l58r7) (.cond (.tmp 41) .skip (.exit 2))) (.seq (.block 3 (.reg l58r8)) (.reg l58r9)))))) (.seq (.reg l58r10) (.cond (.tmp 64) (.reg l58r11) .skip)))))) (.reg l58r12)))))) (.seq (.reg l58r13) .ret)))) [.tmp 8])
theorem l58_eq : lowFn Try.prog 58 = some l58 := by kernel_rfl
def l59r0 : List AOper :=
  [.mk (some 6) (.mv (.const (.slice none 0 0))) none []]
def l59r1 : List AOper :=
  [.mk (some 7) (.mv (.const (.slice none 0 0))) none []]
def l59r2 : List AOper :=
  [.mk (some 10) (.mv (.tmp 0)) none [],.mk (some 11) (.len (.tmp 10)) none [0],.mk (some 12) (.mv (.const (.int .i64 0))) none []]
def l59r3 : List AOper :=
  [.mk (some 13) (.bin .lss (.tmp 12) (.tmp 11)) none []]
def l59r4 : List AOper :=
  [.mk (some 14) (.mv (.tmp 12)) none [],.mk (some 15) (.idxA 1 (.tmp 10) (.tmp 12)) none [],.mk (some 16) (.load false 1 (.tmp 15)) none [1],.mk (some 8) (.mv (.tmp 14)) none [0,0,1,2],.mk (some 9) (.mv (.tmp 16)) none [2,3,0,1,2,3]]
def l59r5 : List AOper :=
  [.mk (some 17) (.mv (.tmp 8)) none [],.mk (some 18) (.mv (.tmp 1)) none [],.mk (some 19) (.bin .neq (.tmp 17) (.tmp 18)) none [0,1],.mk (some 20) (.mv (.tmp 19)) none [2],.mk (some 21) (.mv (.tmp 8)) (some (20,true)) [3],.mk (some 22) (.mv (.tmp 2)) (some (20,true)) [3],.mk (some 23) (.bin .neq (.tmp 21) (.tmp 22)) (some (20,true)) [4,5,3],.mk (some 24) (.pick (.tmp 20) (.tmp 23) (.const (.bool false))) none [3,6]]
def l59r6 : List AOper :=
  [.mk (some 25) (.mv (.tmp 7)) none [],.mk (some 26) (.mv (.tmp 9)) none [],.mk (some 27) (.bslice 1 [.slice none 0 0] [(0,.tmp 26)] 1) none [1],.mk (some 28) (.append 1 (.tmp 25) (.tmp 27)) none [0,2],.mk (some 7) (.mv (.tmp 28)) none [3,3,0,1,2,3]]
def l59r7 : List AOper :=
  [.mk (some 29) (.bin .add (.tmp 12) (.const (.int .i64 1))) none [],.mk (some 12) (.mv (.tmp 29)) none [0]]
def l59r8 : List AOper :=
  [.mk (some 30) (.mv (.tmp 7)) none [],.mk (some 6) (.mv (.tmp 30)) none [0,0]]
def l59 : AFn :=
  (AFn.mk 31 3 (.seq (.reg l59r0) (.seq (.reg l59r1) (.seq (.seq (.reg l59r2) (.block 0 (.loop (.seq (.reg l59r3) (.seq (.cond (.tmp 13) .skip (.exit 0)) (.seq (.block 1 (.seq (.reg l59r4) (.seq (.reg l59r5) (.cond (.tmp 24) (.reg l59r6) .skip)))) (.reg l59r7))))))) (.seq (.reg l59r8) .ret)))) [.tmp 6])
theorem l59_eq : lowFn Try.prog 59 = some l59 := by kernel_rfl
def l60r0 : List AOper :=
  [.mk (some 10) (.mv (.const (.int .i64 0))) none []]
def l60r1 : List AOper :=
  [.mk (some 22) (.bslice 1 [.int .i64 0] [] 0) none [],.mk (some 11) (.mv (.tmp 22)) none [0,0]]
def l60r2 : List AOper :=
  [.mk (some 23) (.bslice 1 [.int .i64 0] [] 0) none [],.mk (some 12) (.mv (.tmp 23)) none [0,0]]
def l60r3 : List AOper :=
  [.mk (some 24) (.mv (.tmp 1)) none [],.mk (some 25) (.mv (.tmp 2)) none [],.mk (some 26) (.mv (.tmp 3)) none [],.mk (some 27) (.mv (.tmp 4)) none [],.mk (some 28) (.call 58 [.tmp 24,.tmp 25,.tmp 26,.tmp 27]) none [0,1,2,3],.mk (some 13) (.mv (.tmp 28)) none [4,4,0,1,2,3,4]]
def l60r4 : List AOper :=
  [.mk (some 14) (.mv (.const (.int .i64 0))) none []]
def l60r5 : List AOper :=
  [.mk (some 29) (.mv (.tmp 14)) none [],.mk (some 30) (.bin .leq (.tmp 29) (.const (.int .i64 4))) none [0]]
def l60r6 : List AOper :=
  [.mk (some 15) (.mv (.const (.int .i64 (-1)))) none []]
def l60r7 : List AOper :=
  [.mk (some 16) (.mv (.const (.int .i64 (-1)))) none []]
def l60r8 : List AOper :=
  [.mk (some 33) (.mv (.tmp 1)) none [],.mk (some 34) (.mv (.tmp 3)) none [],.mk (some 35) (.idxA 1 (.tmp 33) (.tmp 34)) none [0,1],.mk (some 36) (.load false 1 (.tmp 35)) none [2],.mk (some 37) (.mv (.tmp 14)) none [],.mk (some 38) (.call 79 [.tmp 36,.tmp 37]) none [3,4],.mk (some 39) (.bin .geq (.tmp 38) (.const (.int .i64 0))) none [5],.mk (some 40) (.mv (.tmp 39)) none [6,5],.mk (some 41) (.mv (.tmp 1)) (some (40,false)) [7],.mk (some 42) (.mv (.tmp 4)) (some (40,false)) [7],.mk (some 43) (.idxA 1 (.tmp 41) (.tmp 42)) (some (40,false)) [8,9,7],.mk (some 44) (.load false 1 (.tmp 43)) (some (40,false)) [10,7],.mk (some 45) (.mv (.tmp 14)) (some (40,false)) [7],.mk (some 46) (.call 79 [.tmp 44,.tmp 45]) (some (40,false)) [11,12,7,7],.mk (some 47) (.bin .geq (.tmp 46) (.const (.int .i64 0))) (some (40,false)) [13,7],.mk (some 48) (.pick (.tmp 40) (.const (.bool true)) (.tmp 47)) none [7,14]]
def l60r9 : List AOper :=
  [.mk (some 49) (.mv (.tmp 0)) none [],.mk (some 50) (.mv (.tmp 14)) none [],.mk (some 51) (.idxA 1 (.tmp 49) (.tmp 50)) none [0,1],.mk (some 52) (.load false 1 (.tmp 51)) none [2],.mk (some 15) (.mv (.tmp 52)) none [3,0,1,2,3]]
def l60r10 : List AOper :=
  [.mk (some 17) (.mv (.const (.int .i64 0))) none []]
def l60r11 : List AOper :=
  [.mk (some 53) (.mv (.tmp 17)) none [],.mk (some 54) (.mv (.tmp 1)) none [],.mk (some 55) (.len (.tmp 54)) none [1],.mk (some 56) (.bin .lss (.tmp 53) (.tmp 55)) none [0,2]]
def l60r12 : List AOper :=
  [.mk (some 59) (.mv (.tmp 17)) none [],.mk (some 60) (.mv (.tmp 3)) none [],.mk (some 61) (.bin .neq (.tmp 59) (.tmp 60)) none [0,1],.mk (some 62) (.mv (.tmp 61)) none [2],.mk (some 63) (.mv (.tmp 17)) (some (62,true)) [3],.mk (some 64) (.mv (.tmp 4)) (some (62,true)) [3],.mk (some 65) (.bin .neq (.tmp 63) (.tmp 64)) (some (62,true)) [4,5,3],.mk (some 66) (.pick (.tmp 62) (.tmp 65) (.const (.bool false))) none [3,6],.mk (some 67) (.mv (.tmp 66)) none [7,3],.mk (some 68) (.mv (.tmp 1)) (some (67,true)) [8],.mk (some 69) (.mv (.tmp 17)) (some (67,true)) [8],.mk (some 70) (.idxA 1 (.tmp 68) (.tmp 69)) (some (67,true)) [9,10,8],.mk (some 71) (.load false 1 (.tmp 70)) (some (67,true)) [11,8],.mk (some 72) (.mv (.tmp 14)) (some (67,true)) [8],.mk (some 73) (.call 79 [.tmp 71,.tmp 72]) (some (67,true)) [12,13,8,8],.mk (some 74) (.bin .geq (.tmp 73) (.const (.int .i64 0))) (some (67,true)) [14,8],.mk (some 75) (.pick (.tmp 67) (.tmp 74) (.const (.bool false))) none [8,15],.mk (some 76) (.mv (.tmp 75)) none [16,14],.mk (some 77) (.mv (.tmp 13)) (some (76,false)) [17],.mk (some 78) (.mv (.tmp 14)) (some (76,false)) [17],.mk (some 79) (.call 79 [.tmp 77,.tmp 78]) (some (76,false)) [18,19,17,17],.mk (some 80) (.bin .geq (.tmp 79) (.const (.int .i64 0))) (some (76,false)) [20,17],.mk (some 81) (.pick (.tmp 76) (.const (.bool true)) (.tmp 80)) none [17,21]]
def l60r13 : List AOper :=
  [.mk (some 82) (.mv (.tmp 0)) none [],.mk (some 83) (.mv (.tmp 14)) none [],.mk (some 84) (.idxA 1 (.tmp 82) (.tmp 83)) none [0,1],.mk (some 85) (.load false 1 (.tmp 84)) none [2],.mk (some 16) (.mv (.tmp 85)) none [3,0,1,2,3]]
def l60r14 : List AOper :=
  [.mk (some 57) (.mv (.tmp 17)) none [],.mk (some 58) (.bin .add (.tmp 57) (.const (.int .i64 1))) none [0],.mk (some 17) (.mv (.tmp 58)) none [1,0,1]]
def l60r15 : List AOper :=
  [.mk (some 86) (.mv (.tmp 11)) none [],.mk (some 87) (.mv (.tmp 15)) none [],.mk (some 88) (.bslice 1 [.int .i64 0] [(0,.tmp 87)] 1) none [1],.mk (some 89) (.append 1 (.tmp 86) (.tmp 88)) none [0,2],.mk (some 11) (.mv (.tmp 89)) none [3,3,0,1,2,3]]
def l60r16 : List AOper :=
  [.mk (some 90) (.mv (.tmp 12)) none [],.mk (some 91) (.mv (.tmp 16)) none [],.mk (some 92) (.bslice 1 [.int .i64 0] [(0,.tmp 91)] 1) none [1],.mk (some 93) (.append 1 (.tmp 90) (.tmp 92)) none [0,2],.mk (some 12) (.mv (.tmp 93)) none [3,3,0,1,2,3]]
def l60r17 : List AOper :=
  [.mk (some 31) (.mv (.tmp 14)) none [],.mk (some 32) (.bin .add (.tmp 31) (.const (.int .i64 1))) none [0],.mk (some 14) (.mv (.tmp 32)) none [1,0,1]]
def l60r18 : List AOper :=
  [.mk (some 95) (.mv (.tmp 11)) none [],.mk (some 96) (.call 52 [.tmp 95]) none [0],.mk (some 94) (.mv (.tmp 96)) none [1],.mk (some 97) (.extract (.tmp 94) 0) none [2],.mk (some 98) (.extract (.tmp 94) 1) none [2],.mk (some 18) (.mv (.tmp 97)) none [3,1,0,1,2,3],.mk (some 19) (.mv (.tmp 98)) none [4,5,0,1,2,3,4,5]]
def l60r19 : List AOper :=
  [.mk (some 100) (.mv (.tmp 12)) none [],.mk (some 101) (.call 52 [.tmp 100]) none [0],.mk (some 99) (.mv (.tmp 101)) none [1],.mk (some 102) (.extract (.tmp 99) 0) none [2],.mk (some 103) (.extract (.tmp 99) 1) none [2],.mk (some 20) (.mv (.tmp 102)) none [3,1,0,1,2,3],.mk (some 21) (.mv (.tmp 103)) none [4,5,0,1,2,3,4,5]]
def l60r20 : List AOper :=
  [.mk (some 104) (.mv (.tmp 19)) none [],.mk (some 105) (.mv (.tmp 21)) none [],.mk (some 106) (.bin .add (.tmp 104) (.tmp 105)) none [0,1],.mk (some 10) (.mv (.tmp 106)) none [2,0,1,2]]
def l60 : AFn :=
  (AFn.mk 107 5 (.seq (.reg l60r0) (.seq (.reg l60r1) (.seq (.reg l60r2) (.seq (.reg l60r3) (.seq (.seq (.reg l60r4) (.block 0 (.loop (.seq (.seq (.reg l60r5) (.cond (.tmp 30) .skip (.exit 0))) (.seq (.block 1 (.seq (.reg l60r6) (.seq (.reg l60r7) (.seq (.seq (.reg l60r8) (.cond (.tmp 48) (.reg l60r9) .skip)) (.seq (.seq (.reg l60r10) (.block 2 (.loop (.seq (.seq (.reg l60r11) (.cond (.tmp 56) .skip (.exit 2))) (.seq (.block 3 (.seq (.reg l60r12) (.cond (.tmp 81) (.reg l60r13) .skip))) (.reg l60r14)))))) (.seq (.reg l60r15) (.reg l60r16))))))) (.reg l60r17)))))) (.seq (.reg l60r18) (.seq (.reg l60r19) (.seq (.reg l60r20) .ret)))))))) [.tmp 10])
theorem l60_eq : lowFn Try.prog 60 = some l60 := by kernel_rfl
def l76r0 : List AOper :=
  [.mk (some 4) (.mv (.const (.bool false))) none []]
def l76r1 : List AOper :=
  [.mk (some 5) (.mv (.tmp 0)) none [],.mk (some 6) (.bin .leq (.const (.int .i64 0)) (.tmp 5)) none [0],.mk (some 7) (.mv (.tmp 6)) none [1],.mk (some 8) (.mv (.tmp 0)) (some (7,true)) [2],.mk (some 9) (.mv (.tmp 1)) (some (7,true)) [2],.mk (some 10) (.bin .leq (.tmp 8) (.tmp 9)) (some (7,true)) [3,4,2],.mk (some 11) (.pick (.tmp 7) (.tmp 10) (.const (.bool false))) none [2,5],.mk (some 4) (.mv (.tmp 11)) none [6,2,0,1,2,3,4,5,6]]
def l76 : AFn :=
  (AFn.mk 12 2 (.seq (.reg l76r0) (.seq (.reg l76r1) .ret)) [.tmp 4])
theorem l76_eq : lowFn Try.prog 76 = some l76 := by kernel_rfl
def l78r0 : List AOper :=
  [.mk (some 4) (.mv (.const (.int .i64 0))) none []]
def l78r1 : List AOper :=
  [.mk (some 7) (.mv (.tmp 0)) none [],.mk (some 8) (.mv (.tmp 0)) none [],.mk (some 9) (.nilck (.tmp 8)) none [1],.mk (some 10) (.fld 1 (.tmp 9)) none [2],.mk (some 11) (.load false 1 (.tmp 10)) none [3],.mk (some 12) (.bin .add (.tmp 11) (.const (.int .i64 1))) none [4],.mk (some 13) (.nilck (.tmp 7)) none [0,0,1,2,3,4,5],.mk (some 14) (.fld 1 (.tmp 13)) none [6,0,1,2,3,4,5],.mk none (.store 1 (.tmp 14) (.tmp 12)) none [7,5,0,1,2,3,4,5]]
def l78r2 : List AOper :=
  [.mk (some 15) (.mv (.tmp 1)) none [],.mk (some 16) (.bin .lss (.tmp 15) (.const (.int .i64 1))) none [0],.mk (some 17) (.mv (.tmp 16)) none [1],.mk (some 18) (.mv (.tmp 0)) (some (17,false)) [2],.mk (some 19) (.nilck (.tmp 18)) (some (17,false)) [3,2],.mk (some 20) (.fld 0 (.tmp 19)) (some (17,false)) [4,2],.mk (some 21) (.load false 1 (.tmp 20)) (some (17,false)) [5,2],.mk (some 22) (.len (.tmp 21)) (some (17,false)) [6,2],.mk (some 23) (.bin .eql (.tmp 22) (.const (.int .i64 0))) (some (17,false)) [7,2],.mk (some 24) (.pick (.tmp 17) (.const (.bool true)) (.tmp 23)) none [2,8]]
def l78r3 : List AOper :=
  [.mk (some 4) (.mv (.const (.int .i64 0))) none []]
def l78r4 : List AOper :=
  [.mk (some 25) (.mv (.tmp 0)) none [],.mk (some 26) (.nilck (.tmp 25)) none [0],.mk (some 27) (.fld 1 (.tmp 26)) none [1],.mk (some 28) (.load false 1 (.tmp 27)) none [2],.mk (some 29) (.bin .sub (.tmp 28) (.const (.int .i64 1))) none [3],.mk (some 5) (.mv (.tmp 29)) none [4,0,1,2,3,4]]
def l78r5 : List AOper :=
  [.mk (some 30) (.mv (.tmp 5)) none [],.mk (some 31) (.mv (.tmp 0)) none [],.mk (some 32) (.nilck (.tmp 31)) none [1],.mk (some 33) (.fld 0 (.tmp 32)) none [2],.mk (some 34) (.load false 1 (.tmp 33)) none [3],.mk (some 35) (.len (.tmp 34)) none [4],.mk (some 36) (.bin .lss (.tmp 30) (.tmp 35)) none [0,5]]
def l78r6 : List AOper :=
  [.mk (some 37) (.mv (.tmp 0)) none [],.mk (some 38) (.nilck (.tmp 37)) none [0],.mk (some 39) (.fld 0 (.tmp 38)) none [1],.mk (some 40) (.load false 1 (.tmp 39)) none [2],.mk (some 41) (.mv (.tmp 5)) none [],.mk (some 42) (.idxA 1 (.tmp 40) (.tmp 41)) none [3,4],.mk (some 43) (.load false 1 (.tmp 42)) none [5],.mk (some 44) (.conv .i64 (.tmp 43)) none [6],.mk (some 45) (.mv (.tmp 1)) none [],.mk (some 46) (.bin .rem (.tmp 44) (.tmp 45)) none [7,8],.mk (some 4) (.mv (.tmp 46)) none [9,0,1,2,3,4,5,6,7,8,9]]
def l78r7a : List AOper :=
  [.mk (some 47) (.mv (.tmp 0)) none [],.mk (some 48) (.nilck (.tmp 47)) none [0],.mk (some 49) (.fld 0 (.tmp 48)) none [1],.mk (some 50) (.load false 1 (.tmp 49)) none [2],.mk (some 51) (.mv (.tmp 5)) none [],.mk (some 52) (.mv (.tmp 0)) none [],.mk (some 53) (.nilck (.tmp 52)) none [5],.mk (some 54) (.fld 0 (.tmp 53)) none [6],.mk (some 55) (.load false 1 (.tmp 54)) none [7],.mk (some 56) (.len (.tmp 55)) none [8],.mk (some 57) (.bin .rem (.tmp 51) (.tmp 56)) none [4,9],.mk (some 58) (.idxA 1 (.tmp 50) (.tmp 57)) none [3,10],.mk (some 59) (.load false 1 (.tmp 58)) none [11],.mk (some 60) (.conv .i64 (.tmp 59)) none [12],.mk (some 61) (.bin .mul (.tmp 60) (.const (.int .i64 131))) none [13],.mk (some 62) (.mv (.tmp 0)) none [],.mk (some 63) (.nilck (.tmp 62)) none [15],.mk (some 64) (.fld 0 (.tmp 63)) none [16],.mk (some 65) (.load false 1 (.tmp 64)) none [17],.mk (some 66) (.mv (.tmp 5)) none [],.mk (some 67) (.bin .mul (.tmp 66) (.const (.int .i64 7))) none [19],.mk (some 68) (.bin .add (.tmp 67) (.const (.int .i64 3))) none [20],.mk (some 69) (.mv (.tmp 0)) none [],.mk (some 70) (.nilck (.tmp 69)) none [22],.mk (some 71) (.fld 0 (.tmp 70)) none [23],.mk (some 72) (.load false 1 (.tmp 71)) none [24],.mk (some 73) (.len (.tmp 72)) none [25],.mk (some 74) (.bin .rem (.tmp 68) (.tmp 73)) none [21,26],.mk (some 75) (.idxA 1 (.tmp 65) (.tmp 74)) none [18,27],.mk (some 76) (.load false 1 (.tmp 75)) none [28],.mk (some 77) (.conv .i64 (.tmp 76)) none [29],.mk (some 78) (.bin .mul (.tmp 77) (.const (.int .i64 1117))) none [30],.mk (some 79) (.bin .add (.tmp 61) (.tmp 78)) none [14,31],.mk (some 80) (.mv (.tmp 5)) none [],.mk (some 81) (.bin .mul (.tmp 80) (.const (.int .i64 29))) none [33],.mk (some 82) (.bin .add (.tmp 79) (.tmp 81)) none [32,34],.mk (some 83) (.mv (.tmp 5)) none [],.mk (some 84) (.mv (.tmp 0)) none [],.mk (some 85) (.nilck (.tmp 84)) none [37],.mk (some 86) (.fld 0 (.tmp 85)) none [38],.mk (some 87) (.load false 1 (.tmp 86)) none [39],.mk (some 88) (.len (.tmp 87)) none [40],.mk (some 89) (.bin .quo (.tmp 83) (.tmp 88)) none [36,41],.mk (some 90) (.bin .mul (.tmp 89) (.const (.int .i64 53))) none [42]]
def l78r7b : List AOper :=
  [.mk (some 91) (.bin .add (.tmp 82) (.tmp 90)) none [35,43],.mk (some 6) (.mv (.tmp 91)) none [44,0,1,2,3,4,5,6,7,8,9,10,11,12,13,14,15,16,17,18,19,20,21,22,23,24,25,26,27,28,29,30,31,32,33,34,35,36,37,38,39,40,41,42,43,44]]
def l78r7 : List AOper := l78r7a ++ l78r7b
def l78r8 : List AOper :=
  [.mk (some 92) (.mv (.tmp 6)) none [],.mk (some 93) (.mv (.tmp 6)) none [],.mk (some 94) (.bin .quo (.tmp 93) (.const (.int .i64 64))) none [1],.mk (some 95) (.bin .xor (.tmp 92) (.tmp 94)) none [0,2],.mk (some 6) (.mv (.tmp 95)) none [3,0,1,2,3]]
def l78r9 : List AOper :=
  [.mk (some 96) (.mv (.tmp 6)) none [],.mk (some 97) (.mv (.tmp 1)) none [],.mk (some 98) (.bin .rem (.tmp 96) (.tmp 97)) none [0,1],.mk (some 4) (.mv (.tmp 98)) none [2,0,1,2]]
def l78 : AFn :=
  (AFn.mk 99 2 (.seq (.reg l78r0) (.seq (.reg l78r1) (.seq (.seq (.reg l78r2) (.cond (.tmp 24) (.seq (.reg l78r3) .ret) .skip)) (.seq (.reg l78r4) (.seq (.seq (.reg l78r5) (.cond (.tmp 36) (.seq (.reg l78r6) .ret) .skip)) (.seq (.draw l78r7) (.seq (.reg l78r8) (.seq (.reg l78r9) .ret)))))))) [.tmp 4])
theorem l78_eq : lowFn Try.prog 78 = some l78 := by kernel_rfl
def l79r0 : List AOper :=
  [.mk (some 4) (.mv (.const (.int .i64 0))) none []]
def l79r1 : List AOper :=
  [.mk (some 5) (.mv (.const (.int .i64 0))) none []]
def l79r2 : List AOper :=
  [.mk (some 6) (.mv (.tmp 5)) none [],.mk (some 7) (.mv (.tmp 0)) none [],.mk (some 8) (.len (.tmp 7)) none [1],.mk (some 9) (.bin .lss (.tmp 6) (.tmp 8)) none [0,2]]
def l79r3 : List AOper :=
  [.mk (some 12) (.mv (.tmp 0)) none [],.mk (some 13) (.mv (.tmp 5)) none [],.mk (some 14) (.idxA 1 (.tmp 12) (.tmp 13)) none [0,1],.mk (some 15) (.load false 1 (.tmp 14)) none [2],.mk (some 16) (.mv (.tmp 1)) none [],.mk (some 17) (.bin .eql (.tmp 15) (.tmp 16)) none [3,4]]
def l79r4 : List AOper :=
  [.mk (some 18) (.mv (.tmp 5)) none [],.mk (some 4) (.mv (.tmp 18)) none [0,0]]
def l79r5 : List AOper :=
  [.mk (some 10) (.mv (.tmp 5)) none [],.mk (some 11) (.bin .add (.tmp 10) (.const (.int .i64 1))) none [0],.mk (some 5) (.mv (.tmp 11)) none [1,0,1]]
def l79r6 : List AOper :=
  [.mk (some 4) (.mv (.const (.int .i64 (-1)))) none []]
def l79 : AFn :=
  (AFn.mk 19 2 (.seq (.reg l79r0) (.seq (.seq (.reg l79r1) (.block 0 (.loop (.seq (.seq (.reg l79r2) (.cond (.tmp 9) .skip (.exit 0))) (.seq (.block 1 (.seq (.reg l79r3) (.cond (.tmp 17) (.seq (.reg l79r4) .ret) .skip))) (.reg l79r5)))))) (.seq (.reg l79r6) .ret))) [.tmp 4])
theorem l79_eq : lowFn Try.prog 79 = some l79 := by kernel_rfl
def l81r0 : List AOper :=
  [.mk (some 4) (.alloc [.slice none 0 0,.slice none 0 0]) none []]
def l81r1 : List AOper :=
  [.mk (some 7) (.mv (.tmp 1)) none [],.mk (some 8) (.call 109 [.tmp 7]) none [0],.mk (some 9) (.build [.slice none 0 0,.slice none 0 0] [(0,1,.tmp 8)]) none [1],.mk (some 5) (.alloc [.slice none 0 0,.slice none 0 0]) none [],.mk none (.store 2 (.tmp 5) (.tmp 9)) none [3,2,1,0,1,2,3]]
def l81r2 : List AOper :=
  [.mk (some 10) (.mv (.tmp 1)) none [],.mk (some 11) (.call 84 [.tmp 10]) none [0],.mk (some 6) (.mv (.tmp 11)) none [1,1,0,1]]
def l81r3 : List AOper :=
  [.mk (some 12) (.mv (.tmp 6)) none [],.mk (some 13) (.bin .gtr (.tmp 12) (.const (.int .i64 0))) none [0]]
def l81r4a : List AOper :=
  [.mk (some 16) (.fld 1 (.tmp 5)) none [],.mk (some 17) (.load false 1 (.tmp 16)) none [0],.mk (some 18) (.mv (.tmp 0)) none [],.mk (some 19) (.call 78 [.tmp 18,.const (.int .i64 19)]) none [2],.mk (some 20) (.bin .sub (.tmp 19) (.const (.int .i64 9))) none [3],.mk (some 21) (.bslice 1 [.int .i64 0] [(0,.tmp 20)] 1) none [4]]
def l81r4b : List AOper :=
  [.mk (some 22) (.append 1 (.tmp 17) (.tmp 21)) none [1,5,3],.mk (some 23) (.fld 1 (.tmp 5)) none [0,1,2,3,4,5,6],.mk none (.store 1 (.tmp 23) (.tmp 22)) none [7,6,6,0,1,2,3,4,5,6]]
def l81r4 : List AOper := l81r4a ++ l81r4b
def l81r5 : List AOper :=
  [.mk (some 14) (.mv (.tmp 6)) none [],.mk (some 15) (.bin .sub (.tmp 14) (.const (.int .i64 1))) none [0],.mk (some 6) (.mv (.tmp 15)) none [1,0,1]]
def l81r6 : List AOper :=
  [.mk (some 24) (.load true 2 (.tmp 5)) none [],.mk none (.store 2 (.tmp 4) (.tmp 24)) none [0,0]]
def l81 : AFn :=
  (AFn.mk 25 2 (.seq (.reg l81r0) (.seq (.reg l81r1) (.seq (.seq (.reg l81r2) (.block 0 (.loop (.seq (.seq (.reg l81r3) (.cond (.tmp 13) .skip (.exit 0))) (.seq (.block 1 (.draw l81r4)) (.reg l81r5)))))) (.seq (.reg l81r6) .ret)))) [.cell 4 true 2])
theorem l81_eq : lowFn Try.prog 81 = some l81 := by kernel_rfl
def l82r0 : List AOper :=
  [.mk (some 2) (.mv (.const (.slice none 0 0))) none []]
def l82r1 : List AOper :=
  [.mk (some 6) (.bslice 1 [.int .i64 0] [] 0) none [],.mk (some 3) (.mv (.tmp 6)) none [0,0]]
def l82r2 : List AOper :=
  [.mk (some 7) (.mv (.tmp 0)) none [],.mk (some 8) (.bslice 1 [.int .i64 0] [(0,.const (.int .i64 2)),(1,.const (.int .i64 1)),(2,.const (.int .i64 3)),(3,.const (.int .i64 2)),(4,.const (.int .i64 0)),(5,.const (.int .i64 4))] 6) none [],.mk (some 9) (.call 46 [.tmp 7,.tmp 8]) none [0,1],.mk (some 4) (.mv (.tmp 9)) none [2,2,0,1,2]]
def l82r3 : List AOper :=
  [.mk (some 10) (.mv (.tmp 4)) none [],.mk (some 11) (.bin .gtr (.tmp 10) (.const (.int .i64 0))) none [0]]
def l82r4 : List AOper :=
  [.mk (some 14) (.mv (.tmp 0)) none [],.mk (some 15) (.bslice 1 [.int .i64 0] [(0,.const (.int .i64 2)),(1,.const (.int .i64 3)),(2,.const (.int .i64 1)),(3,.const (.int .i64 4)),(4,.const (.int .i64 2)),(5,.const (.int .i64 3)),(6,.const (.int .i64 5)),(7,.const (.int .i64 0))] 8) none [],.mk (some 16) (.call 46 [.tmp 14,.tmp 15]) none [0,1],.mk (some 5) (.mv (.tmp 16)) none [2,2,0,1,2]]
def l82r5 : List AOper :=
  [.mk (some 17) (.mv (.tmp 3)) none [],.mk (some 18) (.call 84 [.tmp 17]) none [0],.mk (some 19) (.mv (.tmp 5)) none [],.mk (some 20) (.bin .mul (.tmp 18) (.tmp 19)) none [1,2],.mk (some 21) (.bin .leq (.tmp 20) (.const (.int .i64 60))) none [3]]
def l82r6 : List AOper :=
  [.mk (some 22) (.mv (.tmp 3)) none [],.mk (some 23) (.mv (.tmp 5)) none [],.mk (some 24) (.bslice 1 [.int .i64 0] [(0,.tmp 23)] 1) none [1],.mk (some 25) (.append 1 (.tmp 22) (.tmp 24)) none [0,2],.mk (some 3) (.mv (.tmp 25)) none [3,3,0,1,2,3]]
def l82r7 : List AOper :=
  [.mk (some 12) (.mv (.tmp 4)) none [],.mk (some 13) (.bin .sub (.tmp 12) (.const (.int .i64 1))) none [0],.mk (some 4) (.mv (.tmp 13)) none [1,0,1]]
def l82r8 : List AOper :=
  [.mk (some 26) (.mv (.tmp 3)) none [],.mk (some 2) (.mv (.tmp 26)) none [0,0]]
def l82 : AFn :=
  (AFn.mk 27 1 (.seq (.reg l82r0) (.seq (.reg l82r1) (.seq (.seq (.reg l82r2) (.block 0 (.loop (.seq (.seq (.reg l82r3) (.cond (.tmp 11) .skip (.exit 0))) (.seq (.block 1 (.seq (.reg l82r4) (.seq (.reg l82r5) (.cond (.tmp 21) (.reg l82r6) .skip)))) (.reg l82r7)))))) (.seq (.reg l82r8) .ret)))) [.tmp 2])
theorem l82_eq : lowFn Try.prog 82 = some l82 := by kernel_rfl
def l83r0 : List AOper :=
  [.mk (some 2) (.mv (.const (.bool false))) none []]
def l83r1 : List AOper :=
  [.mk (some 3) (.mv (.tmp 0)) none [],.mk (some 4) (.len (.tmp 3)) none [0],.mk (some 5) (.bin .leq (.tmp 4) (.const (.int .i64 4))) none [1],.mk (some 6) (.mv (.tmp 5)) none [2],.mk (some 7) (.mv (.tmp 0)) (some (6,true)) [3],.mk (some 8) (.call 56 [.tmp 7,.const (.int .i64 0),.const (.int .i64 60)]) (some (6,true)) [4,3,3],.mk (some 9) (.pick (.tmp 6) (.tmp 8) (.const (.bool false))) none [3,5],.mk (some 10) (.mv (.tmp 9)) none [6,5],.mk (some 11) (.mv (.tmp 0)) (some (10,true)) [7],.mk (some 12) (.call 84 [.tmp 11]) (some (10,true)) [8,7,7],.mk (some 13) (.bin .leq (.tmp 12) (.const (.int .i64 60))) (some (10,true)) [9,7],.mk (some 14) (.pick (.tmp 10) (.tmp 13) (.const (.bool false))) none [7,10],.mk (some 2) (.mv (.tmp 14)) none [11,9,0,1,2,3,4,5,6,7,8,9,10,11]]
def l83 : AFn :=
  (AFn.mk 15 1 (.seq (.reg l83r0) (.seq (.reg l83r1) .ret)) [.tmp 2])
theorem l83_eq : lowFn Try.prog 83 = some l83 := by kernel_rfl
def l84r0 : List AOper :=
  [.mk (some 2) (.mv (.const (.int .i64 0))) none []]
def l84r1 : List AOper :=
  [.mk (some 3) (.mv (.const (.int .i64 1))) none []]
def l84r2 : List AOper :=
  [.mk (some 4) (.mv (.const (.int .i64 0))) none []]
def l84r3 : List AOper :=
  [.mk (some 5) (.mv (.tmp 4)) none [],.mk (some 6) (.mv (.tmp 0)) none [],.mk (some 7) (.len (.tmp 6)) none [1],.mk (some 8) (.bin .lss (.tmp 5) (.tmp 7)) none [0,2]]
def l84r4 : List AOper :=
  [.mk (some 11) (.mv (.tmp 3)) none [],.mk (some 12) (.mv (.tmp 0)) none [],.mk (some 13) (.mv (.tmp 4)) none [],.mk (some 14) (.idxA 1 (.tmp 12) (.tmp 13)) none [1,2],.mk (some 15) (.load false 1 (.tmp 14)) none [3],.mk (some 16) (.bin .mul (.tmp 11) (.tmp 15)) none [0,4],.mk (some 3) (.mv (.tmp 16)) none [5,0,1,2,3,4,5]]
def l84r5 : List AOper :=
  [.mk (some 9) (.mv (.tmp 4)) none [],.mk (some 10) (.bin .add (.tmp 9) (.const (.int .i64 1))) none [0],.mk (some 4) (.mv (.tmp 10)) none [1,0,1]]
def l84r6 : List AOper :=
  [.mk (some 17) (.mv (.tmp 3)) none [],.mk (some 2) (.mv (.tmp 17)) none [0,0]]
def l84 : AFn :=
  (AFn.mk 18 1 (.seq (.reg l84r0) (.seq (.reg l84r1) (.seq (.seq (.reg l84r2) (.block 0 (.loop (.seq (.seq (.reg l84r3) (.cond (.tmp 8) .skip (.exit 0))) (.seq (.block 1 (.reg l84r4)) (.reg l84r5)))))) (.seq (.reg l84r6) .ret)))) [.tmp 2])
theorem l84_eq : lowFn Try.prog 84 = some l84 := by kernel_rfl
def l85r0 : List AOper :=
  [.mk (some 4) (.mv (.const (.slice none 0 0))) none []]
def l85r1 : List AOper :=
  [.mk (some 7) (.bslice 1 [.int .i64 0] [] 0) none [],.mk (some 5) (.mv (.tmp 7)) none [0,0]]
def l85r2 : List AOper :=
  [.mk (some 6) (.mv (.const (.int .i64 0))) none []]
def l85r3 : List AOper :=
  [.mk (some 8) (.mv (.tmp 6)) none [],.mk (some 9) (.mv (.tmp 1)) none [],.mk (some 10) (.len (.tmp 9)) none [1],.mk (some 11) (.bin .lss (.tmp 8) (.tmp 10)) none [0,2]]
def l85r4 : List AOper :=
  [.mk (some 14) (.mv (.tmp 5)) none [],.mk (some 15) (.mv (.tmp 0)) none [],.mk (some 16) (.mv (.tmp 1)) none [],.mk (some 17) (.mv (.tmp 6)) none [],.mk (some 18) (.idxA 1 (.tmp 16) (.tmp 17)) none [2,3],.mk (some 19) (.load false 1 (.tmp 18)) none [4],.mk (some 20) (.idxA 1 (.tmp 15) (.tmp 19)) none [1,5],.mk (some 21) (.load false 1 (.tmp 20)) none [6],.mk (some 22) (.bslice 1 [.int .i64 0] [(0,.tmp 21)] 1) none [7],.mk (some 23) (.append 1 (.tmp 14) (.tmp 22)) none [0,8],.mk (some 5) (.mv (.tmp 23)) none [9,9,0,1,2,3,4,5,6,7,8,9]]
def l85r5 : List AOper :=
  [.mk (some 12) (.mv (.tmp 6)) none [],.mk (some 13) (.bin .add (.tmp 12) (.const (.int .i64 1))) none [0],.mk (some 6) (.mv (.tmp 13)) none [1,0,1]]
def l85r6 : List AOper :=
  [.mk (some 24) (.mv (.tmp 5)) none [],.mk (some 4) (.mv (.tmp 24)) none [0,0]]
def l85 : AFn :=
  (AFn.mk 25 2 (.seq (.reg l85r0) (.seq (.reg l85r1) (.seq (.seq (.reg l85r2) (.block 0 (.loop (.seq (.seq (.reg l85r3) (.cond (.tmp 11) .skip (.exit 0))) (.seq (.block 1 (.reg l85r4)) (.reg l85r5)))))) (.seq (.reg l85r6) .ret)))) [.tmp 4])
theorem l85_eq : lowFn Try.prog 85 = some l85 := by kernel_rfl
def l86r0 : List AOper :=
  [.mk (some 6) (.mv (.const (.slice none 0 0))) none []]
def l86r1a : List AOper :=
  [.mk (some 7) (.bslice 1 [.int .i64 0] [] 0) none [],.mk (some 8) (.mv (.tmp 0)) none [],.mk (some 9) (.mv (.tmp 1)) none [],.mk (some 10) (.slice 1 (.tmp 8) none (some (.tmp 9))) none [1,2],.mk (some 11) (.append 1 (.tmp 7) (.tmp 10)) none [0,3],.mk (some 12) (.mv (.tmp 2)) none [],.mk (some 13) (.bslice 1 [.int .i64 0] [(0,.tmp 12)] 1) none [5],.mk (some 14) (.append 1 (.tmp 11) (.tmp 13)) none [4,6,4],.mk (some 15) (.mv (.tmp 0)) none [],.mk (some 16) (.mv (.tmp 1)) none [],.mk (some 17) (.slice 1 (.tmp 15) (some (.tmp 16)) none) none [8,9]]
def l86r1b : List AOper :=
  [.mk (some 18) (.append 1 (.tmp 14) (.tmp 17)) none [7,10,7],.mk (some 6) (.mv (.tmp 18)) none [11,11,0,1,2,3,4,5,6,7,8,9,10,11]]
def l86r1 : List AOper := l86r1a ++ l86r1b
def l86 : AFn :=
  (AFn.mk 19 3 (.seq (.reg l86r0) (.seq (.draw l86r1) .ret)) [.tmp 6])
theorem l86_eq : lowFn Try.prog 86 = some l86 := by kernel_rfl
def l87r0 : List AOper :=
  [.mk (some 2) (.mv (.const (.bool false))) none []]
def l87r1 : List AOper :=
  [.mk (some 5) (.mv (.tmp 0)) none [],.mk (some 6) (.len (.tmp 5)) none [0],.mk (some 7) (.mv (.const (.int .i64 0))) none []]
def l87r2 : List AOper :=
  [.mk (some 8) (.bin .lss (.tmp 7) (.tmp 6)) none []]
def l87r3 : List AOper :=
  [.mk (some 9) (.idxA 1 (.tmp 5) (.tmp 7)) none [],.mk (some 10) (.load false 1 (.tmp 9)) none [0],.mk (some 4) (.mv (.tmp 10)) none [1,0,1]]
def l87r4 : List AOper :=
  [.mk (some 11) (.mv (.tmp 4)) none [],.mk (some 12) (.call 76 [.tmp 11,.const (.int .i64 4)]) none [0],.mk (some 13) (.un .not (.tmp 12)) none [1]]
def l87r5 : List AOper :=
  [.mk (some 2) (.mv (.const (.bool false))) none []]
def l87r6 : List AOper :=
  [.mk (some 14) (.bin .add (.tmp 7) (.const (.int .i64 1))) none [],.mk (some 7) (.mv (.tmp 14)) none [0]]
def l87r7 : List AOper :=
  [.mk (some 2) (.mv (.const (.bool true))) none []]
def l87 : AFn :=
  (AFn.mk 15 1 (.seq (.reg l87r0) (.seq (.seq (.reg l87r1) (.block 0 (.loop (.seq (.reg l87r2) (.seq (.cond (.tmp 8) .skip (.exit 0)) (.seq (.block 1 (.seq (.reg l87r3) (.seq (.reg l87r4) (.cond (.tmp 13) (.seq (.reg l87r5) .ret) .skip)))) (.reg l87r6))))))) (.seq (.reg l87r7) .ret))) [.tmp 2])
theorem l87_eq : lowFn Try.prog 87 = some l87 := by kernel_rfl
def l88r0 : List AOper :=
  [.mk (some 0) (.alloc [.int .i64 0,.int .i64 0,.int .i64 0,.int .i64 0,.int .i64 0]) none []]
def l88r1 : List AOper :=
  [.mk (some 1) (.alloc [.int .i64 0,.int .i64 0,.int .i64 0,.int .i64 0,.int .i64 0]) none []]
def l88r2 : List AOper :=
  [.mk (some 3) (.mv (.const (.int .i64 0))) none []]
def l88r3 : List AOper :=
  [.mk (some 4) (.bin .lss (.tmp 3) (.const (.int .i64 5))) none []]
def l88r4 : List AOper :=
  [.mk (some 5) (.mv (.tmp 3)) none [],.mk (some 2) (.mv (.tmp 5)) none [0,0]]
def l88r5 : List AOper :=
  [.mk (some 6) (.mv (.tmp 2)) none [],.mk (some 7) (.idxP 1 5 (.tmp 1) (.tmp 6)) none [0,0],.mk none (.store 1 (.tmp 7) (.const (.int .i64 (-1)))) none [1,0]]
def l88r6 : List AOper :=
  [.mk (some 8) (.bin .add (.tmp 3) (.const (.int .i64 1))) none [],.mk (some 3) (.mv (.tmp 8)) none [0]]
def l88r7 : List AOper :=
  [.mk (some 9) (.load true 5 (.tmp 1)) none [],.mk none (.store 5 (.tmp 0) (.tmp 9)) none [0,0]]
def l88 : AFn :=
  (AFn.mk 10 0 (.seq (.reg l88r0) (.seq (.reg l88r1) (.seq (.seq (.reg l88r2) (.block 0 (.loop (.seq (.reg l88r3) (.seq (.cond (.tmp 4) .skip (.exit 0)) (.seq (.block 1 (.seq (.reg l88r4) (.reg l88r5))) (.reg l88r6))))))) (.seq (.reg l88r7) .ret)))) [.cell 0 true 5])
theorem l88_eq : lowFn Try.prog 88 = some l88 := by kernel_rfl
def l89r0 : List AOper :=
  [.mk (some 4) (.alloc [.int .i64 0,.int .i64 0,.int .i64 0,.int .i64 0,.int .i64 0]) none [],.mk (some 5) (.mv (.const (.bool false))) none []]
def l89r1 : List AOper :=
  [.mk (some 11) (.call 88 []) none [],.mk (some 6) (.alloc [.int .i64 0,.int .i64 0,.int .i64 0,.int .i64 0,.int .i64 0]) none [],.mk none (.store 5 (.tmp 6) (.tmp 11)) none [1,0,0,0,1]]
def l89r2 : List AOper :=
  [.mk (some 12) (.mv (.tmp 0)) none [],.mk (some 13) (.len (.tmp 12)) none [0],.mk (some 14) (.mv (.const (.int .i64 0))) none []]
def l89r3 : List AOper :=
  [.mk (some 15) (.bin .lss (.tmp 14) (.tmp 13)) none []]
def l89r4 : List AOper :=
  [.mk (some 16) (.mv (.tmp 14)) none [],.mk (some 17) (.idxA 2 (.tmp 12) (.tmp 14)) none [],.mk (some 18) (.load true 2 (.tmp 17)) none [1],.mk (some 8) (.alloc [.slice none 0 0,.slice none 0 0]) none [],.mk (some 7) (.mv (.tmp 16)) none [0,0,1,2,3],.mk none (.store 2 (.tmp 8) (.tmp 18)) none [3,2,4,0,1,2,3,4]]
def l89r5a : List AOper :=
  [.mk (some 19) (.load true 2 (.tmp 8)) none [],.mk (some 20) (.call 11 [.tmp 19]) none [0],.mk (some 21) (.un .not (.tmp 20)) none [1],.mk (some 22) (.mv (.tmp 21)) none [2,1],.mk (some 23) (.mv (.tmp 1)) (some (22,false)) [3],.mk (some 24) (.mv (.tmp 7)) (some (22,false)) [3],.mk (some 25) (.idxA 1 (.tmp 23) (.tmp 24)) (some (22,false)) [4,5,3],.mk (some 26) (.load false 1 (.tmp 25)) (some (22,false)) [6,3],.mk (some 27) (.len (.tmp 26)) (some (22,false)) [7,3],.mk (some 28) (.fld 0 (.tmp 8)) (some (22,false)) [3],.mk (some 29) (.load false 1 (.tmp 28)) (some (22,false)) [9,3],.mk (some 30) (.len (.tmp 29)) (some (22,false)) [10,3],.mk (some 31) (.bin .neq (.tmp 27) (.tmp 30)) (some (22,false)) [8,11,3],.mk (some 32) (.pick (.tmp 22) (.const (.bool true)) (.tmp 31)) none [3,12],.mk (some 33) (.mv (.tmp 32)) none [13,3],.mk (some 34) (.mv (.tmp 1)) (some (33,false)) [14],.mk (some 35) (.mv (.tmp 7)) (some (33,false)) [14]]
def l89r5b : List AOper :=
  [.mk (some 36) (.idxA 1 (.tmp 34) (.tmp 35)) (some (33,false)) [15,16,14],.mk (some 37) (.load false 1 (.tmp 36)) (some (33,false)) [17,14],.mk (some 38) (.call 87 [.tmp 37]) (some (33,false)) [18,14,14],.mk (some 39) (.un .not (.tmp 38)) (some (33,false)) [19,14],.mk (some 40) (.pick (.tmp 33) (.const (.bool true)) (.tmp 39)) none [14,20]]
def l89r5 : List AOper := l89r5a ++ l89r5b
def l89r6 : List AOper :=
  [.mk (some 41) (.load true 5 (.tmp 6)) none [],.mk none (.store 5 (.tmp 4) (.tmp 41)) none [0,0],.mk (some 5) (.mv (.const (.bool false))) none [1,0,1]]
def l89r7 : List AOper :=
  [.mk (some 42) (.mv (.tmp 1)) none [],.mk (some 43) (.mv (.tmp 7)) none [],.mk (some 44) (.idxA 1 (.tmp 42) (.tmp 43)) none [0,1],.mk (some 45) (.load false 1 (.tmp 44)) none [2],.mk (some 46) (.len (.tmp 45)) none [3],.mk (some 47) (.mv (.const (.int .i64 0))) none []]
def l89r8 : List AOper :=
  [.mk (some 48) (.bin .lss (.tmp 47) (.tmp 46)) none []]
def l89r9 : List AOper :=
  [.mk (some 49) (.mv (.tmp 47)) none [],.mk (some 50) (.idxA 1 (.tmp 45) (.tmp 47)) none [],.mk (some 51) (.load false 1 (.tmp 50)) none [1],.mk (some 9) (.mv (.tmp 49)) none [0,0,1,2],.mk (some 10) (.mv (.tmp 51)) none [2,3,0,1,2,3]]
def l89r10a : List AOper :=
  [.mk (some 52) (.mv (.tmp 10)) none [],.mk (some 53) (.idxP 1 5 (.tmp 6) (.tmp 52)) none [0],.mk (some 54) (.load false 1 (.tmp 53)) none [1],.mk (some 55) (.bin .geq (.tmp 54) (.const (.int .i64 0))) none [2],.mk (some 56) (.mv (.tmp 55)) none [3],.mk (some 57) (.mv (.tmp 10)) (some (56,true)) [4],.mk (some 58) (.idxP 1 5 (.tmp 6) (.tmp 57)) (some (56,true)) [5,4],.mk (some 59) (.load false 1 (.tmp 58)) (some (56,true)) [6,4],.mk (some 60) (.fld 0 (.tmp 8)) (some (56,true)) [4],.mk (some 61) (.load false 1 (.tmp 60)) (some (56,true)) [8,4],.mk (some 62) (.mv (.tmp 9)) (some (56,true)) [4],.mk (some 63) (.idxA 1 (.tmp 61) (.tmp 62)) (some (56,true)) [9,10,4],.mk (some 64) (.load false 1 (.tmp 63)) (some (56,true)) [11,4]]
def l89r10b : List AOper :=
  [.mk (some 65) (.bin .neq (.tmp 59) (.tmp 64)) (some (56,true)) [7,12,4],.mk (some 66) (.pick (.tmp 56) (.tmp 65) (.const (.bool false))) none [4,13]]
def l89r10 : List AOper := l89r10a ++ l89r10b
def l89r11 : List AOper :=
  [.mk (some 67) (.load true 5 (.tmp 6)) none [],.mk none (.store 5 (.tmp 4) (.tmp 67)) none [0,0],.mk (some 5) (.mv (.const (.bool false))) none [1,0,1]]
def l89r12 : List AOper :=
  [.mk (some 68) (.mv (.tmp 10)) none [],.mk (some 69) (.fld 0 (.tmp 8)) none [],.mk (some 70) (.load false 1 (.tmp 69)) none [1],.mk (some 71) (.mv (.tmp 9)) none [],.mk (some 72) (.idxA 1 (.tmp 70) (.tmp 71)) none [2,3],.mk (some 73) (.load false 1 (.tmp 72)) none [4],.mk (some 74) (.idxP 1 5 (.tmp 6) (.tmp 68)) none [0,0,1,2,3,4,5],.mk none (.store 1 (.tmp 74) (.tmp 73)) none [6,5,0,1,2,3,4,5]]
def l89r13 : List AOper :=
  [.mk (some 75) (.bin .add (.tmp 47) (.const (.int .i64 1))) none [],.mk (some 47) (.mv (.tmp 75)) none [0]]
def l89r14 : List AOper :=
  [.mk (some 76) (.bin .add (.tmp 14) (.const (.int .i64 1))) none [],.mk (some 14) (.mv (.tmp 76)) none [0]]
def l89r15 : List AOper :=
  [.mk (some 77) (.load true 5 (.tmp 6)) none [],.mk none (.store 5 (.tmp 4) (.tmp 77)) none [0,0],.mk (some 5) (.mv (.const (.bool true))) none [1,0,1]]
def l89 : AFn :=
  (AFn.mk 78 2 (.seq (.reg l89r0) (.seq (.reg l89r1) (.seq (.seq (.reg l89r2) (.block 0 (.loop (.seq (.reg l89r3) (.seq (.cond (.tmp 15) .skip (.exit 0)) (.seq (.block 1 (.seq (.reg l89r4) (.seq (.seq (.draw l89r5) (.cond (.tmp 40) (.seq (.reg l89r6) .ret) .skip)) (.seq (.reg l89r7) (.block 2 (.loop (.seq (.reg l89r8) (.seq (.cond (.tmp 48) .skip (.exit 2)) (.seq (.block 3 (.seq (.reg l89r9) (.seq (.seq (.draw l89r10) (.cond (.tmp 66) (.seq (.reg l89r11) .ret) .skip)) (.reg l89r12)))) (.reg l89r13)))))))))) (.reg l89r14))))))) (.seq (.reg l89r15) .ret)))) [.cell 4 true 5,.tmp 5])
theorem l89_eq : lowFn Try.prog 89 = some l89 := by kernel_rfl
def l90r0 : List AOper :=
  [.mk (some 2) (.box (.tmp 0)) none [],.mk (some 4) (.mv (.const (.slice none 0 0))) none []]
def l90r1 : List AOper :=
  [.mk (some 8) (.mv (.tmp 1)) none [],.mk (some 9) (.len (.tmp 8)) none [0],.mk (some 10) (.mkslice 1 [.int .i64 0] (.tmp 9) (.tmp 9)) none [1,1],.mk (some 5) (.mv (.tmp 10)) none [2,0,1,2]]
def l90r2 : List AOper :=
  [.mk (some 11) (.mv (.tmp 1)) none [],.mk (some 12) (.len (.tmp 11)) none [0],.mk (some 13) (.mv (.const (.int .i64 0))) none []]
def l90r3 : List AOper :=
  [.mk (some 14) (.bin .lss (.tmp 13) (.tmp 12)) none []]
def l90r4 : List AOper :=
  [.mk (some 15) (.mv (.tmp 13)) none [],.mk (some 16) (.idxA 1 (.tmp 11) (.tmp 13)) none [],.mk (some 17) (.load false 1 (.tmp 16)) none [1],.mk (some 6) (.mv (.tmp 15)) none [0,0,1,2],.mk (some 7) (.mv (.tmp 17)) none [2,3,0,1,2,3]]
def l90r5 : List AOper :=
  [.mk (some 18) (.mv (.tmp 5)) none [],.mk (some 19) (.mv (.tmp 6)) none [],.mk (some 20) (.mv (.tmp 7)) none [],.mk (some 21) (.idxP 1 5 (.tmp 2) (.tmp 20)) none [2],.mk (some 22) (.load false 1 (.tmp 21)) none [3],.mk (some 23) (.idxA 1 (.tmp 18) (.tmp 19)) none [0,1,0,1,2,3,4],.mk none (.store 1 (.tmp 23) (.tmp 22)) none [5,4,0,1,2,3,4]]
def l90r6 : List AOper :=
  [.mk (some 24) (.bin .add (.tmp 13) (.const (.int .i64 1))) none [],.mk (some 13) (.mv (.tmp 24)) none [0]]
def l90r7 : List AOper :=
  [.mk (some 25) (.mv (.tmp 5)) none [],.mk (some 4) (.mv (.tmp 25)) none [0,0]]
def l90 : AFn :=
  (AFn.mk 26 2 (.seq (.reg l90r0) (.seq (.reg l90r1) (.seq (.seq (.reg l90r2) (.block 0 (.loop (.seq (.reg l90r3) (.seq (.cond (.tmp 14) .skip (.exit 0)) (.seq (.block 1 (.seq (.reg l90r4) (.reg l90r5))) (.reg l90r6))))))) (.seq (.reg l90r7) .ret)))) [.tmp 4])
theorem l90_eq : lowFn Try.prog 90 = some l90 := by kernel_rfl
def l91r0 : List AOper :=
  [.mk (some 2) (.mv (.const (.slice none 0 0))) none []]
def l91r1 : List AOper :=
  [.mk (some 3) (.alloc [.bool false,.bool false,.bool false,.bool false,.bool false]) none []]
def l91r2 : List AOper :=
  [.mk (some 11) (.mv (.tmp 0)) none [],.mk (some 12) (.len (.tmp 11)) none [0],.mk (some 13) (.mv (.const (.int .i64 0))) none []]
def l91r3 : List AOper :=
  [.mk (some 14) (.bin .lss (.tmp 13) (.tmp 12)) none []]
def l91r4 : List AOper :=
  [.mk (some 15) (.idxA 1 (.tmp 11) (.tmp 13)) none [],.mk (some 16) (.load false 1 (.tmp 15)) none [0],.mk (some 5) (.mv (.tmp 16)) none [1,0,1]]
def l91r5 : List AOper :=
  [.mk (some 17) (.mv (.tmp 5)) none [],.mk (some 18) (.len (.tmp 17)) none [0],.mk (some 19) (.mv (.const (.int .i64 0))) none []]
def l91r6 : List AOper :=
  [.mk (some 20) (.bin .lss (.tmp 19) (.tmp 18)) none []]
def l91r7 : List AOper :=
  [.mk (some 21) (.idxA 1 (.tmp 17) (.tmp 19)) none [],.mk (some 22) (.load false 1 (.tmp 21)) none [0],.mk (some 7) (.mv (.tmp 22)) none [1,0,1]]
def l91r8 : List AOper :=
  [.mk (some 23) (.mv (.tmp 7)) none [],.mk (some 24) (.idxP 1 5 (.tmp 3) (.tmp 23)) none [0,0],.mk none (.store 1 (.tmp 24) (.const (.bool true))) none [1,0]]
def l91r9 : List AOper :=
  [.mk (some 25) (.bin .add (.tmp 19) (.const (.int .i64 1))) none [],.mk (some 19) (.mv (.tmp 25)) none [0]]
def l91r10 : List AOper :=
  [.mk (some 26) (.bin .add (.tmp 13) (.const (.int .i64 1))) none [],.mk (some 13) (.mv (.tmp 26)) none [0]]
def l91r11 : List AOper :=
  [.mk (some 8) (.mv (.const (.slice none 0 0))) none []]
def l91r12 : List AOper :=
  [.mk (some 27) (.load true 5 (.tmp 3)) none [],.mk (some 28) (.mv (.const (.int .i64 0))) none []]
def l91r13 : List AOper :=
  [.mk (some 29) (.bin .lss (.tmp 28) (.const (.int .i64 5))) none []]
def l91r14 : List AOper :=
  [.mk (some 30) (.mv (.tmp 28)) none [],.mk (some 31) (.raw (Op.index 116 (.tmp 27) (.tmp 28))) none [],.mk (some 9) (.mv (.tmp 30)) none [0,0,1],.mk (some 10) (.mv (.tmp 31)) none [1,2,0,1,2]]
def l91r15 : List AOper :=
  [.mk (some 32) (.mv (.tmp 10)) none []]
def l91r16 : List AOper :=
  [.mk (some 33) (.mv (.tmp 8)) none [],.mk (some 34) (.mv (.tmp 9)) none [],.mk (some 35) (.bslice 1 [.int .i64 0] [(0,.tmp 34)] 1) none [1],.mk (some 36) (.append 1 (.tmp 33) (.tmp 35)) none [0,2],.mk (some 8) (.mv (.tmp 36)) none [3,3,0,1,2,3]]
def l91r17 : List AOper :=
  [.mk (some 37) (.bin .add (.tmp 28) (.const (.int .i64 1))) none [],.mk (some 28) (.mv (.tmp 37)) none [0]]
def l91r18 : List AOper :=
  [.mk (some 38) (.mv (.tmp 8)) none [],.mk (some 2) (.mv (.tmp 38)) none [0,0]]
def l91 : AFn :=
  (AFn.mk 39 1 (.seq (.reg l91r0) (.seq (.reg l91r1) (.seq (.seq (.reg l91r2) (.block 0 (.loop (.seq (.reg l91r3) (.seq (.cond (.tmp 14) .skip (.exit 0)) (.seq (.block 1 (.seq (.reg l91r4) (.seq (.reg l91r5) (.block 2 (.loop (.seq (.reg l91r6) (.seq (.cond (.tmp 20) .skip (.exit 2)) (.seq (.block 3 (.seq (.reg l91r7) (.reg l91r8))) (.reg l91r9))))))))) (.reg l91r10))))))) (.seq (.reg l91r11) (.seq (.seq (.reg l91r12) (.block 4 (.loop (.seq (.reg l91r13) (.seq (.cond (.tmp 29) .skip (.exit 4)) (.seq (.block 5 (.seq (.reg l91r14) (.seq (.reg l91r15) (.cond (.tmp 32) (.reg l91r16) .skip)))) (.reg l91r17))))))) (.seq (.reg l91r18) .ret)))))) [.tmp 2])
theorem l91_eq : lowFn Try.prog 91 = some l91 := by kernel_rfl
def l92r0 : List AOper :=
  [.mk (some 4) (.mv (.const (.slice none 0 0))) none []]
def l92r1 : List AOper :=
  [.mk (some 5) (.mv (.const (.slice none 0 0))) none []]
def l92r2 : List AOper :=
  [.mk (some 8) (.mv (.tmp 0)) none [],.mk (some 9) (.len (.tmp 8)) none [0],.mk (some 10) (.mv (.const (.int .i64 0))) none []]
def l92r3 : List AOper :=
  [.mk (some 11) (.bin .lss (.tmp 10) (.tmp 9)) none []]
def l92r4 : List AOper :=
  [.mk (some 12) (.idxA 1 (.tmp 8) (.tmp 10)) none [],.mk (some 13) (.load false 1 (.tmp 12)) none [0],.mk (some 7) (.mv (.tmp 13)) none [1,0,1]]
def l92r5 : List AOper :=
  [.mk (some 14) (.mv (.tmp 1)) none [],.mk (some 15) (.mv (.tmp 7)) none [],.mk (some 16) (.call 110 [.tmp 14,.tmp 15]) none [0,1],.mk (some 17) (.un .not (.tmp 16)) none [2]]
def l92r6 : List AOper :=
  [.mk (some 18) (.mv (.tmp 5)) none [],.mk (some 19) (.mv (.tmp 7)) none [],.mk (some 20) (.bslice 1 [.int .i64 0] [(0,.tmp 19)] 1) none [1],.mk (some 21) (.append 1 (.tmp 18) (.tmp 20)) none [0,2],.mk (some 5) (.mv (.tmp 21)) none [3,3,0,1,2,3]]
def l92r7 : List AOper :=
  [.mk (some 22) (.bin .add (.tmp 10) (.const (.int .i64 1))) none [],.mk (some 10) (.mv (.tmp 22)) none [0]]
def l92r8 : List AOper :=
  [.mk (some 23) (.mv (.tmp 5)) none [],.mk (some 4) (.mv (.tmp 23)) none [0,0]]
def l92 : AFn :=
  (AFn.mk 24 2 (.seq (.reg l92r0) (.seq (.reg l92r1) (.seq (.seq (.reg l92r2) (.block 0 (.loop (.seq (.reg l92r3) (.seq (.cond (.tmp 11) .skip (.exit 0)) (.seq (.block 1 (.seq (.reg l92r4) (.seq (.reg l92r5) (.cond (.tmp 17) (.reg l92r6) .skip)))) (.reg l92r7))))))) (.seq (.reg l92r8) .ret)))) [.tmp 4])
theorem l92_eq : lowFn Try.prog 92 = some l92 := by kernel_rfl
def l93r0 : List AOper :=
  [.mk (some 2) (.mv (.const (.slice none 0 0))) none []]
def l93r1 : List AOper :=
  [.mk (some 3) (.mv (.const (.int .i64 0))) none []]
def l93r2 : List AOper :=
  [.mk (some 9) (.mv (.tmp 0)) none [],.mk (some 10) (.len (.tmp 9)) none [0],.mk (some 11) (.mv (.const (.int .i64 0))) none []]
def l93r3 : List AOper :=
  [.mk (some 12) (.bin .lss (.tmp 11) (.tmp 10)) none []]
def l93r4 : List AOper :=
  [.mk (some 13) (.idxA 1 (.tmp 9) (.tmp 11)) none [],.mk (some 14) (.load false 1 (.tmp 13)) none [0],.mk (some 5) (.mv (.tmp 14)) none [1,0,1]]
def l93r5 : List AOper :=
  [.mk (some 15) (.mv (.tmp 3)) none [],.mk (some 16) (.mv (.tmp 5)) none [],.mk (some 17) (.len (.tmp 16)) none [1],.mk (some 18) (.bin .add (.tmp 15) (.tmp 17)) none [0,2],.mk (some 3) (.mv (.tmp 18)) none [3,0,1,2,3]]
def l93r6 : List AOper :=
  [.mk (some 19) (.mv (.tmp 3)) none [],.mk (some 20) (.bin .lss (.tmp 19) (.const (.int .i64 0))) none [0]]
def l93r7 : List AOper :=
  [.mk (some 21) (.raw (Op.makeInterface 9 (.const (.string (ByteArray.mk (Array.mk [(108 : UInt8),(101 : UInt8),(110 : UInt8),(32 : UInt8),(111 : UInt8),(117 : UInt8),(116 : UInt8),(32 : UInt8),(111 : UInt8),(102 : UInt8),(32 : UInt8),(114 : UInt8),(97 : UInt8),(110 : UInt8),(103 : UInt8),(101 : UInt8)])))))) none [],.mk none (.raw (Op.panic (.tmp 21))) none [0]]
def l93r8 : List AOper :=
  [.mk (some 22) (.bin .add (.tmp 11) (.const (.int .i64 1))) none [],.mk (some 11) (.mv (.tmp 22)) none [0]]
def l93r9 : List AOper :=
  [.mk (some 23) (.mv (.tmp 3)) none [],.mk (some 24) (.call 111 [.const (.slice none 0 0),.tmp 23]) none [0],.mk (some 6) (.mv (.tmp 24)) none [1,1,0,1]]
def l93r10 : List AOper :=
  [.mk (some 25) (.mv (.tmp 0)) none [],.mk (some 26) (.len (.tmp 25)) none [0],.mk (some 27) (.mv (.const (.int .i64 0))) none []]
def l93r11 : List AOper :=
  [.mk (some 28) (.bin .lss (.tmp 27) (.tmp 26)) none []]
def l93r12 : List AOper :=
  [.mk (some 29) (.idxA 1 (.tmp 25) (.tmp 27)) none [],.mk (some 30) (.load false 1 (.tmp 29)) none [0],.mk (some 8) (.mv (.tmp 30)) none [1,0,1]]
def l93r13 : List AOper :=
  [.mk (some 31) (.mv (.tmp 6)) none [],.mk (some 32) (.mv (.tmp 8)) none [],.mk (some 33) (.append 1 (.tmp 31) (.tmp 32)) none [0,1],.mk (some 6) (.mv (.tmp 33)) none [2,2,0,1,2]]
def l93r14 : List AOper :=
  [.mk (some 34) (.bin .add (.tmp 27) (.const (.int .i64 1))) none [],.mk (some 27) (.mv (.tmp 34)) none [0]]
def l93r15 : List AOper :=
  [.mk (some 35) (.mv (.tmp 6)) none [],.mk (some 2) (.mv (.tmp 35)) none [0,0]]
def l93 : AFn :=
  (AFn.mk 36 1 (.seq (.reg l93r0) (.seq (.reg l93r1) (.seq (.seq (.reg l93r2) (.block 0 (.loop (.seq (.reg l93r3) (.seq (.cond (.tmp 12) .skip (.exit 0)) (.seq (.block 1 (.seq (.reg l93r4) (.seq (.reg l93r5) (.seq (.reg l93r6) (.cond (.tmp 20) (.reg l93r7) .skip))))) (.reg l93r8))))))) (.seq (.reg l93r9) (.seq (.seq (.reg l93r10) (.block 2 (.loop (.seq (.reg l93r11) (.seq (.cond (.tmp 28) .skip (.exit 2)) (.seq (.block 3 (.seq (.reg l93r12) (.reg l93r13))) (.reg l93r14))))))) (.seq (.reg l93r15) .ret)))))) [.tmp 2])
theorem l93_eq : lowFn Try.prog 93 = some l93 := by kernel_rfl
def l109r0 : List AOper :=
  [.mk (some 2) (.mv (.const (.slice none 0 0))) none []]
def l109r1 : List AOper :=
  [.mk (some 3) (.bslice 1 [.int .i64 0] [] 0) none [],.mk (some 4) (.mv (.tmp 0)) none [],.mk (some 5) (.append 1 (.tmp 3) (.tmp 4)) none [0,1],.mk (some 2) (.mv (.tmp 5)) none [2,2,0,1,2]]
def l109 : AFn :=
  (AFn.mk 6 1 (.seq (.reg l109r0) (.seq (.reg l109r1) .ret)) [.tmp 2])
theorem l109_eq : lowFn Try.prog 109 = some l109 := by kernel_rfl
def l110r0 : List AOper :=
  [.mk (some 4) (.mv (.const (.bool false))) none []]
def l110r1 : List AOper :=
  [.mk (some 5) (.mv (.tmp 0)) none [],.mk (some 6) (.mv (.tmp 1)) none [],.mk (some 7) (.call 127 [.tmp 5,.tmp 6]) none [0,1],.mk (some 8) (.bin .geq (.tmp 7) (.const (.int .i64 0))) none [2],.mk (some 4) (.mv (.tmp 8)) none [3,2,0,1,2,3]]
def l110 : AFn :=
  (AFn.mk 9 2 (.seq (.reg l110r0) (.seq (.reg l110r1) .ret)) [.tmp 4])
theorem l110_eq : lowFn Try.prog 110 = some l110 := by kernel_rfl
def l111r0 : List AOper :=
  [.mk (some 4) (.mv (.const (.slice none 0 0))) none []]
def l111r1 : List AOper :=
  [.mk (some 5) (.mv (.tmp 1)) none [],.mk (some 6) (.bin .lss (.tmp 5) (.const (.int .i64 0))) none [0]]
def l111r2 : List AOper :=
  [.mk (some 7) (.raw (Op.makeInterface 9 (.const (.string (ByteArray.mk (Array.mk [(99 : UInt8),(97 : UInt8),(110 : UInt8),(110 : UInt8),(111 : UInt8),(116 : UInt8),(32 : UInt8),(98 : UInt8),(101 : UInt8),(32 : UInt8),(110 : UInt8),(101 : UInt8),(103 : UInt8),(97 : UInt8),(116 : UInt8),(105 : UInt8),(118 : UInt8),(101 : UInt8)])))))) none [],.mk none (.raw (Op.panic (.tmp 7))) none [0]]
def l111r3 : List AOper :=
  [.mk (some 8) (.mv (.tmp 1)) none [],.mk (some 9) (.mv (.tmp 0)) none [],.mk (some 10) (.raw (Op.call (Call.mk (Callee.builtin Builtin.cap) (Array.mk [.tmp 9]) (Array.mk [23])))) none [1],.mk (some 11) (.mv (.tmp 0)) none [],.mk (some 12) (.len (.tmp 11)) none [3],.mk (some 13) (.bin .sub (.tmp 10) (.tmp 12)) none [2,4],.mk (some 14) (.bin .sub (.tmp 8) (.tmp 13)) none [0,5],.mk (some 1) (.mv (.tmp 14)) none [6,0,1,2,3,4,5,6]]
def l111r4 : List AOper :=
  [.mk (some 15) (.mv (.tmp 1)) none [],.mk (some 16) (.bin .gtr (.tmp 15) (.const (.int .i64 0))) none [0]]
def l111r5 : List AOper :=
  [.mk (some 17) (.mv (.tmp 0)) none [],.mk (some 18) (.mv (.tmp 0)) none [],.mk (some 19) (.raw (Op.call (Call.mk (Callee.builtin Builtin.cap) (Array.mk [.tmp 18]) (Array.mk [23])))) none [1],.mk (some 20) (.slice 1 (.tmp 17) none (some (.tmp 19))) none [0,2],.mk (some 21) (.mv (.tmp 1)) none [],.mk (some 22) (.raw (Op.call (Call.mk (Callee.builtin Builtin.append) (Array.mk [.tmp 20,.tmp 21]) (Array.mk [23,3])))) none [3,4],.mk (some 23) (.mv (.tmp 0)) none [],.mk (some 24) (.len (.tmp 23)) none [6],.mk (some 25) (.slice 1 (.tmp 22) none (some (.tmp 24))) none [5,7],.mk (some 0) (.mv (.tmp 25)) none [8,5,0,1,2,3,4,5,6,7,8]]
def l111r6 : List AOper :=
  [.mk (some 26) (.mv (.tmp 0)) none [],.mk (some 4) (.mv (.tmp 26)) none [0,0]]
def l111 : AFn :=
  (AFn.mk 27 2 (.seq (.reg l111r0) (.seq (.seq (.reg l111r1) (.cond (.tmp 6) (.reg l111r2) .skip)) (.seq (.seq (.reg l111r3) (.seq (.reg l111r4) (.cond (.tmp 16) (.reg l111r5) .skip))) (.seq (.reg l111r6) .ret)))) [.tmp 4])
theorem l111_eq : lowFn Try.prog 111 = some l111 := by kernel_rfl
def l127r0 : List AOper :=
  [.mk (some 4) (.mv (.const (.int .i64 0))) none []]
def l127r1 : List AOper :=
  [.mk (some 6) (.mv (.tmp 0)) none [],.mk (some 7) (.len (.tmp 6)) none [0],.mk (some 8) (.mv (.const (.int .i64 0))) none []]
def l127r2 : List AOper :=
  [.mk (some 9) (.bin .lss (.tmp 8) (.tmp 7)) none []]
def l127r3 : List AOper :=
  [.mk (some 10) (.mv (.tmp 8)) none [],.mk (some 5) (.mv (.tmp 10)) none [0,0]]
def l127r4 : List AOper :=
  [.mk (some 11) (.mv (.tmp 1)) none [],.mk (some 12) (.mv (.tmp 0)) none [],.mk (some 13) (.mv (.tmp 5)) none [],.mk (some 14) (.idxA 1 (.tmp 12) (.tmp 13)) none [1,2],.mk (some 15) (.load false 1 (.tmp 14)) none [3],.mk (some 16) (.bin .eql (.tmp 11) (.tmp 15)) none [0,4]]
def l127r5 : List AOper :=
  [.mk (some 17) (.mv (.tmp 5)) none [],.mk (some 4) (.mv (.tmp 17)) none [0,0]]
def l127r6 : List AOper :=
  [.mk (some 18) (.bin .add (.tmp 8) (.const (.int .i64 1))) none [],.mk (some 8) (.mv (.tmp 18)) none [0]]
def l127r7 : List AOper :=
  [.mk (some 4) (.mv (.const (.int .i64 (-1)))) none []]
def l127 : AFn :=
  (AFn.mk 19 2 (.seq (.reg l127r0) (.seq (.seq (.reg l127r1) (.block 0 (.loop (.seq (.reg l127r2) (.seq (.cond (.tmp 9) .skip (.exit 0)) (.seq (.block 1 (.seq (.reg l127r3) (.seq (.reg l127r4) (.cond (.tmp 16) (.seq (.reg l127r5) .ret) .skip)))) (.reg l127r6))))))) (.seq (.reg l127r7) .ret))) [.tmp 4])
theorem l127_eq : lowFn Try.prog 127 = some l127 := by kernel_rfl
end Go.Proofs.Ytejbfjmiidofcaa
