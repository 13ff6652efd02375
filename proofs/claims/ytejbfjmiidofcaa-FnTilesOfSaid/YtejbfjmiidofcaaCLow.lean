import Derived.Test.YtejbfjmiidofcaaCW3
import Derived.Test.YtejbfjmiidofcaaProg
import Derived.KernelRfl
set_option maxRecDepth 100000
namespace Go.Proofs.Ytejbfjmiidofcaa
open Vw Go
instance globs : Inhabited GlobT := ⟨⟨[]⟩⟩
attribute [push_cast] Bool.false_eq_true List.length_replicate
attribute [bitvec_to_nat] decide_eq_true_eq decide_eq_false_iff_not Bool.not_eq_true' Bool.not_eq_false' Bool.and_eq_true Bool.or_eq_true Bool.and_eq_false_iff Bool.or_eq_false_iff Int.not_le Int.not_lt bne_iff_ne ne_eq beq_iff_eq Bool.not_eq_true Bool.not_eq_false
theorem sd {P : Prop} (h : P := by first | assumption | rfl | omega | (simp <;> omega) | (simp_all <;> omega)) : P := h
def l8r0 : List AOper :=
  [.mk (some 2) (.mv (.const (.bool false))) none []]
def l8r1 : List AOper :=
  [.mk (some 9) (.mv (.tmp 0)) none [],.mk (some 10) (.len (.tmp 9)) none [0],.mk (some 11) (.bin .gtr (.tmp 10) (.const (.int .i64 1048576))) none [1]]
def l8r2 : List AOper :=
  [.mk (some 2) (.mv (.const (.bool true))) none []]
def l8r3 : List AOper :=
  [.mk (some 13) (.mv (.tmp 0)) none [],.mk (some 14) (.call 29 [.tmp 13]) none [0],.mk (some 12) (.mv (.tmp 14)) none [1],.mk (some 15) (.extract (.tmp 12) 0) none [2],.mk (some 16) (.extract (.tmp 12) 1) none [2],.mk (some 3) (.mv (.tmp 15)) none [3,1,0,1,2,3],.mk (some 4) (.mv (.tmp 16)) none [4,5,0,1,2,3,4,5]]
def l8r4 : List AOper :=
  [.mk (some 17) (.mv (.tmp 3)) none [],.mk (some 18) (.mv (.tmp 4)) none [],.mk (some 19) (.call 30 [.tmp 17,.tmp 18]) none [0,1],.mk (some 5) (.mv (.tmp 19)) none [2,2,0,1,2]]
def l8r5 : List AOper :=
  [.mk (some 20) (.mv (.tmp 5)) none [],.mk (some 21) (.mv (.tmp 3)) none [],.mk (some 22) (.mv (.tmp 4)) none [],.mk (some 23) (.call 31 [.tmp 21,.tmp 22]) none [1,2],.mk (some 24) (.binB .neq (.tmp 20) (.tmp 23)) none [0,3],.mk (some 25) (.mv (.tmp 24)) none [4,3],.mk (some 26) (.mv (.tmp 5)) (some (25,false)) [5],.mk (some 27) (.un .not (.tmp 26)) (some (25,false)) [6,5],.mk (some 28) (.pick (.tmp 25) (.const (.bool true)) (.tmp 27)) none [5,7]]
def l8r6 : List AOper :=
  [.mk (some 29) (.mv (.tmp 5)) none [],.mk (some 30) (.mv (.tmp 3)) none [],.mk (some 31) (.mv (.tmp 4)) none [],.mk (some 32) (.call 31 [.tmp 30,.tmp 31]) none [1,2],.mk (some 33) (.binB .eql (.tmp 29) (.tmp 32)) none [0,3],.mk (some 2) (.mv (.tmp 33)) none [4,3,0,1,2,3,4]]
def l8r7 : List AOper :=
  [.mk (some 6) (.mv (.const (.int .i64 0))) none []]
def l8r8 : List AOper :=
  [.mk (some 34) (.mv (.tmp 6)) none [],.mk (some 35) (.mv (.tmp 4)) none [],.mk (some 36) (.bin .lss (.tmp 34) (.tmp 35)) none [0,1]]
def l8r9 : List AOper :=
  [.mk (some 39) (.mv (.tmp 3)) none [],.mk (some 40) (.mv (.tmp 6)) none [],.mk (some 41) (.call 32 [.tmp 39,.tmp 40]) none [0,1],.mk (some 42) (.len (.tmp 41)) none [2],.mk (some 43) (.bin .neq (.tmp 42) (.const (.int .i64 1))) none [3]]
def l8r10 : List AOper :=
  [.mk (some 2) (.mv (.const (.bool false))) none []]
def l8r11 : List AOper :=
  [.mk (some 37) (.mv (.tmp 6)) none [],.mk (some 38) (.bin .add (.tmp 37) (.const (.int .i64 1))) none [0],.mk (some 6) (.mv (.tmp 38)) none [1,0,1]]
def l8r12 : List AOper :=
  [.mk (some 7) (.mv (.const (.int .i64 0))) none []]
def l8r13 : List AOper :=
  [.mk (some 44) (.mv (.tmp 7)) none [],.mk (some 45) (.mv (.tmp 3)) none [],.mk (some 46) (.len (.tmp 45)) none [1],.mk (some 47) (.bin .lss (.tmp 44) (.tmp 46)) none [0,2]]
def l8r14 : List AOper :=
  [.mk (some 8) (.mv (.const (.int .i64 0))) none []]
def l8r15 : List AOper :=
  [.mk (some 50) (.mv (.tmp 8)) none [],.mk (some 51) (.mv (.tmp 7)) none [],.mk (some 52) (.bin .lss (.tmp 50) (.tmp 51)) none [0,1]]
def l8r16a : List AOper :=
  [.mk (some 55) (.mv (.tmp 3)) none [],.mk (some 56) (.mv (.tmp 7)) none [],.mk (some 57) (.idxA 3 (.tmp 55) (.tmp 56)) none [0,1],.mk (some 58) (.load true 3 (.tmp 57)) none [2],.mk (some 59) (.mv (.tmp 3)) none [],.mk (some 60) (.mv (.tmp 8)) none [],.mk (some 61) (.idxA 3 (.tmp 59) (.tmp 60)) none [4,5],.mk (some 62) (.load true 3 (.tmp 61)) none [6]]
def l8r16b : List AOper :=
  [.mk (some 63) (.call 33 [.tmp 58,.tmp 62]) none [3,7]]
def l8r16 : List AOper := l8r16a ++ l8r16b
def l8r17 : List AOper :=
  [.mk (some 2) (.mv (.const (.bool false))) none []]
def l8r18 : List AOper :=
  [.mk (some 53) (.mv (.tmp 8)) none [],.mk (some 54) (.bin .add (.tmp 53) (.const (.int .i64 1))) none [0],.mk (some 8) (.mv (.tmp 54)) none [1,0,1]]
def l8r19 : List AOper :=
  [.mk (some 64) (.mv (.tmp 3)) none [],.mk (some 65) (.mv (.tmp 7)) none [],.mk (some 66) (.idxA 3 (.tmp 64) (.tmp 65)) none [0,1],.mk (some 67) (.load true 3 (.tmp 66)) none [2],.mk (some 68) (.call 34 [.tmp 67]) none [3],.mk (some 69) (.un .not (.tmp 68)) none [4],.mk (some 70) (.mv (.tmp 69)) none [5,4],.mk (some 71) (.mv (.tmp 3)) (some (70,false)) [6],.mk (some 72) (.mv (.tmp 7)) (some (70,false)) [6],.mk (some 73) (.idxA 3 (.tmp 71) (.tmp 72)) (some (70,false)) [7,8,6],.mk (some 74) (.load true 3 (.tmp 73)) (some (70,false)) [9,6],.mk (some 75) (.mv (.tmp 4)) (some (70,false)) [6],.mk (some 76) (.call 35 [.tmp 74,.tmp 75]) (some (70,false)) [10,11,6,6],.mk (some 77) (.un .not (.tmp 76)) (some (70,false)) [12,6],.mk (some 78) (.pick (.tmp 70) (.const (.bool true)) (.tmp 77)) none [6,13]]
def l8r20 : List AOper :=
  [.mk (some 2) (.mv (.const (.bool false))) none []]
def l8r21 : List AOper :=
  [.mk (some 48) (.mv (.tmp 7)) none [],.mk (some 49) (.bin .add (.tmp 48) (.const (.int .i64 1))) none [0],.mk (some 7) (.mv (.tmp 49)) none [1,0,1]]
def l8r22 : List AOper :=
  [.mk (some 2) (.mv (.const (.bool true))) none []]
def l8 : AFn :=
  (AFn.mk 79 1 (.seq (.reg l8r0) (.seq (.seq (.reg l8r1) (.cond (.tmp 11) (.seq (.reg l8r2) .ret) .skip)) (.seq (.reg l8r3) (.seq (.reg l8r4) (.seq (.seq (.reg l8r5) (.cond (.tmp 28) (.seq (.reg l8r6) .ret) .skip)) (.seq (.seq (.reg l8r7) (.block 0 (.loop (.seq (.seq (.reg l8r8) (.cond (.tmp 36) .skip (.exit 0))) (.seq (.block 1 (.seq (.reg l8r9) (.cond (.tmp 43) (.seq (.reg l8r10) .ret) .skip))) (.reg l8r11)))))) (.seq (.seq (.reg l8r12) (.block 2 (.loop (.seq (.seq (.reg l8r13) (.cond (.tmp 47) .skip (.exit 2))) (.seq (.block 3 (.seq (.seq (.reg l8r14) (.block 4 (.loop (.seq (.seq (.reg l8r15) (.cond (.tmp 52) .skip (.exit 4))) (.seq (.block 5 (.seq (.draw l8r16) (.cond (.tmp 63) (.seq (.reg l8r17) .ret) .skip))) (.reg l8r18)))))) (.seq (.reg l8r19) (.cond (.tmp 78) (.seq (.reg l8r20) .ret) .skip)))) (.reg l8r21)))))) (.seq (.reg l8r22) .ret)))))))) [.tmp 2])
theorem l8_eq : lowFn Try.prog 8 = some l8 := by kernel_rfl
def l29r0 : List AOper :=
  [.mk (some 2) (.mv (.const (.slice none 0 0))) none [],.mk (some 3) (.mv (.const (.int .i64 0))) none [0]]
def l29r1 : List AOper :=
  [.mk (some 4) (.mv (.tmp 0)) none [],.mk (some 5) (.call 40 [.tmp 4]) none [0],.mk (some 6) (.call 61 [.tmp 5]) none [1,1],.mk (some 7) (.extract (.tmp 6) 0) none [2],.mk (some 8) (.extract (.tmp 6) 1) none [2],.mk (some 2) (.mv (.tmp 7)) none [3,2,0,1,2,3,4],.mk (some 3) (.mv (.tmp 8)) none [4,5,0,1,2,3,4,5]]
def l29 : AFn :=
  (AFn.mk 9 1 (.seq (.reg l29r0) (.seq (.reg l29r1) .ret)) [.tmp 2,.tmp 3])
theorem l29_eq : lowFn Try.prog 29 = some l29 := by kernel_rfl
def l30r0 : List AOper :=
  [.mk (some 4) (.mv (.const (.bool false))) none []]
def l30r1 : List AOper :=
  [.mk (some 7) (.mv (.tmp 0)) none [],.mk (some 8) (.call 62 [.tmp 7]) none [0],.mk (some 9) (.un .not (.tmp 8)) none [1],.mk (some 10) (.mv (.tmp 9)) none [2,1],.mk (some 11) (.mv (.tmp 1)) (some (10,false)) [3],.mk (some 12) (.call 63 [.tmp 11]) (some (10,false)) [4,3,3],.mk (some 13) (.un .not (.tmp 12)) (some (10,false)) [5,3],.mk (some 14) (.pick (.tmp 10) (.const (.bool true)) (.tmp 13)) none [3,6]]
def l30r2 : List AOper :=
  [.mk (some 4) (.mv (.const (.bool false))) none []]
def l30r3 : List AOper :=
  [.mk (some 15) (.mv (.tmp 0)) none [],.mk (some 16) (.call 64 [.tmp 15]) none [0],.mk (some 5) (.mv (.tmp 16)) none [1,1,0,1]]
def l30r4 : List AOper :=
  [.mk (some 17) (.mv (.tmp 1)) none [],.mk (some 18) (.call 65 [.const (.int .i64 0),.const (.int .i64 1),.tmp 17]) none [0],.mk (some 19) (.call 66 [.tmp 18]) none [1,1],.mk (some 6) (.mv (.tmp 19)) none [2,2,0,1,2]]
def l30r5 : List AOper :=
  [.mk (some 20) (.mv (.tmp 5)) none [],.mk (some 21) (.call 68 [.tmp 20,.const (.int .i64 1)]) none [0],.mk (some 22) (.mv (.tmp 6)) none [],.mk (some 23) (.call 67 [.tmp 21,.tmp 22]) none [1,2,1],.mk (some 24) (.mv (.tmp 23)) none [3,3],.mk (some 25) (.mv (.tmp 5)) (some (24,true)) [4],.mk (some 26) (.call 68 [.tmp 25,.const (.int .i64 2)]) (some (24,true)) [5,4,4],.mk (some 27) (.len (.tmp 26)) (some (24,true)) [6,4],.mk (some 28) (.bin .eql (.tmp 27) (.const (.int .i64 0))) (some (24,true)) [7,4],.mk (some 29) (.pick (.tmp 24) (.tmp 28) (.const (.bool false))) none [4,8],.mk (some 4) (.mv (.tmp 29)) none [9,6,0,1,2,3,4,5,6,7,8,9]]
def l30 : AFn :=
  (AFn.mk 30 2 (.seq (.reg l30r0) (.seq (.seq (.reg l30r1) (.cond (.tmp 14) (.seq (.reg l30r2) .ret) .skip)) (.seq (.reg l30r3) (.seq (.reg l30r4) (.seq (.reg l30r5) .ret))))) [.tmp 4])
theorem l30_eq : lowFn Try.prog 30 = some l30 := by kernel_rfl
def l31r0 : List AOper :=
  [.mk (some 4) (.mv (.const (.bool false))) none []]
def l31r1 : List AOper :=
  [.mk (some 7) (.mv (.tmp 0)) none [],.mk (some 8) (.call 69 [.tmp 7]) none [0],.mk (some 9) (.un .not (.tmp 8)) none [1],.mk (some 10) (.mv (.tmp 9)) none [2,1],.mk (some 11) (.mv (.tmp 1)) (some (10,false)) [3],.mk (some 12) (.call 57 [.tmp 11,.const (.int .i64 0),.const (.int .i64 60)]) (some (10,false)) [4,3,3],.mk (some 13) (.un .not (.tmp 12)) (some (10,false)) [5,3],.mk (some 14) (.pick (.tmp 10) (.const (.bool true)) (.tmp 13)) none [3,6]]
def l31r2 : List AOper :=
  [.mk (some 4) (.mv (.const (.bool false))) none []]
def l31r3 : List AOper :=
  [.mk (some 15) (.bslice 1 [.int .i64 0] [] 0) none [],.mk (some 5) (.mv (.tmp 15)) none [0,0]]
def l31r4 : List AOper :=
  [.mk (some 6) (.mv (.const (.int .i64 0))) none []]
def l31r5 : List AOper :=
  [.mk (some 16) (.mv (.tmp 6)) none [],.mk (some 17) (.mv (.tmp 0)) none [],.mk (some 18) (.len (.tmp 17)) none [1],.mk (some 19) (.bin .lss (.tmp 16) (.tmp 18)) none [0,2]]
def l31r6 : List AOper :=
  [.mk (some 22) (.mv (.tmp 5)) none [],.mk (some 23) (.mv (.tmp 0)) none [],.mk (some 24) (.mv (.tmp 6)) none [],.mk (some 25) (.idxA 3 (.tmp 23) (.tmp 24)) none [1,2],.mk (some 26) (.load true 3 (.tmp 25)) none [3],.mk (some 27) (.call 70 [.tmp 26]) none [4],.mk (some 28) (.append 1 (.tmp 22) (.tmp 27)) none [0,5,5],.mk (some 5) (.mv (.tmp 28)) none [6,6,0,1,2,3,4,5,6]]
def l31r7 : List AOper :=
  [.mk (some 20) (.mv (.tmp 6)) none [],.mk (some 21) (.bin .add (.tmp 20) (.const (.int .i64 1))) none [0],.mk (some 6) (.mv (.tmp 21)) none [1,0,1]]
def l31r8 : List AOper :=
  [.mk (some 29) (.mv (.tmp 5)) none [],.mk (some 30) (.call 71 [.tmp 29]) none [0],.mk (some 31) (.mv (.tmp 30)) none [1,1],.mk (some 32) (.mv (.tmp 5)) (some (31,true)) [2],.mk (some 33) (.mv (.tmp 1)) (some (31,true)) [2],.mk (some 34) (.bin .sub (.tmp 33) (.const (.int .i64 1))) (some (31,true)) [4,2],.mk (some 35) (.call 56 [.tmp 32,.const (.int .i64 0),.tmp 34]) (some (31,true)) [3,5,2,2],.mk (some 36) (.pick (.tmp 31) (.tmp 35) (.const (.bool false))) none [2,6],.mk (some 37) (.mv (.tmp 36)) none [7,6],.mk (some 38) (.mv (.tmp 5)) (some (37,true)) [8],.mk (some 39) (.len (.tmp 38)) (some (37,true)) [9,8],.mk (some 40) (.mv (.tmp 1)) (some (37,true)) [8],.mk (some 41) (.bin .eql (.tmp 39) (.tmp 40)) (some (37,true)) [10,11,8],.mk (some 42) (.pick (.tmp 37) (.tmp 41) (.const (.bool false))) none [8,12],.mk (some 4) (.mv (.tmp 42)) none [13,8,0,1,2,3,4,5,6,7,8,9,10,11,12,13]]
def l31 : AFn :=
  (AFn.mk 43 2 (.seq (.reg l31r0) (.seq (.seq (.reg l31r1) (.cond (.tmp 14) (.seq (.reg l31r2) .ret) .skip)) (.seq (.reg l31r3) (.seq (.seq (.reg l31r4) (.block 0 (.loop (.seq (.seq (.reg l31r5) (.cond (.tmp 19) .skip (.exit 0))) (.seq (.block 1 (.reg l31r6)) (.reg l31r7)))))) (.seq (.reg l31r8) .ret))))) [.tmp 4])
theorem l31_eq : lowFn Try.prog 31 = some l31 := by kernel_rfl
def l32r0 : List AOper :=
  [.mk (some 4) (.mv (.const (.slice none 0 0))) none []]
def l32r1 : List AOper :=
  [.mk (some 9) (.mv (.tmp 0)) none [],.mk (some 10) (.call 62 [.tmp 9]) none [0],.mk (some 11) (.un .not (.tmp 10)) none [1]]
def l32r2 : List AOper :=
  [.mk (some 4) (.mv (.const (.slice none 0 0))) none []]
def l32r3 : List AOper :=
  [.mk (some 5) (.mv (.const (.slice none 0 0))) none []]
def l32r4 : List AOper :=
  [.mk (some 12) (.raw (Op.makeMap 81 none)) none [],.mk (some 6) (.mv (.tmp 12)) none [0,0]]
def l32r5 : List AOper :=
  [.mk (some 13) (.mv (.tmp 0)) none [],.mk (some 14) (.len (.tmp 13)) none [0],.mk (some 15) (.mv (.const (.int .i64 0))) none []]
def l32r6 : List AOper :=
  [.mk (some 16) (.bin .lss (.tmp 15) (.tmp 14)) none []]
def l32r7 : List AOper :=
  [.mk (some 17) (.mv (.tmp 15)) none [],.mk (some 18) (.idxA 3 (.tmp 13) (.tmp 15)) none [],.mk (some 19) (.load true 3 (.tmp 18)) none [1],.mk (some 8) (.alloc [.int .i64 0,.slice none 0 0,.slice none 0 0]) none [],.mk (some 7) (.mv (.tmp 17)) none [0,0,1,2,3],.mk none (.store 3 (.tmp 8) (.tmp 19)) none [3,2,4,0,1,2,3,4]]
def l32r8 : List AOper :=
  [.mk (some 20) (.mv (.tmp 6)) none [],.mk none (.raw (Op.call (Call.mk (Callee.builtin Builtin.clear) (Array.mk [.tmp 20]) (Array.mk [81])))) none [0]]
def l32r9 : List AOper :=
  [.mk (some 21) (.mv (.tmp 6)) none [],.mk (some 22) (.load true 3 (.tmp 8)) none [],.mk (some 23) (.call 73 [.tmp 22]) none [1],.mk (some 24) (.call 72 [.tmp 21,.tmp 23]) none [0,2,2]]
def l32r10 : List AOper :=
  [.mk (some 25) (.mv (.tmp 6)) none [],.mk (some 26) (.mv (.tmp 1)) none [],.mk (some 27) (.raw (Op.lookup 81 (.tmp 25) (.tmp 26) false)) none [0,1],.mk (some 28) (.bin .gtr (.tmp 27) (.const (.int .i64 0))) none [2]]
def l32r11 : List AOper :=
  [.mk (some 29) (.mv (.tmp 5)) none [],.mk (some 30) (.mv (.tmp 7)) none [],.mk (some 31) (.bslice 1 [.int .i64 0] [(0,.tmp 30)] 1) none [1],.mk (some 32) (.append 1 (.tmp 29) (.tmp 31)) none [0,2],.mk (some 5) (.mv (.tmp 32)) none [3,3,0,1,2,3]]
def l32r12 : List AOper :=
  [.mk (some 33) (.bin .add (.tmp 15) (.const (.int .i64 1))) none [],.mk (some 15) (.mv (.tmp 33)) none [0]]
def l32r13 : List AOper :=
  [.mk (some 34) (.mv (.tmp 5)) none [],.mk (some 4) (.mv (.tmp 34)) none [0,0]]
def l32 : AFn :=
  (AFn.mk 35 2 (.seq (.reg l32r0) (.seq (.seq (.reg l32r1) (.cond (.tmp 11) (.seq (.reg l32r2) .ret) .skip)) (.seq (.reg l32r3) (.seq (.reg l32r4) (.seq (.seq (.reg l32r5) (.block 0 (.loop (.seq (.reg l32r6) (.seq (.cond (.tmp 16) .skip (.exit 0)) (.seq (.block 1 (.seq (.reg l32r7) (.seq (.reg l32r8) (.seq (.reg l32r9) (.seq (.reg l32r10) (.cond (.tmp 28) (.reg l32r11) .skip)))))) (.reg l32r12))))))) (.seq (.reg l32r13) .ret)))))) [.tmp 4])
theorem l32_eq : lowFn Try.prog 32 = some l32 := by kernel_rfl
def l33r0 : List AOper :=
  [.mk (some 2) (.box (.tmp 0)) none [],.mk (some 3) (.box (.tmp 1)) none [],.mk (some 4) (.mv (.const (.bool false))) none []]
def l33r1 : List AOper :=
  [.mk (some 5) (.load true 3 (.tmp 2)) none [],.mk (some 6) (.load true 3 (.tmp 3)) none [],.mk (some 7) (.call 74 [.tmp 5,.tmp 6]) none [0,1],.mk (some 8) (.len (.tmp 7)) none [2],.mk (some 9) (.bin .gtr (.tmp 8) (.const (.int .i64 0))) none [3],.mk (some 4) (.mv (.tmp 9)) none [4,2,0,1,2,3,4]]
def l33 : AFn :=
  (AFn.mk 10 2 (.seq (.reg l33r0) (.seq (.reg l33r1) .ret)) [.tmp 4])
theorem l33_eq : lowFn Try.prog 33 = some l33 := by kernel_rfl
def l34r0 : List AOper :=
  [.mk (some 1) (.box (.tmp 0)) none [],.mk (some 2) (.mv (.const (.bool false))) none []]
def l34r1 : List AOper :=
  [.mk (some 6) (.load true 3 (.tmp 1)) none [],.mk (some 7) (.call 75 [.tmp 6]) none [0],.mk (some 8) (.un .not (.tmp 7)) none [1]]
def l34r2 : List AOper :=
  [.mk (some 2) (.mv (.const (.bool false))) none []]
def l34r3 : List AOper :=
  [.mk (some 3) (.alloc [.bool false,.bool false,.bool false,.bool false,.bool false,.bool false,.bool false,.bool false,.bool false,.bool false,.bool false,.bool false,.bool false,.bool false,.bool false,.bool false,.bool false,.bool false,.bool false,.bool false,.bool false,.bool false,.bool false,.bool false,.bool false,.bool false,.bool false,.bool false,.bool false,.bool false,.bool false,.bool false,.bool false,.bool false,.bool false,.bool false,.bool false,.bool false,.bool false,.bool false,.bool false,.bool false,.bool false,.bool false,.bool false,.bool false,.bool false,.bool false,.bool false,.bool false,.bool false,.bool false,.bool false,.bool false,.bool false,.bool false,.bool false,.bool false,.bool false,.bool false]) none []]
def l34r4 : List AOper :=
  [.mk (some 9) (.load true 3 (.tmp 1)) none [],.mk (some 10) (.call 73 [.tmp 9]) none [0],.mk (some 11) (.len (.tmp 10)) none [1],.mk (some 12) (.mv (.const (.int .i64 0))) none []]
def l34r5 : List AOper :=
  [.mk (some 13) (.bin .lss (.tmp 12) (.tmp 11)) none []]
def l34r6 : List AOper :=
  [.mk (some 14) (.idxA 1 (.tmp 10) (.tmp 12)) none [],.mk (some 15) (.load false 1 (.tmp 14)) none [0],.mk (some 5) (.mv (.tmp 15)) none [1,0,1]]
def l34r7 : List AOper :=
  [.mk (some 16) (.mv (.tmp 5)) none [],.mk (some 17) (.idxP 1 60 (.tmp 3) (.tmp 16)) none [0],.mk (some 18) (.load false 1 (.tmp 17)) none [1]]
def l34r8 : List AOper :=
  [.mk (some 2) (.mv (.const (.bool false))) none []]
def l34r9 : List AOper :=
  [.mk (some 19) (.mv (.tmp 5)) none [],.mk (some 20) (.idxP 1 60 (.tmp 3) (.tmp 19)) none [0,0],.mk none (.store 1 (.tmp 20) (.const (.bool true))) none [1,0]]
def l34r10 : List AOper :=
  [.mk (some 21) (.bin .add (.tmp 12) (.const (.int .i64 1))) none [],.mk (some 12) (.mv (.tmp 21)) none [0]]
def l34r11 : List AOper :=
  [.mk (some 2) (.mv (.const (.bool true))) none []]
def l34 : AFn :=
  (AFn.mk 22 1 (.seq (.reg l34r0) (.seq (.seq (.reg l34r1) (.cond (.tmp 8) (.seq (.reg l34r2) .ret) .skip)) (.seq (.reg l34r3) (.seq (.seq (.reg l34r4) (.block 0 (.loop (.seq (.reg l34r5) (.seq (.cond (.tmp 13) .skip (.exit 0)) (.seq (.block 1 (.seq (.reg l34r6) (.seq (.seq (.reg l34r7) (.cond (.tmp 18) (.seq (.reg l34r8) .ret) .skip)) (.reg l34r9)))) (.reg l34r10))))))) (.seq (.reg l34r11) .ret))))) [.tmp 2])
theorem l34_eq : lowFn Try.prog 34 = some l34 := by kernel_rfl
def l35r0 : List AOper :=
  [.mk (some 2) (.box (.tmp 0)) none [],.mk (some 4) (.mv (.const (.bool false))) none []]
def l35r1 : List AOper :=
  [.mk (some 7) (.load true 3 (.tmp 2)) none [],.mk (some 8) (.call 75 [.tmp 7]) none [0],.mk (some 9) (.un .not (.tmp 8)) none [1],.mk (some 10) (.mv (.tmp 9)) none [2,1],.mk (some 11) (.mv (.tmp 1)) (some (10,false)) [3],.mk (some 12) (.call 76 [.tmp 11,.const (.int .i64 60)]) (some (10,false)) [4,3,3],.mk (some 13) (.un .not (.tmp 12)) (some (10,false)) [5,3],.mk (some 14) (.pick (.tmp 10) (.const (.bool true)) (.tmp 13)) none [3,6]]
def l35r2 : List AOper :=
  [.mk (some 4) (.mv (.const (.bool false))) none []]
def l35r3 : List AOper :=
  [.mk (some 16) (.load true 3 (.tmp 2)) none [],.mk (some 17) (.call 77 [.tmp 16]) none [0],.mk (some 15) (.mv (.tmp 17)) none [1],.mk (some 18) (.extract (.tmp 15) 0) none [2],.mk (some 19) (.extract (.tmp 15) 1) none [2],.mk (some 5) (.mv (.tmp 18)) none [3,1,0,1,2,3],.mk (some 6) (.mv (.tmp 19)) none [4,5,0,1,2,3,4,5]]
def l35r4 : List AOper :=
  [.mk (some 20) (.mv (.tmp 6)) none [],.mk (some 21) (.mv (.tmp 1)) none [],.mk (some 22) (.bin .lss (.tmp 20) (.tmp 21)) none [0,1],.mk (some 4) (.mv (.tmp 22)) none [2,0,1,2]]
def l35 : AFn :=
  (AFn.mk 23 2 (.seq (.reg l35r0) (.seq (.seq (.reg l35r1) (.cond (.tmp 14) (.seq (.reg l35r2) .ret) .skip)) (.seq (.reg l35r3) (.seq (.reg l35r4) .ret)))) [.tmp 4])
theorem l35_eq : lowFn Try.prog 35 = some l35 := by kernel_rfl
def l40r0 : List AOper :=
  [.mk (some 2) (.mv (.const (.pointer none))) none []]
def l40r1 : List AOper :=
  [.mk (some 3) (.mv (.tmp 0)) none [],.mk (some 4) (.len (.tmp 3)) none [0],.mk (some 5) (.bin .gtr (.tmp 4) (.const (.int .i64 2000))) none [1]]
def l40r2 : List AOper :=
  [.mk (some 6) (.mv (.tmp 0)) none [],.mk (some 7) (.slice 1 (.tmp 6) none (some (.const (.int .i64 2000)))) none [0],.mk (some 0) (.mv (.tmp 7)) none [1,0,1]]
def l40r3 : List AOper :=
  [.mk (some 8) (.mv (.tmp 0)) none [],.mk (some 9) (.build [.slice none 0 0,.int .i64 0] [(0,1,.tmp 8)]) none [0],.mk (some 10) (.box (.tmp 9)) none [1],.mk (some 2) (.mv (.tmp 10)) none [2,0,1,2]]
def l40 : AFn :=
  (AFn.mk 11 1 (.seq (.reg l40r0) (.seq (.seq (.reg l40r1) (.cond (.tmp 5) (.reg l40r2) .skip)) (.seq (.reg l40r3) .ret))) [.tmp 2])
theorem l40_eq : lowFn Try.prog 40 = some l40 := by kernel_rfl
def l41r0 : List AOper :=
  [.mk (some 2) (.mv (.const (.bool false))) none []]
def l41r1 : List AOper :=
  [.mk (some 5) (.mv (.tmp 0)) none [],.mk (some 6) (.len (.tmp 5)) none [0],.mk (some 7) (.bin .gtr (.tmp 6) (.const (.int .i64 4))) none [1]]
def l41r2 : List AOper :=
  [.mk (some 2) (.mv (.const (.bool false))) none []]
def l41r3 : List AOper :=
  [.mk (some 8) (.mv (.tmp 0)) none [],.mk (some 9) (.len (.tmp 8)) none [0],.mk (some 10) (.mv (.const (.int .i64 0))) none []]
def l41r4 : List AOper :=
  [.mk (some 11) (.bin .lss (.tmp 10) (.tmp 9)) none []]
def l41r5 : List AOper :=
  [.mk (some 12) (.idxA 1 (.tmp 8) (.tmp 10)) none [],.mk (some 13) (.load false 1 (.tmp 12)) none [0],.mk (some 4) (.mv (.tmp 13)) none [1,0,1]]
def l41r6 : List AOper :=
  [.mk (some 14) (.mv (.tmp 4)) none [],.mk (some 15) (.call 76 [.tmp 14,.const (.int .i64 60)]) none [0],.mk (some 16) (.un .not (.tmp 15)) none [1]]
def l41r7 : List AOper :=
  [.mk (some 2) (.mv (.const (.bool false))) none []]
def l41r8 : List AOper :=
  [.mk (some 17) (.bin .add (.tmp 10) (.const (.int .i64 1))) none [],.mk (some 10) (.mv (.tmp 17)) none [0]]
def l41r9 : List AOper :=
  [.mk (some 18) (.mv (.tmp 0)) none [],.mk (some 19) (.call 42 [.tmp 18]) none [0],.mk (some 20) (.bin .leq (.tmp 19) (.const (.int .i64 60))) none [1],.mk (some 2) (.mv (.tmp 20)) none [2,1,0,1,2]]
def l41 : AFn :=
  (AFn.mk 21 1 (.seq (.reg l41r0) (.seq (.seq (.reg l41r1) (.cond (.tmp 7) (.seq (.reg l41r2) .ret) .skip)) (.seq (.seq (.reg l41r3) (.block 0 (.loop (.seq (.reg l41r4) (.seq (.cond (.tmp 11) .skip (.exit 0)) (.seq (.block 1 (.seq (.reg l41r5) (.seq (.reg l41r6) (.cond (.tmp 16) (.seq (.reg l41r7) .ret) .skip)))) (.reg l41r8))))))) (.seq (.reg l41r9) .ret)))) [.tmp 2])
theorem l41_eq : lowFn Try.prog 41 = some l41 := by kernel_rfl
def l42r0 : List AOper :=
  [.mk (some 2) (.mv (.const (.int .i64 0))) none []]
def l42r1 : List AOper :=
  [.mk (some 3) (.mv (.const (.int .i64 1))) none []]
def l42r2 : List AOper :=
  [.mk (some 6) (.mv (.tmp 0)) none [],.mk (some 7) (.len (.tmp 6)) none [0],.mk (some 8) (.mv (.const (.int .i64 0))) none []]
def l42r3 : List AOper :=
  [.mk (some 9) (.bin .lss (.tmp 8) (.tmp 7)) none []]
def l42r4 : List AOper :=
  [.mk (some 10) (.idxA 1 (.tmp 6) (.tmp 8)) none [],.mk (some 11) (.load false 1 (.tmp 10)) none [0],.mk (some 5) (.mv (.tmp 11)) none [1,0,1]]
def l42r5 : List AOper :=
  [.mk (some 12) (.mv (.tmp 3)) none [],.mk (some 13) (.mv (.tmp 5)) none [],.mk (some 14) (.bin .mul (.tmp 12) (.tmp 13)) none [0,1],.mk (some 3) (.mv (.tmp 14)) none [2,0,1,2]]
def l42r6 : List AOper :=
  [.mk (some 15) (.bin .add (.tmp 8) (.const (.int .i64 1))) none [],.mk (some 8) (.mv (.tmp 15)) none [0]]
def l42r7 : List AOper :=
  [.mk (some 16) (.mv (.tmp 3)) none [],.mk (some 2) (.mv (.tmp 16)) none [0,0]]
def l42 : AFn :=
  (AFn.mk 17 1 (.seq (.reg l42r0) (.seq (.reg l42r1) (.seq (.seq (.reg l42r2) (.block 0 (.loop (.seq (.reg l42r3) (.seq (.cond (.tmp 9) .skip (.exit 0)) (.seq (.block 1 (.seq (.reg l42r4) (.reg l42r5))) (.reg l42r6))))))) (.seq (.reg l42r7) .ret)))) [.tmp 2])
theorem l42_eq : lowFn Try.prog 42 = some l42 := by kernel_rfl
def l43r0 : List AOper :=
  [.mk (some 4) (.mv (.const (.bool false))) none []]
def l43r1 : List AOper :=
  [.mk (some 5) (.mv (.tmp 1)) none [],.mk (some 6) (.un .neg (.tmp 5)) none [0],.mk (some 7) (.mv (.tmp 0)) none [],.mk (some 8) (.bin .leq (.tmp 6) (.tmp 7)) none [1,2],.mk (some 9) (.mv (.tmp 8)) none [3],.mk (some 10) (.mv (.tmp 0)) (some (9,true)) [4],.mk (some 11) (.mv (.tmp 1)) (some (9,true)) [4],.mk (some 12) (.bin .leq (.tmp 10) (.tmp 11)) (some (9,true)) [5,6,4],.mk (some 13) (.pick (.tmp 9) (.tmp 12) (.const (.bool false))) none [4,7],.mk (some 4) (.mv (.tmp 13)) none [8,4,0,1,2,3,4,5,6,7,8]]
def l43 : AFn :=
  (AFn.mk 14 2 (.seq (.reg l43r0) (.seq (.reg l43r1) .ret)) [.tmp 4])
theorem l43_eq : lowFn Try.prog 43 = some l43 := by kernel_rfl
def l46r0 : List AOper :=
  [.mk (some 4) (.mv (.const (.int .i64 0))) none []]
def l46r1 : List AOper :=
  [.mk (some 5) (.mv (.tmp 1)) none [],.mk (some 6) (.mv (.tmp 0)) none [],.mk (some 7) (.mv (.tmp 1)) none [],.mk (some 8) (.len (.tmp 7)) none [2],.mk (some 9) (.call 78 [.tmp 6,.tmp 8]) none [1,3],.mk (some 10) (.idxA 1 (.tmp 5) (.tmp 9)) none [0,4],.mk (some 11) (.load false 1 (.tmp 10)) none [5],.mk (some 4) (.mv (.tmp 11)) none [6,4,0,1,2,3,4,5,6]]
def l46 : AFn :=
  (AFn.mk 12 2 (.seq (.reg l46r0) (.seq (.reg l46r1) .ret)) [.tmp 4])
theorem l46_eq : lowFn Try.prog 46 = some l46 := by kernel_rfl
def l56r0 : List AOper :=
  [.mk (some 6) (.mv (.const (.bool false))) none []]
def l56r1 : List AOper :=
  [.mk (some 7) (.mv (.const (.int .i64 0))) none []]
def l56r2 : List AOper :=
  [.mk (some 8) (.mv (.tmp 7)) none [],.mk (some 9) (.mv (.tmp 0)) none [],.mk (some 10) (.len (.tmp 9)) none [1],.mk (some 11) (.bin .lss (.tmp 8) (.tmp 10)) none [0,2]]
def l56r3 : List AOper :=
  [.mk (some 14) (.mv (.tmp 0)) none [],.mk (some 15) (.mv (.tmp 7)) none [],.mk (some 16) (.idxA 1 (.tmp 14) (.tmp 15)) none [0,1],.mk (some 17) (.load false 1 (.tmp 16)) none [2],.mk (some 18) (.mv (.tmp 1)) none [],.mk (some 19) (.mv (.tmp 2)) none [],.mk (some 20) (.call 57 [.tmp 17,.tmp 18,.tmp 19]) none [3,4,5],.mk (some 21) (.un .not (.tmp 20)) none [6]]
def l56r4 : List AOper :=
  [.mk (some 6) (.mv (.const (.bool false))) none []]
def l56r5 : List AOper :=
  [.mk (some 12) (.mv (.tmp 7)) none [],.mk (some 13) (.bin .add (.tmp 12) (.const (.int .i64 1))) none [0],.mk (some 7) (.mv (.tmp 13)) none [1,0,1]]
def l56r6 : List AOper :=
  [.mk (some 6) (.mv (.const (.bool true))) none []]
def l56 : AFn :=
  (AFn.mk 22 3 (.seq (.reg l56r0) (.seq (.seq (.reg l56r1) (.block 0 (.loop (.seq (.seq (.reg l56r2) (.cond (.tmp 11) .skip (.exit 0))) (.seq (.block 1 (.seq (.reg l56r3) (.cond (.tmp 21) (.seq (.reg l56r4) .ret) .skip))) (.reg l56r5)))))) (.seq (.reg l56r6) .ret))) [.tmp 6])
theorem l56_eq : lowFn Try.prog 56 = some l56 := by kernel_rfl
def l57r0 : List AOper :=
  [.mk (some 6) (.mv (.const (.bool false))) none []]
def l57r1 : List AOper :=
  [.mk (some 7) (.mv (.tmp 1)) none [],.mk (some 8) (.mv (.tmp 0)) none [],.mk (some 9) (.bin .leq (.tmp 7) (.tmp 8)) none [0,1],.mk (some 10) (.mv (.tmp 9)) none [2],.mk (some 11) (.mv (.tmp 0)) (some (10,true)) [3],.mk (some 12) (.mv (.tmp 2)) (some (10,true)) [3],.mk (some 13) (.bin .leq (.tmp 11) (.tmp 12)) (some (10,true)) [4,5,3],.mk (some 14) (.pick (.tmp 10) (.tmp 13) (.const (.bool false))) none [3,6],.mk (some 6) (.mv (.tmp 14)) none [7,3,0,1,2,3,4,5,6,7]]
def l57 : AFn :=
  (AFn.mk 15 3 (.seq (.reg l57r0) (.seq (.reg l57r1) .ret)) [.tmp 6])
theorem l57_eq : lowFn Try.prog 57 = some l57 := by kernel_rfl
def l61r0 : List AOper :=
  [.mk (some 2) (.mv (.const (.slice none 0 0))) none [],.mk (some 3) (.mv (.const (.int .i64 0))) none [0]]
def l61r1 : List AOper :=
  [.mk (some 10) (.mv (.tmp 0)) none [],.mk (some 11) (.bslice 1 [.int .i64 0] [(0,.const (.int .i64 12)),(1,.const (.int .i64 8)),(2,.const (.int .i64 10)),(3,.const (.int .i64 6)),(4,.const (.int .i64 15))] 5) none [],.mk (some 12) (.call 46 [.tmp 10,.tmp 11]) none [0,1],.mk (some 4) (.mv (.tmp 12)) none [2,2,0,1,2]]
def l61r2 : List AOper :=
  [.mk (some 13) (.mv (.tmp 0)) none [],.mk (some 14) (.bslice 1 [.int .i64 0] [(0,.const (.int .i64 2)),(1,.const (.int .i64 3)),(2,.const (.int .i64 1)),(3,.const (.int .i64 4))] 4) none [],.mk (some 15) (.call 46 [.tmp 13,.tmp 14]) none [0,1],.mk (some 5) (.mv (.tmp 15)) none [2,2,0,1,2]]
def l61r3 : List AOper :=
  [.mk (some 16) (.bslice 3 [.int .i64 0,.slice none 0 0,.slice none 0 0] [] 0) none [],.mk (some 6) (.mv (.tmp 16)) none [0,0]]
def l61r4 : List AOper :=
  [.mk (some 17) (.mv (.tmp 4)) none [],.mk (some 18) (.build [.int .i64 0,.int .i64 0,.int .i64 0] [(1,1,.tmp 17),(2,1,.const (.int .i64 1))]) none [0],.mk (some 19) (.mv (.tmp 5)) none [],.mk (some 20) (.call 94 [.tmp 18,.tmp 19]) none [1,2],.mk (some 7) (.mv (.tmp 20)) none [3,3,0,1,2,3]]
def l61r5 : List AOper :=
  [.mk (some 8) (.mv (.const (.int .i64 0))) none []]
def l61r6 : List AOper :=
  [.mk (some 21) (.mv (.tmp 8)) none [],.mk (some 22) (.mv (.tmp 7)) none [],.mk (some 23) (.len (.tmp 22)) none [1],.mk (some 24) (.bin .lss (.tmp 21) (.tmp 23)) none [0,2]]
def l61r7 : List AOper :=
  [.mk (some 27) (.mv (.tmp 7)) none [],.mk (some 28) (.mv (.tmp 8)) none [],.mk (some 29) (.idxA 3 (.tmp 27) (.tmp 28)) none [0,1],.mk (some 30) (.load true 3 (.tmp 29)) none [2],.mk (some 31) (.call 95 [.tmp 30]) none [3],.mk (some 9) (.mv (.tmp 31)) none [4,4,0,1,2,3,4]]
def l61r8 : List AOper :=
  [.mk (some 32) (.mv (.tmp 9)) none [],.mk (some 33) (.len (.tmp 32)) none [0],.mk (some 34) (.bin .gtr (.tmp 33) (.const (.int .i64 0))) none [1]]
def l61r9 : List AOper :=
  [.mk (some 35) (.mv (.tmp 6)) none [],.mk (some 36) (.mv (.tmp 9)) none [],.mk (some 37) (.idxA 1 (.tmp 36) (.const (.int .i64 0))) none [1],.mk (some 38) (.load false 1 (.tmp 37)) none [2],.mk (some 39) (.mv (.tmp 9)) none [],.mk (some 40) (.len (.tmp 39)) none [4],.mk (some 41) (.bslice 1 [.int .i64 0] [(0,.tmp 40)] 1) none [5],.mk (some 42) (.mv (.tmp 5)) none [],.mk (some 43) (.bslice 1 [.int .i64 0] [(0,.tmp 42)] 1) none [7],.mk (some 44) (.build [.int .i64 0,.slice none 0 0,.slice none 0 0] [(0,1,.tmp 38),(1,1,.tmp 41),(2,1,.tmp 43)]) none [3,6,8],.mk (some 45) (.bslice 3 [.int .i64 0,.slice none 0 0,.slice none 0 0] [(0,.tmp 44)] 1) none [9],.mk (some 46) (.append 3 (.tmp 35) (.tmp 45)) none [0,10],.mk (some 6) (.mv (.tmp 46)) none [11,11,0,1,2,3,4,5,6,7,8,9,10,11]]
def l61r10 : List AOper :=
  [.mk (some 25) (.mv (.tmp 8)) none [],.mk (some 26) (.bin .add (.tmp 25) (.const (.int .i64 1))) none [0],.mk (some 8) (.mv (.tmp 26)) none [1,0,1]]
def l61r11 : List AOper :=
  [.mk (some 47) (.mv (.tmp 0)) none [],.mk (some 48) (.call 78 [.tmp 47,.const (.int .i64 4)]) none [0]]
def l61r12 : List AOper :=
  [.mk (some 50) (.bin .eql (.tmp 48) (.const (.int .i64 0))) none [],.mk (some 49) (.mv (.tmp 50)) none [0]]
def l61r13 : List AOper :=
  [.mk (some 51) (.mv (.tmp 6)) none [],.mk (some 52) (.mv (.tmp 0)) none [],.mk (some 53) (.call 96 [.tmp 52]) none [1],.mk (some 54) (.bslice 3 [.int .i64 0,.slice none 0 0,.slice none 0 0] [(0,.tmp 53)] 1) none [2],.mk (some 55) (.append 3 (.tmp 51) (.tmp 54)) none [0,3,2],.mk (some 6) (.mv (.tmp 55)) none [4,4,0,1,2,3,4]]
def l61r14 : List AOper :=
  [.mk (some 57) (.bin .eql (.tmp 48) (.const (.int .i64 1))) none [],.mk (some 56) (.mv (.tmp 57)) none [0]]
def l61r15 : List AOper :=
  [.mk (some 58) (.mv (.tmp 6)) none [],.mk (some 59) (.mv (.tmp 0)) none [],.mk (some 60) (.call 97 [.tmp 59]) none [1],.mk (some 61) (.idxA 3 (.tmp 58) (.const (.int .i64 0))) none [0,0,1,2],.mk none (.store 3 (.tmp 61) (.tmp 60)) none [3,2,2,0,1,2]]
def l61r16 : List AOper :=
  [.mk (some 62) (.mv (.tmp 6)) none [],.mk (some 63) (.mv (.tmp 0)) none [],.mk (some 64) (.mv (.tmp 4)) none [],.mk (some 65) (.mv (.tmp 4)) none [],.mk (some 66) (.mv (.tmp 4)) none [],.mk (some 67) (.mv (.tmp 4)) none [],.mk (some 68) (.bin .add (.tmp 67) (.const (.int .i64 1))) none [5],.mk (some 69) (.bslice 1 [.int .i64 0] [(0,.tmp 64),(1,.tmp 65),(2,.tmp 66),(3,.tmp 68),(4,.const (.int .i64 61))] 5) none [2,3,4,6],.mk (some 70) (.call 46 [.tmp 63,.tmp 69]) none [1,7],.mk (some 2) (.mv (.tmp 62)) none [0,8,0],.mk (some 3) (.mv (.tmp 70)) none [8,9,0,1,2,3,4,5,6,7,8,9]]
def l61 : AFn :=
  (AFn.mk 71 1 (.seq (.reg l61r0) (.seq (.reg l61r1) (.seq (.reg l61r2) (.seq (.reg l61r3) (.seq (.reg l61r4) (.seq (.seq (.reg l61r5) (.block 0 (.loop (.seq (.seq (.reg l61r6) (.cond (.tmp 24) .skip (.exit 0))) (.seq (.block 1 (.seq (.reg l61r7) (.seq (.reg l61r8) (.cond (.tmp 34) (.reg l61r9) .skip)))) (.reg l61r10)))))) (.seq (.seq (.reg l61r11) (.block 2 (.seq (.reg l61r12) (.cond (.tmp 49) (.reg l61r13) (.seq (.reg l61r14) (.cond (.tmp 56) (.reg l61r15) .skip)))))) (.seq (.reg l61r16) .ret)))))))) [.tmp 2,.tmp 3])
theorem l61_eq : lowFn Try.prog 61 = some l61 := by kernel_rfl
def l62r0 : List AOper :=
  [.mk (some 2) (.mv (.const (.bool false))) none []]
def l62r1 : List AOper :=
  [.mk (some 5) (.mv (.tmp 0)) none [],.mk (some 6) (.len (.tmp 5)) none [0],.mk (some 7) (.bin .gtr (.tmp 6) (.const (.int .i64 8))) none [1]]
def l62r2 : List AOper :=
  [.mk (some 2) (.mv (.const (.bool false))) none []]
def l62r3 : List AOper :=
  [.mk (some 8) (.mv (.tmp 0)) none [],.mk (some 9) (.len (.tmp 8)) none [0],.mk (some 10) (.mv (.const (.int .i64 0))) none []]
def l62r4 : List AOper :=
  [.mk (some 11) (.bin .lss (.tmp 10) (.tmp 9)) none []]
def l62r5 : List AOper :=
  [.mk (some 12) (.idxA 3 (.tmp 8) (.tmp 10)) none [],.mk (some 13) (.load true 3 (.tmp 12)) none [0],.mk (some 4) (.alloc [.int .i64 0,.slice none 0 0,.slice none 0 0]) none [],.mk none (.store 3 (.tmp 4) (.tmp 13)) none [2,1,0,1,2]]
def l62r6 : List AOper :=
  [.mk (some 14) (.load true 3 (.tmp 4)) none [],.mk (some 15) (.call 75 [.tmp 14]) none [0],.mk (some 16) (.un .not (.tmp 15)) none [1]]
def l62r7 : List AOper :=
  [.mk (some 2) (.mv (.const (.bool false))) none []]
def l62r8 : List AOper :=
  [.mk (some 17) (.bin .add (.tmp 10) (.const (.int .i64 1))) none [],.mk (some 10) (.mv (.tmp 17)) none [0]]
def l62r9 : List AOper :=
  [.mk (some 2) (.mv (.const (.bool true))) none []]
def l62 : AFn :=
  (AFn.mk 18 1 (.seq (.reg l62r0) (.seq (.seq (.reg l62r1) (.cond (.tmp 7) (.seq (.reg l62r2) .ret) .skip)) (.seq (.seq (.reg l62r3) (.block 0 (.loop (.seq (.reg l62r4) (.seq (.cond (.tmp 11) .skip (.exit 0)) (.seq (.block 1 (.seq (.reg l62r5) (.seq (.reg l62r6) (.cond (.tmp 16) (.seq (.reg l62r7) .ret) .skip)))) (.reg l62r8))))))) (.seq (.reg l62r9) .ret)))) [.tmp 2])
theorem l62_eq : lowFn Try.prog 62 = some l62 := by kernel_rfl
def l63r0 : List AOper :=
  [.mk (some 2) (.mv (.const (.bool false))) none []]
def l63r1 : List AOper :=
  [.mk (some 3) (.mv (.tmp 0)) none [],.mk (some 4) (.bin .leq (.const (.int .i64 0)) (.tmp 3)) none [0],.mk (some 5) (.mv (.tmp 4)) none [1],.mk (some 6) (.mv (.tmp 0)) (some (5,true)) [2],.mk (some 7) (.bin .leq (.tmp 6) (.const (.int .i64 60))) (some (5,true)) [3,2],.mk (some 8) (.pick (.tmp 5) (.tmp 7) (.const (.bool false))) none [2,4],.mk (some 2) (.mv (.tmp 8)) none [5,2,0,1,2,3,4,5]]
def l63 : AFn :=
  (AFn.mk 9 1 (.seq (.reg l63r0) (.seq (.reg l63r1) .ret)) [.tmp 2])
theorem l63_eq : lowFn Try.prog 63 = some l63 := by kernel_rfl
def l64r0 : List AOper :=
  [.mk (some 2) (.mv (.const (.map none))) none []]
def l64r1 : List AOper :=
  [.mk (some 6) (.raw (Op.makeMap 81 none)) none [],.mk (some 3) (.mv (.tmp 6)) none [0,0]]
def l64r2 : List AOper :=
  [.mk (some 7) (.mv (.tmp 0)) none [],.mk (some 8) (.len (.tmp 7)) none [0],.mk (some 9) (.mv (.const (.int .i64 0))) none []]
def l64r3 : List AOper :=
  [.mk (some 10) (.bin .lss (.tmp 9) (.tmp 8)) none []]
def l64r4 : List AOper :=
  [.mk (some 11) (.idxA 3 (.tmp 7) (.tmp 9)) none [],.mk (some 12) (.load true 3 (.tmp 11)) none [0],.mk (some 5) (.alloc [.int .i64 0,.slice none 0 0,.slice none 0 0]) none [],.mk none (.store 3 (.tmp 5) (.tmp 12)) none [2,1,0,1,2]]
def l64r5 : List AOper :=
  [.mk (some 13) (.mv (.tmp 3)) none [],.mk (some 14) (.load true 3 (.tmp 5)) none [],.mk (some 15) (.call 73 [.tmp 14]) none [1],.mk (some 16) (.call 72 [.tmp 13,.tmp 15]) none [0,2,2]]
def l64r6 : List AOper :=
  [.mk (some 17) (.bin .add (.tmp 9) (.const (.int .i64 1))) none [],.mk (some 9) (.mv (.tmp 17)) none [0]]
def l64r7 : List AOper :=
  [.mk (some 18) (.mv (.tmp 3)) none [],.mk (some 2) (.mv (.tmp 18)) none [0,0]]
def l64 : AFn :=
  (AFn.mk 19 1 (.seq (.reg l64r0) (.seq (.reg l64r1) (.seq (.seq (.reg l64r2) (.block 0 (.loop (.seq (.reg l64r3) (.seq (.cond (.tmp 10) .skip (.exit 0)) (.seq (.block 1 (.seq (.reg l64r4) (.reg l64r5))) (.reg l64r6))))))) (.seq (.reg l64r7) .ret)))) [.tmp 2])
theorem l64_eq : lowFn Try.prog 64 = some l64 := by kernel_rfl
def l65r0 : List AOper :=
  [.mk (some 6) (.alloc [.int .i64 0,.int .i64 0,.int .i64 0]) none []]
def l65r1 : List AOper :=
  [.mk (some 8) (.mv (.tmp 2)) none [],.mk (some 9) (.bin .lss (.tmp 8) (.const (.int .i64 1))) none [0]]
def l65r2 : List AOper :=
  [.mk (some 10) (.build [.int .i64 0,.int .i64 0,.int .i64 0] [(0,1,.const (.int .i64 0)),(1,1,.const (.int .i64 0)),(2,1,.const (.int .i64 1))]) none [],.mk none (.store 3 (.tmp 6) (.tmp 10)) none [0,0]]
def l65r3 : List AOper :=
  [.mk (some 11) (.mv (.tmp 2)) none [],.mk (some 12) (.bin .eql (.tmp 11) (.const (.int .i64 1))) none [0]]
def l65r4 : List AOper :=
  [.mk (some 13) (.mv (.tmp 0)) none [],.mk (some 14) (.mv (.tmp 0)) none [],.mk (some 15) (.bin .add (.tmp 14) (.const (.int .i64 1))) none [1],.mk (some 16) (.build [.int .i64 0,.int .i64 0,.int .i64 0] [(0,1,.tmp 13),(1,1,.tmp 15),(2,1,.const (.int .i64 1))]) none [0,2],.mk none (.store 3 (.tmp 6) (.tmp 16)) none [3,0,1,2,3]]
def l65r5 : List AOper :=
  [.mk (some 17) (.mv (.tmp 0)) none [],.mk (some 18) (.mv (.tmp 2)) none [],.mk (some 19) (.bin .sub (.tmp 18) (.const (.int .i64 1))) none [1],.mk (some 20) (.mv (.tmp 1)) none [],.mk (some 21) (.bin .mul (.tmp 19) (.tmp 20)) none [2,3],.mk (some 22) (.bin .add (.tmp 17) (.tmp 21)) none [0,4],.mk (some 7) (.mv (.tmp 22)) none [5,0,1,2,3,4,5]]
def l65r6 : List AOper :=
  [.mk (some 23) (.mv (.tmp 1)) none [],.mk (some 24) (.bin .lss (.tmp 23) (.const (.int .i64 0))) none [0]]
def l65r7 : List AOper :=
  [.mk (some 25) (.mv (.tmp 0)) none [],.mk (some 26) (.mv (.tmp 7)) none [],.mk (some 27) (.bin .sub (.tmp 26) (.const (.int .i64 1))) none [1],.mk (some 28) (.mv (.tmp 1)) none [],.mk (some 29) (.build [.int .i64 0,.int .i64 0,.int .i64 0] [(0,1,.tmp 25),(1,1,.tmp 27),(2,1,.tmp 28)]) none [0,2,3],.mk none (.store 3 (.tmp 6) (.tmp 29)) none [4,0,1,2,3,4]]
def l65r8 : List AOper :=
  [.mk (some 30) (.mv (.tmp 0)) none [],.mk (some 31) (.mv (.tmp 7)) none [],.mk (some 32) (.bin .add (.tmp 31) (.const (.int .i64 1))) none [1],.mk (some 33) (.mv (.tmp 1)) none [],.mk (some 34) (.build [.int .i64 0,.int .i64 0,.int .i64 0] [(0,1,.tmp 30),(1,1,.tmp 32),(2,1,.tmp 33)]) none [0,2,3],.mk none (.store 3 (.tmp 6) (.tmp 34)) none [4,0,1,2,3,4]]
def l65 : AFn :=
  (AFn.mk 35 3 (.seq (.reg l65r0) (.seq (.seq (.reg l65r1) (.cond (.tmp 9) (.seq (.reg l65r2) .ret) .skip)) (.seq (.seq (.reg l65r3) (.cond (.tmp 12) (.seq (.reg l65r4) .ret) .skip)) (.seq (.reg l65r5) (.seq (.seq (.reg l65r6) (.cond (.tmp 24) (.seq (.reg l65r7) .ret) .skip)) (.seq (.reg l65r8) .ret)))))) [.cell 6 true 3])
theorem l65_eq : lowFn Try.prog 65 = some l65 := by kernel_rfl
def l66r0 : List AOper :=
  [.mk (some 1) (.box (.tmp 0)) none [],.mk (some 2) (.mv (.const (.slice none 0 0))) none []]
def l66r1 : List AOper :=
  [.mk (some 5) (.load true 3 (.tmp 1)) none [],.mk (some 6) (.call 98 [.tmp 5]) none [0],.mk (some 7) (.mkslice 1 [.int .i64 0] (.tmp 6) (.tmp 6)) none [1,1],.mk (some 3) (.mv (.tmp 7)) none [2,1,0,1,2]]
def l66r2 : List AOper :=
  [.mk (some 8) (.mv (.tmp 3)) none [],.mk (some 9) (.len (.tmp 8)) none [0],.mk (some 10) (.mv (.const (.int .i64 0))) none []]
def l66r3 : List AOper :=
  [.mk (some 11) (.bin .lss (.tmp 10) (.tmp 9)) none []]
def l66r4 : List AOper :=
  [.mk (some 12) (.mv (.tmp 10)) none [],.mk (some 4) (.mv (.tmp 12)) none [0,0]]
def l66r5 : List AOper :=
  [.mk (some 13) (.mv (.tmp 3)) none [],.mk (some 14) (.mv (.tmp 4)) none [],.mk (some 15) (.load true 3 (.tmp 1)) none [],.mk (some 16) (.mv (.tmp 4)) none [],.mk (some 17) (.call 99 [.tmp 15,.tmp 16]) none [2,3],.mk (some 18) (.idxA 1 (.tmp 13) (.tmp 14)) none [0,1,0,1,2,3,4],.mk none (.store 1 (.tmp 18) (.tmp 17)) none [5,4,4,0,1,2,3,4]]
def l66r6 : List AOper :=
  [.mk (some 19) (.bin .add (.tmp 10) (.const (.int .i64 1))) none [],.mk (some 10) (.mv (.tmp 19)) none [0]]
def l66r7 : List AOper :=
  [.mk (some 20) (.mv (.tmp 3)) none [],.mk (some 2) (.mv (.tmp 20)) none [0,0]]
def l66 : AFn :=
  (AFn.mk 21 1 (.seq (.reg l66r0) (.seq (.reg l66r1) (.seq (.seq (.reg l66r2) (.block 0 (.loop (.seq (.reg l66r3) (.seq (.cond (.tmp 11) .skip (.exit 0)) (.seq (.block 1 (.seq (.reg l66r4) (.reg l66r5))) (.reg l66r6))))))) (.seq (.reg l66r7) .ret)))) [.tmp 2])
theorem l66_eq : lowFn Try.prog 66 = some l66 := by kernel_rfl
def l67r0 : List AOper :=
  [.mk (some 4) (.mv (.const (.bool false))) none []]
def l67r1 : List AOper :=
  [.mk (some 6) (.mv (.tmp 0)) none [],.mk (some 7) (.len (.tmp 6)) none [0],.mk (some 8) (.mv (.tmp 1)) none [],.mk (some 9) (.len (.tmp 8)) none [2],.mk (some 10) (.bin .neq (.tmp 7) (.tmp 9)) none [1,3]]
def l67r2 : List AOper :=
  [.mk (some 4) (.mv (.const (.bool false))) none []]
def l67r3 : List AOper :=
  [.mk (some 11) (.mv (.tmp 0)) none [],.mk (some 12) (.len (.tmp 11)) none [0],.mk (some 13) (.mv (.const (.int .i64 0))) none []]
def l67r4 : List AOper :=
  [.mk (some 14) (.bin .lss (.tmp 13) (.tmp 12)) none []]
def l67r5 : List AOper :=
  [.mk (some 15) (.mv (.tmp 13)) none [],.mk (some 5) (.mv (.tmp 15)) none [0,0]]
def l67r6a : List AOper :=
  [.mk (some 16) (.mv (.tmp 0)) none [],.mk (some 17) (.mv (.tmp 5)) none [],.mk (some 18) (.idxA 1 (.tmp 16) (.tmp 17)) none [0,1],.mk (some 19) (.load false 1 (.tmp 18)) none [2],.mk (some 20) (.mv (.tmp 1)) none [],.mk (some 21) (.mv (.tmp 5)) none [],.mk (some 22) (.idxA 1 (.tmp 20) (.tmp 21)) none [4,5],.mk (some 23) (.load false 1 (.tmp 22)) none [6]]
def l67r6b : List AOper :=
  [.mk (some 24) (.bin .neq (.tmp 19) (.tmp 23)) none [3,7]]
def l67r6 : List AOper := l67r6a ++ l67r6b
def l67r7 : List AOper :=
  [.mk (some 4) (.mv (.const (.bool false))) none []]
def l67r8 : List AOper :=
  [.mk (some 25) (.bin .add (.tmp 13) (.const (.int .i64 1))) none [],.mk (some 13) (.mv (.tmp 25)) none [0]]
def l67r9 : List AOper :=
  [.mk (some 4) (.mv (.const (.bool true))) none []]
def l67 : AFn :=
  (AFn.mk 26 2 (.seq (.reg l67r0) (.seq (.seq (.reg l67r1) (.cond (.tmp 10) (.seq (.reg l67r2) .ret) .skip)) (.seq (.seq (.reg l67r3) (.block 0 (.loop (.seq (.reg l67r4) (.seq (.cond (.tmp 14) .skip (.exit 0)) (.seq (.block 1 (.seq (.reg l67r5) (.seq (.draw l67r6) (.cond (.tmp 24) (.seq (.reg l67r7) .ret) .skip)))) (.reg l67r8))))))) (.seq (.reg l67r9) .ret)))) [.tmp 4])
theorem l67_eq : lowFn Try.prog 67 = some l67 := by kernel_rfl
def l68r0 : List AOper :=
  [.mk (some 4) (.mv (.const (.slice none 0 0))) none []]
def l68r1 : List AOper :=
  [.mk (some 5) (.mv (.const (.slice none 0 0))) none []]
def l68r2 : List AOper :=
  [.mk (some 8) (.mv (.tmp 0)) none [],.mk (some 9) (.raw (Op.range 81 (.tmp 8))) none [0]]
def l68r3 : List AOper :=
  [.mk (some 10) (.raw (Op.next (.tmp 9) false)) none [],.mk (some 11) (.extract (.tmp 10) 0) none [0]]
def l68r4 : List AOper :=
  [.mk (some 12) (.raw (Op.entry (.tmp 9))) none [],.mk (some 13) (.extract (.tmp 12) 0) none [0],.mk (some 14) (.extract (.tmp 12) 1) none [0],.mk (some 6) (.mv (.tmp 13)) none [1,0,1],.mk (some 7) (.mv (.tmp 14)) none [2,3,0,1,2,3]]
def l68r5 : List AOper :=
  [.mk (some 15) (.mv (.tmp 7)) none [],.mk (some 16) (.mv (.tmp 1)) none [],.mk (some 17) (.bin .geq (.tmp 15) (.tmp 16)) none [0,1]]
def l68r6 : List AOper :=
  [.mk (some 18) (.mv (.tmp 5)) none [],.mk (some 19) (.mv (.tmp 6)) none [],.mk (some 20) (.bslice 1 [.int .i64 0] [(0,.tmp 19)] 1) none [1],.mk (some 21) (.append 1 (.tmp 18) (.tmp 20)) none [0,2],.mk (some 5) (.mv (.tmp 21)) none [3,3,0,1,2,3]]
def l68r7 : List AOper :=
  [.mk (some 22) (.mv (.tmp 5)) none [],.mk (some 23) (.call 100 [.tmp 22]) none [0]]
def l68r8 : List AOper :=
  [.mk (some 24) (.mv (.tmp 5)) none [],.mk (some 4) (.mv (.tmp 24)) none [0,0]]
def l68 : AFn :=
  (AFn.mk 25 2 (.seq (.reg l68r0) (.seq (.reg l68r1) (.seq (.seq (.reg l68r2) (.block 0 (.loop (.seq (.reg l68r3) (.seq (.cond (.tmp 11) .skip (.exit 0)) (.block 1 (.seq (.reg l68r4) (.seq (.reg l68r5) (.cond (.tmp 17) (.reg l68r6) .skip))))))))) (.seq (.reg l68r7) (.seq (.reg l68r8) .ret))))) [.tmp 4])
theorem l68_eq : lowFn Try.prog 68 = some l68 := by kernel_rfl
def l69r0 : List AOper :=
  [.mk (some 2) (.mv (.const (.bool false))) none []]
def l69r1 : List AOper :=
  [.mk (some 3) (.mv (.const (.int .i64 0))) none []]
def l69r2 : List AOper :=
  [.mk (some 4) (.mv (.tmp 3)) none [],.mk (some 5) (.mv (.tmp 0)) none [],.mk (some 6) (.len (.tmp 5)) none [1],.mk (some 7) (.bin .lss (.tmp 4) (.tmp 6)) none [0,2]]
def l69r3 : List AOper :=
  [.mk (some 10) (.mv (.tmp 0)) none [],.mk (some 11) (.mv (.tmp 3)) none [],.mk (some 12) (.idxA 3 (.tmp 10) (.tmp 11)) none [0,1],.mk (some 13) (.load true 3 (.tmp 12)) none [2],.mk (some 14) (.call 101 [.tmp 13]) none [3],.mk (some 15) (.un .not (.tmp 14)) none [4]]
def l69r4 : List AOper :=
  [.mk (some 2) (.mv (.const (.bool false))) none []]
def l69r5 : List AOper :=
  [.mk (some 8) (.mv (.tmp 3)) none [],.mk (some 9) (.bin .add (.tmp 8) (.const (.int .i64 1))) none [0],.mk (some 3) (.mv (.tmp 9)) none [1,0,1]]
def l69r6 : List AOper :=
  [.mk (some 16) (.mv (.tmp 0)) none [],.mk (some 17) (.len (.tmp 16)) none [0],.mk (some 18) (.bin .leq (.tmp 17) (.const (.int .i64 8))) none [1],.mk (some 2) (.mv (.tmp 18)) none [2,0,1,2]]
def l69 : AFn :=
  (AFn.mk 19 1 (.seq (.reg l69r0) (.seq (.seq (.reg l69r1) (.block 0 (.loop (.seq (.seq (.reg l69r2) (.cond (.tmp 7) .skip (.exit 0))) (.seq (.block 1 (.seq (.reg l69r3) (.cond (.tmp 15) (.seq (.reg l69r4) .ret) .skip))) (.reg l69r5)))))) (.seq (.reg l69r6) .ret))) [.tmp 2])
theorem l69_eq : lowFn Try.prog 69 = some l69 := by kernel_rfl
def l70r0 : List AOper :=
  [.mk (some 1) (.box (.tmp 0)) none [],.mk (some 2) (.mv (.const (.slice none 0 0))) none []]
def l70r1 : List AOper :=
  [.mk (some 5) (.bslice 1 [.int .i64 0] [] 0) none [],.mk (some 3) (.mv (.tmp 5)) none [0,0]]
def l70r2 : List AOper :=
  [.mk (some 4) (.mv (.const (.int .i64 0))) none []]
def l70r3 : List AOper :=
  [.mk (some 6) (.mv (.tmp 4)) none [],.mk (some 7) (.fld 1 (.tmp 1)) none [],.mk (some 8) (.load false 1 (.tmp 7)) none [1],.mk (some 9) (.call 84 [.tmp 8]) none [2],.mk (some 10) (.bin .lss (.tmp 6) (.tmp 9)) none [0,3]]
def l70r4a : List AOper :=
  [.mk (some 13) (.mv (.tmp 3)) none [],.mk (some 14) (.load true 3 (.tmp 1)) none [],.mk (some 15) (.fld 1 (.tmp 1)) none [],.mk (some 16) (.load false 1 (.tmp 15)) none [2],.mk (some 17) (.mv (.tmp 4)) none [],.mk (some 18) (.call 103 [.tmp 16,.tmp 17]) none [3,4],.mk (some 19) (.call 102 [.tmp 14,.tmp 18]) none [1,5,5],.mk (some 20) (.bslice 1 [.int .i64 0] [(0,.tmp 19)] 1) none [6]]
def l70r4b : List AOper :=
  [.mk (some 21) (.append 1 (.tmp 13) (.tmp 20)) none [0,7,6],.mk (some 3) (.mv (.tmp 21)) none [8,8,0,1,2,3,4,5,6,7,8]]
def l70r4 : List AOper := l70r4a ++ l70r4b
def l70r5 : List AOper :=
  [.mk (some 11) (.mv (.tmp 4)) none [],.mk (some 12) (.bin .add (.tmp 11) (.const (.int .i64 1))) none [0],.mk (some 4) (.mv (.tmp 12)) none [1,0,1]]
def l70r6 : List AOper :=
  [.mk (some 22) (.mv (.tmp 3)) none [],.mk (some 2) (.mv (.tmp 22)) none [0,0]]
def l70 : AFn :=
  (AFn.mk 23 1 (.seq (.reg l70r0) (.seq (.reg l70r1) (.seq (.seq (.reg l70r2) (.block 0 (.loop (.seq (.seq (.reg l70r3) (.cond (.tmp 10) .skip (.exit 0))) (.seq (.block 1 (.draw l70r4)) (.reg l70r5)))))) (.seq (.reg l70r6) .ret)))) [.tmp 2])
theorem l70_eq : lowFn Try.prog 70 = some l70 := by kernel_rfl
def l71r0 : List AOper :=
  [.mk (some 2) (.mv (.const (.bool false))) none []]
def l71r1 : List AOper :=
  [.mk (some 3) (.mv (.const (.int .i64 0))) none []]
def l71r2 : List AOper :=
  [.mk (some 4) (.mv (.tmp 3)) none [],.mk (some 5) (.mv (.tmp 0)) none [],.mk (some 6) (.len (.tmp 5)) none [1],.mk (some 7) (.bin .lss (.tmp 4) (.tmp 6)) none [0,2]]
def l71r3a : List AOper :=
  [.mk (some 10) (.mv (.tmp 0)) none [],.mk (some 11) (.mv (.tmp 3)) none [],.mk (some 12) (.slice 1 (.tmp 10) none (some (.tmp 11))) none [0,1],.mk (some 13) (.mv (.tmp 0)) none [],.mk (some 14) (.mv (.tmp 3)) none [],.mk (some 15) (.idxA 1 (.tmp 13) (.tmp 14)) none [3,4],.mk (some 16) (.load false 1 (.tmp 15)) none [5]]
def l71r3b : List AOper :=
  [.mk (some 17) (.call 79 [.tmp 12,.tmp 16]) none [2,6],.mk (some 18) (.bin .geq (.tmp 17) (.const (.int .i64 0))) none [7]]
def l71r3 : List AOper := l71r3a ++ l71r3b
def l71r4 : List AOper :=
  [.mk (some 2) (.mv (.const (.bool false))) none []]
def l71r5 : List AOper :=
  [.mk (some 8) (.mv (.tmp 3)) none [],.mk (some 9) (.bin .add (.tmp 8) (.const (.int .i64 1))) none [0],.mk (some 3) (.mv (.tmp 9)) none [1,0,1]]
def l71r6 : List AOper :=
  [.mk (some 2) (.mv (.const (.bool true))) none []]
def l71 : AFn :=
  (AFn.mk 19 1 (.seq (.reg l71r0) (.seq (.seq (.reg l71r1) (.block 0 (.loop (.seq (.seq (.reg l71r2) (.cond (.tmp 7) .skip (.exit 0))) (.seq (.block 1 (.seq (.draw l71r3) (.cond (.tmp 18) (.seq (.reg l71r4) .ret) .skip))) (.reg l71r5)))))) (.seq (.reg l71r6) .ret))) [.tmp 2])
theorem l71_eq : lowFn Try.prog 71 = some l71 := by kernel_rfl
def l72r0 : List AOper :=
  [.mk (some 6) (.mv (.tmp 1)) none [],.mk (some 7) (.len (.tmp 6)) none [0],.mk (some 8) (.mv (.const (.int .i64 0))) none []]
def l72r1 : List AOper :=
  [.mk (some 9) (.bin .lss (.tmp 8) (.tmp 7)) none []]
def l72r2 : List AOper :=
  [.mk (some 10) (.idxA 1 (.tmp 6) (.tmp 8)) none [],.mk (some 11) (.load false 1 (.tmp 10)) none [0],.mk (some 5) (.mv (.tmp 11)) none [1,0,1]]
def l72r3 : List AOper :=
  [.mk (some 12) (.mv (.tmp 0)) none [],.mk (some 13) (.mv (.tmp 5)) none [],.mk (some 14) (.raw (Op.lookup 81 (.tmp 12) (.tmp 13) false)) none [0,1],.mk (some 15) (.bin .add (.tmp 14) (.const (.int .i64 1))) none [2],.mk none (.raw (Op.mapUpdate 81 (.tmp 12) (.tmp 13) (.tmp 15))) none [0,1,3,0,1,2,3]]
def l72r4 : List AOper :=
  [.mk (some 16) (.bin .add (.tmp 8) (.const (.int .i64 1))) none [],.mk (some 8) (.mv (.tmp 16)) none [0]]
def l72 : AFn :=
  (AFn.mk 17 2 (.seq (.reg l72r0) (.block 0 (.loop (.seq (.reg l72r1) (.seq (.cond (.tmp 9) .skip (.exit 0)) (.seq (.block 1 (.seq (.reg l72r2) (.reg l72r3))) (.reg l72r4))))))) [])
theorem l72_eq : lowFn Try.prog 72 = some l72 := by kernel_rfl
def l73r0 : List AOper :=
  [.mk (some 1) (.box (.tmp 0)) none [],.mk (some 2) (.mv (.const (.slice none 0 0))) none []]
def l73r1 : List AOper :=
  [.mk (some 5) (.load true 3 (.tmp 1)) none [],.mk (some 6) (.call 104 [.tmp 5]) none [0],.mk (some 7) (.mkslice 1 [.int .i64 0] (.tmp 6) (.tmp 6)) none [1,1],.mk (some 3) (.mv (.tmp 7)) none [2,1,0,1,2]]
def l73r2 : List AOper :=
  [.mk (some 8) (.mv (.tmp 3)) none [],.mk (some 9) (.len (.tmp 8)) none [0],.mk (some 10) (.mv (.const (.int .i64 0))) none []]
def l73r3 : List AOper :=
  [.mk (some 11) (.bin .lss (.tmp 10) (.tmp 9)) none []]
def l73r4 : List AOper :=
  [.mk (some 12) (.mv (.tmp 10)) none [],.mk (some 4) (.mv (.tmp 12)) none [0,0]]
def l73r5a : List AOper :=
  [.mk (some 13) (.mv (.tmp 3)) none [],.mk (some 14) (.mv (.tmp 4)) none [],.mk (some 15) (.load true 3 (.tmp 1)) none [],.mk (some 16) (.fld 1 (.tmp 1)) none [],.mk (some 17) (.load false 1 (.tmp 16)) none [3],.mk (some 18) (.mv (.tmp 4)) none [],.mk (some 19) (.call 106 [.tmp 17,.tmp 18]) none [4,5],.mk (some 20) (.call 105 [.tmp 15,.tmp 19]) none [2,6,6]]
def l73r5b : List AOper :=
  [.mk (some 21) (.idxA 1 (.tmp 13) (.tmp 14)) none [0,1,0,1,2,3,4,5,6,7],.mk none (.store 1 (.tmp 21) (.tmp 20)) none [8,7,7,0,1,2,3,4,5,6,7]]
def l73r5 : List AOper := l73r5a ++ l73r5b
def l73r6 : List AOper :=
  [.mk (some 22) (.bin .add (.tmp 10) (.const (.int .i64 1))) none [],.mk (some 10) (.mv (.tmp 22)) none [0]]
def l73r7 : List AOper :=
  [.mk (some 23) (.mv (.tmp 3)) none [],.mk (some 2) (.mv (.tmp 23)) none [0,0]]
def l73 : AFn :=
  (AFn.mk 24 1 (.seq (.reg l73r0) (.seq (.reg l73r1) (.seq (.seq (.reg l73r2) (.block 0 (.loop (.seq (.reg l73r3) (.seq (.cond (.tmp 11) .skip (.exit 0)) (.seq (.block 1 (.seq (.reg l73r4) (.draw l73r5))) (.reg l73r6))))))) (.seq (.reg l73r7) .ret)))) [.tmp 2])
theorem l73_eq : lowFn Try.prog 73 = some l73 := by kernel_rfl
def l74r0 : List AOper :=
  [.mk (some 2) (.box (.tmp 0)) none [],.mk (some 3) (.box (.tmp 1)) none [],.mk (some 4) (.mv (.const (.slice none 0 0))) none []]
def l74r1 : List AOper :=
  [.mk (some 5) (.load true 3 (.tmp 2)) none [],.mk (some 6) (.call 75 [.tmp 5]) none [0],.mk (some 7) (.un .not (.tmp 6)) none [1],.mk (some 8) (.mv (.tmp 7)) none [2,1],.mk (some 9) (.load true 3 (.tmp 3)) (some (8,false)) [3],.mk (some 10) (.call 75 [.tmp 9]) (some (8,false)) [4,3,3],.mk (some 11) (.un .not (.tmp 10)) (some (8,false)) [5,3],.mk (some 12) (.pick (.tmp 8) (.const (.bool true)) (.tmp 11)) none [3,6]]
def l74r2 : List AOper :=
  [.mk (some 4) (.mv (.const (.slice none 0 0))) none []]
def l74r3 : List AOper :=
  [.mk (some 13) (.load true 3 (.tmp 2)) none [],.mk (some 14) (.load true 3 (.tmp 3)) none [],.mk (some 15) (.call 107 [.tmp 13,.tmp 14]) none [0,1],.mk (some 4) (.mv (.tmp 15)) none [2,2,0,1,2]]
def l74 : AFn :=
  (AFn.mk 16 2 (.seq (.reg l74r0) (.seq (.seq (.reg l74r1) (.cond (.tmp 12) (.seq (.reg l74r2) .ret) .skip)) (.seq (.reg l74r3) .ret))) [.tmp 4])
theorem l74_eq : lowFn Try.prog 74 = some l74 := by kernel_rfl
def l75r0 : List AOper :=
  [.mk (some 1) (.box (.tmp 0)) none [],.mk (some 2) (.mv (.const (.bool false))) none []]
def l75r1 : List AOper :=
  [.mk (some 5) (.fld 1 (.tmp 1)) none [],.mk (some 6) (.load false 1 (.tmp 5)) none [0],.mk (some 7) (.call 41 [.tmp 6]) none [1],.mk (some 8) (.un .not (.tmp 7)) none [2],.mk (some 9) (.mv (.tmp 8)) none [3,2],.mk (some 10) (.fld 2 (.tmp 1)) (some (9,false)) [4],.mk (some 11) (.load false 1 (.tmp 10)) (some (9,false)) [5,4],.mk (some 12) (.fld 1 (.tmp 1)) (some (9,false)) [4],.mk (some 13) (.load false 1 (.tmp 12)) (some (9,false)) [7,4],.mk (some 14) (.len (.tmp 13)) (some (9,false)) [8,4],.mk (some 15) (.call 108 [.tmp 11,.tmp 14]) (some (9,false)) [6,9,4,4],.mk (some 16) (.un .not (.tmp 15)) (some (9,false)) [10,4],.mk (some 17) (.pick (.tmp 9) (.const (.bool true)) (.tmp 16)) none [4,11],.mk (some 18) (.mv (.tmp 17)) none [12,10],.mk (some 19) (.fld 0 (.tmp 1)) (some (18,false)) [13],.mk (some 20) (.load false 1 (.tmp 19)) (some (18,false)) [14,13],.mk (some 21) (.call 76 [.tmp 20,.const (.int .i64 60)]) (some (18,false)) [15,13,13],.mk (some 22) (.un .not (.tmp 21)) (some (18,false)) [16,13],.mk (some 23) (.pick (.tmp 18) (.const (.bool true)) (.tmp 22)) none [13,17]]
def l75r2 : List AOper :=
  [.mk (some 2) (.mv (.const (.bool false))) none []]
def l75r3 : List AOper :=
  [.mk (some 25) (.load true 3 (.tmp 1)) none [],.mk (some 26) (.call 77 [.tmp 25]) none [0],.mk (some 24) (.mv (.tmp 26)) none [1],.mk (some 27) (.extract (.tmp 24) 0) none [2],.mk (some 28) (.extract (.tmp 24) 1) none [2],.mk (some 3) (.mv (.tmp 27)) none [3,1,0,1,2,3],.mk (some 4) (.mv (.tmp 28)) none [4,5,0,1,2,3,4,5]]
def l75r4 : List AOper :=
  [.mk (some 29) (.load true 3 (.tmp 1)) none [],.mk (some 30) (.call 104 [.tmp 29]) none [0],.mk (some 31) (.bin .eql (.tmp 30) (.const (.int .i64 0))) none [1],.mk (some 32) (.mv (.tmp 31)) none [2,1],.mk (some 33) (.mv (.tmp 3)) (some (32,false)) [3],.mk (some 34) (.bin .geq (.tmp 33) (.const (.int .i64 0))) (some (32,false)) [4,3],.mk (some 35) (.mv (.tmp 34)) (some (32,false)) [5,3,3],.mk (some 36) (.mv (.tmp 4)) (some (35,true)) [6],.mk (some 37) (.bin .lss (.tmp 36) (.const (.int .i64 60))) (some (35,true)) [7,6],.mk (some 38) (.pick (.tmp 35) (.tmp 37) (.const (.bool false))) (some (32,false)) [6,8,3],.mk (some 39) (.pick (.tmp 32) (.const (.bool true)) (.tmp 38)) none [3,9],.mk (some 2) (.mv (.tmp 39)) none [10,6,0,1,2,3,4,5,6,7,8,9,10]]
def l75 : AFn :=
  (AFn.mk 40 1 (.seq (.reg l75r0) (.seq (.seq (.reg l75r1) (.cond (.tmp 23) (.seq (.reg l75r2) .ret) .skip)) (.seq (.reg l75r3) (.seq (.reg l75r4) .ret)))) [.tmp 2])
theorem l75_eq : lowFn Try.prog 75 = some l75 := by kernel_rfl
def l76r0 : List AOper :=
  [.mk (some 4) (.mv (.const (.bool false))) none []]
def l76r1 : List AOper :=
  [.mk (some 5) (.mv (.tmp 0)) none [],.mk (some 6) (.bin .leq (.const (.int .i64 0)) (.tmp 5)) none [0],.mk (some 7) (.mv (.tmp 6)) none [1],.mk (some 8) (.mv (.tmp 0)) (some (7,true)) [2],.mk (some 9) (.mv (.tmp 1)) (some (7,true)) [2],.mk (some 10) (.bin .leq (.tmp 8) (.tmp 9)) (some (7,true)) [3,4,2],.mk (some 11) (.pick (.tmp 7) (.tmp 10) (.const (.bool false))) none [2,5],.mk (some 4) (.mv (.tmp 11)) none [6,2,0,1,2,3,4,5,6]]
def l76 : AFn :=
  (AFn.mk 12 2 (.seq (.reg l76r0) (.seq (.reg l76r1) .ret)) [.tmp 4])
theorem l76_eq : lowFn Try.prog 76 = some l76 := by kernel_rfl
def l77r0 : List AOper :=
  [.mk (some 1) (.box (.tmp 0)) none [],.mk (some 2) (.mv (.const (.int .i64 0))) none [],.mk (some 3) (.mv (.const (.int .i64 0))) none [1]]
def l77r1 : List AOper :=
  [.mk (some 9) (.load true 3 (.tmp 1)) none [],.mk (some 10) (.call 104 [.tmp 9]) none [0],.mk (some 11) (.bin .eql (.tmp 10) (.const (.int .i64 0))) none [1]]
def l77r2 : List AOper :=
  [.mk (some 2) (.mv (.const (.int .i64 (-1)))) none [],.mk (some 3) (.mv (.const (.int .i64 (-1)))) none [0,0]]
def l77r3a : List AOper :=
  [.mk (some 12) (.fld 0 (.tmp 1)) none [],.mk (some 13) (.load false 1 (.tmp 12)) none [0],.mk (some 14) (.fld 0 (.tmp 1)) none [],.mk (some 15) (.load false 1 (.tmp 14)) none [2],.mk (some 4) (.mv (.tmp 13)) none [1,0,1]]
def l77r3b : List AOper :=
  [.mk (some 5) (.mv (.tmp 15)) none [3,4,0,1,2,3,4]]
def l77r3 : List AOper := l77r3a ++ l77r3b
def l77r4 : List AOper :=
  [.mk (some 16) (.fld 2 (.tmp 1)) none [],.mk (some 17) (.load false 1 (.tmp 16)) none [0],.mk (some 18) (.len (.tmp 17)) none [1],.mk (some 19) (.mv (.const (.int .i64 0))) none []]
def l77r5 : List AOper :=
  [.mk (some 20) (.bin .lss (.tmp 19) (.tmp 18)) none []]
def l77r6 : List AOper :=
  [.mk (some 21) (.mv (.tmp 19)) none [],.mk (some 22) (.idxA 1 (.tmp 17) (.tmp 19)) none [],.mk (some 23) (.load false 1 (.tmp 22)) none [1],.mk (some 6) (.mv (.tmp 21)) none [0,0,1,2],.mk (some 7) (.mv (.tmp 23)) none [2,3,0,1,2,3]]
def l77r7 : List AOper :=
  [.mk (some 24) (.fld 1 (.tmp 1)) none [],.mk (some 25) (.load false 1 (.tmp 24)) none [0],.mk (some 26) (.mv (.tmp 6)) none [],.mk (some 27) (.idxA 1 (.tmp 25) (.tmp 26)) none [1,2],.mk (some 28) (.load false 1 (.tmp 27)) none [3],.mk (some 29) (.bin .sub (.tmp 28) (.const (.int .i64 1))) none [4],.mk (some 30) (.mv (.tmp 7)) none [],.mk (some 31) (.bin .mul (.tmp 29) (.tmp 30)) none [5,6],.mk (some 8) (.mv (.tmp 31)) none [7,0,1,2,3,4,5,6,7]]
def l77r8 : List AOper :=
  [.mk (some 32) (.mv (.tmp 4)) none [],.mk (some 33) (.mv (.tmp 8)) none [],.mk (some 34) (.minmax false (.tmp 33) (.const (.int .i64 0))) none [1],.mk (some 35) (.bin .add (.tmp 32) (.tmp 34)) none [0,2],.mk (some 4) (.mv (.tmp 35)) none [3,0,1,2,3]]
def l77r9 : List AOper :=
  [.mk (some 36) (.mv (.tmp 5)) none [],.mk (some 37) (.mv (.tmp 8)) none [],.mk (some 38) (.minmax true (.tmp 37) (.const (.int .i64 0))) none [1],.mk (some 39) (.bin .add (.tmp 36) (.tmp 38)) none [0,2],.mk (some 5) (.mv (.tmp 39)) none [3,0,1,2,3]]
def l77r10 : List AOper :=
  [.mk (some 40) (.bin .add (.tmp 19) (.const (.int .i64 1))) none [],.mk (some 19) (.mv (.tmp 40)) none [0]]
def l77r11 : List AOper :=
  [.mk (some 41) (.mv (.tmp 4)) none [],.mk (some 42) (.mv (.tmp 5)) none [],.mk (some 2) (.mv (.tmp 41)) none [0,0],.mk (some 3) (.mv (.tmp 42)) none [1,2,0,1,2]]
def l77 : AFn :=
  (AFn.mk 43 1 (.seq (.reg l77r0) (.seq (.seq (.reg l77r1) (.cond (.tmp 11) (.seq (.reg l77r2) .ret) .skip)) (.seq (.draw l77r3) (.seq (.seq (.reg l77r4) (.block 0 (.loop (.seq (.reg l77r5) (.seq (.cond (.tmp 20) .skip (.exit 0)) (.seq (.block 1 (.seq (.reg l77r6) (.seq (.reg l77r7) (.seq (.reg l77r8) (.reg l77r9))))) (.reg l77r10))))))) (.seq (.reg l77r11) .ret))))) [.tmp 2,.tmp 3])
theorem l77_eq : lowFn Try.prog 77 = some l77 := by kernel_rfl
def l78r0 : List AOper :=
  [.mk (some 4) (.mv (.const (.int .i64 0))) none []]
def l78r1 : List AOper :=
  [.mk (some 7) (.mv (.tmp 0)) none [],.mk (some 8) (.mv (.tmp 0)) none [],.mk (some 9) (.nilck (.tmp 8)) none [1],.mk (some 10) (.fld 1 (.tmp 9)) none [2],.mk (some 11) (.load false 1 (.tmp 10)) none [3],.mk (some 12) (.bin .add (.tmp 11) (.const (.int .i64 1))) none [4],.mk (some 13) (.nilck (.tmp 7)) none [0,0,1,2,3,4,5],.mk (some 14) (.fld 1 (.tmp 13)) none [6,0,1,2,3,4,5],.mk none (.store 1 (.tmp 14) (.tmp 12)) none [7,5,0,1,2,3,4,5]]
def l78r2 : List AOper :=
  [.mk (some 15) (.mv (.tmp 1)) none [],.mk (some 16) (.bin .lss (.tmp 15) (.const (.int .i64 1))) none [0],.mk (some 17) (.mv (.tmp 16)) none [1],.mk (some 18) (.mv (.tmp 0)) (some (17,false)) [2],.mk (some 19) (.nilck (.tmp 18)) (some (17,false)) [3,2],.mk (some 20) (.fld 0 (.tmp 19)) (some (17,false)) [4,2],.mk (some 21) (.load false 1 (.tmp 20)) (some (17,false)) [5,2],.mk (some 22) (.len (.tmp 21)) (some (17,false)) [6,2],.mk (some 23) (.bin .eql (.tmp 22) (.const (.int .i64 0))) (some (17,false)) [7,2],.mk (some 24) (.pick (.tmp 17) (.const (.bool true)) (.tmp 23)) none [2,8]]
def l78r3 : List AOper :=
  [.mk (some 4) (.mv (.const (.int .i64 0))) none []]
def l78r4 : List AOper :=
  [.mk (some 25) (.mv (.tmp 0)) none [],.mk (some 26) (.nilck (.tmp 25)) none [0],.mk (some 27) (.fld 1 (.tmp 26)) none [1],.mk (some 28) (.load false 1 (.tmp 27)) none [2],.mk (some 29) (.bin .sub (.tmp 28) (.const (.int .i64 1))) none [3],.mk (some 5) (.mv (.tmp 29)) none [4,0,1,2,3,4]]
def l78r5 : List AOper :=
  [.mk (some 30) (.mv (.tmp 5)) none [],.mk (some 31) (.mv (.tmp 0)) none [],.mk (some 32) (.nilck (.tmp 31)) none [1],.mk (some 33) (.fld 0 (.tmp 32)) none [2],.mk (some 34) (.load false 1 (.tmp 33)) none [3],.mk (some 35) (.len (.tmp 34)) none [4],.mk (some 36) (.bin .lss (.tmp 30) (.tmp 35)) none [0,5]]
def l78r6 : List AOper :=
  [.mk (some 37) (.mv (.tmp 0)) none [],.mk (some 38) (.nilck (.tmp 37)) none [0],.mk (some 39) (.fld 0 (.tmp 38)) none [1],.mk (some 40) (.load false 1 (.tmp 39)) none [2],.mk (some 41) (.mv (.tmp 5)) none [],.mk (some 42) (.idxA 1 (.tmp 40) (.tmp 41)) none [3,4],.mk (some 43) (.load false 1 (.tmp 42)) none [5],.mk (some 44) (.conv .i64 (.tmp 43)) none [6],.mk (some 45) (.mv (.tmp 1)) none [],.mk (some 46) (.bin .rem (.tmp 44) (.tmp 45)) none [7,8],.mk (some 4) (.mv (.tmp 46)) none [9,0,1,2,3,4,5,6,7,8,9]]
def l78r7a : List AOper :=
  [.mk (some 47) (.mv (.tmp 0)) none [],.mk (some 48) (.nilck (.tmp 47)) none [0],.mk (some 49) (.fld 0 (.tmp 48)) none [1],.mk (some 50) (.load false 1 (.tmp 49)) none [2],.mk (some 51) (.mv (.tmp 5)) none [],.mk (some 52) (.mv (.tmp 0)) none [],.mk (some 53) (.nilck (.tmp 52)) none [5],.mk (some 54) (.fld 0 (.tmp 53)) none [6],.mk (some 55) (.load false 1 (.tmp 54)) none [7],.mk (some 56) (.len (.tmp 55)) none [8],.mk (some 57) (.bin .rem (.tmp 51) (.tmp 56)) none [4,9],.mk (some 58) (.idxA 1 (.tmp 50) (.tmp 57)) none [3,10],.mk (some 59) (.load false 1 (.tmp 58)) none [11],.mk (some 60) (.conv .i64 (.tmp 59)) none [12],.mk (some 61) (.bin .mul (.tmp 60) (.const (.int .i64 131))) none [13],.mk (some 62) (.mv (.tmp 0)) none [],.mk (some 63) (.nilck (.tmp 62)) none [15],.mk (some 64) (.fld 0 (.tmp 63)) none [16],.mk (some 65) (.load false 1 (.tmp 64)) none [17],.mk (some 66) (.mv (.tmp 5)) none [],.mk (some 67) (.bin .mul (.tmp 66) (.const (.int .i64 7))) none [19],.mk (some 68) (.bin .add (.tmp 67) (.const (.int .i64 3))) none [20],.mk (some 69) (.mv (.tmp 0)) none [],.mk (some 70) (.nilck (.tmp 69)) none [22],.mk (some 71) (.fld 0 (.tmp 70)) none [23],.mk (some 72) (.load false 1 (.tmp 71)) none [24],.mk (some 73) (.len (.tmp 72)) none [25],.mk (some 74) (.bin .rem (.tmp 68) (.tmp 73)) none [21,26],.mk (some 75) (.idxA 1 (.tmp 65) (.tmp 74)) none [18,27],.mk (some 76) (.load false 1 (.tmp 75)) none [28],.mk (some 77) (.conv .i64 (.tmp 76)) none [29],.mk (some 78) (.bin .mul (.tmp 77) (.const (.int .i64 1117))) none [30],.mk (some 79) (.bin .add (.tmp 61) (.tmp 78)) none [14,31],.mk (some 80) (.mv (.tmp 5)) none [],.mk (some 81) (.bin .mul (.tmp 80) (.const (.int .i64 29))) none [33],.mk (some 82) (.bin .add (.tmp 79) (.tmp 81)) none [32,34],.mk (some 83) (.mv (.tmp 5)) none [],.mk (some 84) (.mv (.tmp 0)) none [],.mk (some 85) (.nilck (.tmp 84)) none [37],.mk (some 86) (.fld 0 (.tmp 85)) none [38],.mk (some 87) (.load false 1 (.tmp 86)) none [39],.mk (some 88) (.len (.tmp 87)) none [40],.mk (some 89) (.bin .quo (.tmp 83) (.tmp 88)) none [36,41],.mk (some 90) (.bin .mul (.tmp 89) (.const (.int .i64 53))) none [42]]
def l78r7b : List AOper :=
  [.mk (some 91) (.bin .add (.tmp 82) (.tmp 90)) none [35,43],.mk (some 6) (.mv (.tmp 91)) none [44,0,1,2,3,4,5,6,7,8,9,10,11,12,13,14,15,16,17,18,19,20,21,22,23,24,25,26,27,28,29,30,31,32,33,34,35,36,37,38,39,40,41,42,43,44]]
def l78r7 : List AOper := l78r7a ++ l78r7b
def l78r8 : List AOper :=
  [.mk (some 92) (.mv (.tmp 6)) none [],.mk (some 93) (.mv (.tmp 6)) none [],.mk (some 94) (.bin .quo (.tmp 93) (.const (.int .i64 64))) none [1],.mk (some 95) (.bin .xor (.tmp 92) (.tmp 94)) none [0,2],.mk (some 6) (.mv (.tmp 95)) none [3,0,1,2,3]]
def l78r9 : List AOper :=
  [.mk (some 96) (.mv (.tmp 6)) none [],.mk (some 97) (.mv (.tmp 1)) none [],.mk (some 98) (.bin .rem (.tmp 96) (.tmp 97)) none [0,1],.mk (some 4) (.mv (.tmp 98)) none [2,0,1,2]]
def l78 : AFn :=
  (AFn.mk 99 2 (.seq (.reg l78r0) (.seq (.reg l78r1) (.seq (.seq (.reg l78r2) (.cond (.tmp 24) (.seq (.reg l78r3) .ret) .skip)) (.seq (.reg l78r4) (.seq (.seq (.reg l78r5) (.cond (.tmp 36) (.seq (.reg l78r6) .ret) .skip)) (.seq (.draw l78r7) (.seq (.reg l78r8) (.seq (.reg l78r9) .ret)))))))) [.tmp 4])
theorem l78_eq : lowFn Try.prog 78 = some l78 := by kernel_rfl
def l79r0 : List AOper :=
  [.mk (some 4) (.mv (.const (.int .i64 0))) none []]
def l79r1 : List AOper :=
  [.mk (some 5) (.mv (.const (.int .i64 0))) none []]
def l79r2 : List AOper :=
  [.mk (some 6) (.mv (.tmp 5)) none [],.mk (some 7) (.mv (.tmp 0)) none [],.mk (some 8) (.len (.tmp 7)) none [1],.mk (some 9) (.bin .lss (.tmp 6) (.tmp 8)) none [0,2]]
def l79r3 : List AOper :=
  [.mk (some 12) (.mv (.tmp 0)) none [],.mk (some 13) (.mv (.tmp 5)) none [],.mk (some 14) (.idxA 1 (.tmp 12) (.tmp 13)) none [0,1],.mk (some 15) (.load false 1 (.tmp 14)) none [2],.mk (some 16) (.mv (.tmp 1)) none [],.mk (some 17) (.bin .eql (.tmp 15) (.tmp 16)) none [3,4]]
def l79r4 : List AOper :=
  [.mk (some 18) (.mv (.tmp 5)) none [],.mk (some 4) (.mv (.tmp 18)) none [0,0]]
def l79r5 : List AOper :=
  [.mk (some 10) (.mv (.tmp 5)) none [],.mk (some 11) (.bin .add (.tmp 10) (.const (.int .i64 1))) none [0],.mk (some 5) (.mv (.tmp 11)) none [1,0,1]]
def l79r6 : List AOper :=
  [.mk (some 4) (.mv (.const (.int .i64 (-1)))) none []]
def l79 : AFn :=
  (AFn.mk 19 2 (.seq (.reg l79r0) (.seq (.seq (.reg l79r1) (.block 0 (.loop (.seq (.seq (.reg l79r2) (.cond (.tmp 9) .skip (.exit 0))) (.seq (.block 1 (.seq (.reg l79r3) (.cond (.tmp 17) (.seq (.reg l79r4) .ret) .skip))) (.reg l79r5)))))) (.seq (.reg l79r6) .ret))) [.tmp 4])
theorem l79_eq : lowFn Try.prog 79 = some l79 := by kernel_rfl
def l80r0 : List AOper :=
  [.mk (some 1) (.box (.tmp 0)) none [],.mk (some 2) (.mv (.const (.slice none 0 0))) none []]
def l80r1 : List AOper :=
  [.mk (some 3) (.load true 3 (.tmp 1)) none [],.mk (some 4) (.bslice 3 [.int .i64 0,.slice none 0 0,.slice none 0 0] [(0,.tmp 3)] 1) none [0],.mk (some 5) (.call 64 [.tmp 4]) none [1],.mk (some 6) (.call 68 [.tmp 5,.const (.int .i64 1)]) none [2,2],.mk (some 2) (.mv (.tmp 6)) none [3,3,0,1,2,3]]
def l80 : AFn :=
  (AFn.mk 7 1 (.seq (.reg l80r0) (.seq (.reg l80r1) .ret)) [.tmp 2])
theorem l80_eq : lowFn Try.prog 80 = some l80 := by kernel_rfl
def l82r0 : List AOper :=
  [.mk (some 2) (.mv (.const (.slice none 0 0))) none []]
def l82r1 : List AOper :=
  [.mk (some 6) (.bslice 1 [.int .i64 0] [] 0) none [],.mk (some 3) (.mv (.tmp 6)) none [0,0]]
def l82r2 : List AOper :=
  [.mk (some 7) (.mv (.tmp 0)) none [],.mk (some 8) (.bslice 1 [.int .i64 0] [(0,.const (.int .i64 2)),(1,.const (.int .i64 1)),(2,.const (.int .i64 3)),(3,.const (.int .i64 2)),(4,.const (.int .i64 0)),(5,.const (.int .i64 4))] 6) none [],.mk (some 9) (.call 46 [.tmp 7,.tmp 8]) none [0,1],.mk (some 4) (.mv (.tmp 9)) none [2,2,0,1,2]]
def l82r3 : List AOper :=
  [.mk (some 10) (.mv (.tmp 4)) none [],.mk (some 11) (.bin .gtr (.tmp 10) (.const (.int .i64 0))) none [0]]
def l82r4 : List AOper :=
  [.mk (some 14) (.mv (.tmp 0)) none [],.mk (some 15) (.bslice 1 [.int .i64 0] [(0,.const (.int .i64 2)),(1,.const (.int .i64 3)),(2,.const (.int .i64 1)),(3,.const (.int .i64 4)),(4,.const (.int .i64 2)),(5,.const (.int .i64 3)),(6,.const (.int .i64 5)),(7,.const (.int .i64 0))] 8) none [],.mk (some 16) (.call 46 [.tmp 14,.tmp 15]) none [0,1],.mk (some 5) (.mv (.tmp 16)) none [2,2,0,1,2]]
def l82r5 : List AOper :=
  [.mk (some 17) (.mv (.tmp 3)) none [],.mk (some 18) (.call 84 [.tmp 17]) none [0],.mk (some 19) (.mv (.tmp 5)) none [],.mk (some 20) (.bin .mul (.tmp 18) (.tmp 19)) none [1,2],.mk (some 21) (.bin .leq (.tmp 20) (.const (.int .i64 60))) none [3]]
def l82r6 : List AOper :=
  [.mk (some 22) (.mv (.tmp 3)) none [],.mk (some 23) (.mv (.tmp 5)) none [],.mk (some 24) (.bslice 1 [.int .i64 0] [(0,.tmp 23)] 1) none [1],.mk (some 25) (.append 1 (.tmp 22) (.tmp 24)) none [0,2],.mk (some 3) (.mv (.tmp 25)) none [3,3,0,1,2,3]]
def l82r7 : List AOper :=
  [.mk (some 12) (.mv (.tmp 4)) none [],.mk (some 13) (.bin .sub (.tmp 12) (.const (.int .i64 1))) none [0],.mk (some 4) (.mv (.tmp 13)) none [1,0,1]]
def l82r8 : List AOper :=
  [.mk (some 26) (.mv (.tmp 3)) none [],.mk (some 2) (.mv (.tmp 26)) none [0,0]]
def l82 : AFn :=
  (AFn.mk 27 1 (.seq (.reg l82r0) (.seq (.reg l82r1) (.seq (.seq (.reg l82r2) (.block 0 (.loop (.seq (.seq (.reg l82r3) (.cond (.tmp 11) .skip (.exit 0))) (.seq (.block 1 (.seq (.reg l82r4) (.seq (.reg l82r5) (.cond (.tmp 21) (.reg l82r6) .skip)))) (.reg l82r7)))))) (.seq (.reg l82r8) .ret)))) [.tmp 2])
theorem l82_eq : lowFn Try.prog 82 = some l82 := by kernel_rfl
def l83r0 : List AOper :=
  [.mk (some 2) (.mv (.const (.bool false))) none []]
def l83r1 : List AOper :=
  [.mk (some 3) (.mv (.tmp 0)) none [],.mk (some 4) (.len (.tmp 3)) none [0],.mk (some 5) (.bin .leq (.tmp 4) (.const (.int .i64 4))) none [1],.mk (some 6) (.mv (.tmp 5)) none [2],.mk (some 7) (.mv (.tmp 0)) (some (6,true)) [3],.mk (some 8) (.call 56 [.tmp 7,.const (.int .i64 0),.const (.int .i64 60)]) (some (6,true)) [4,3,3],.mk (some 9) (.pick (.tmp 6) (.tmp 8) (.const (.bool false))) none [3,5],.mk (some 10) (.mv (.tmp 9)) none [6,5],.mk (some 11) (.mv (.tmp 0)) (some (10,true)) [7],.mk (some 12) (.call 84 [.tmp 11]) (some (10,true)) [8,7,7],.mk (some 13) (.bin .leq (.tmp 12) (.const (.int .i64 60))) (some (10,true)) [9,7],.mk (some 14) (.pick (.tmp 10) (.tmp 13) (.const (.bool false))) none [7,10],.mk (some 2) (.mv (.tmp 14)) none [11,9,0,1,2,3,4,5,6,7,8,9,10,11]]
def l83 : AFn :=
  (AFn.mk 15 1 (.seq (.reg l83r0) (.seq (.reg l83r1) .ret)) [.tmp 2])
theorem l83_eq : lowFn Try.prog 83 = some l83 := by kernel_rfl
def l84r0 : List AOper :=
  [.mk (some 2) (.mv (.const (.int .i64 0))) none []]
def l84r1 : List AOper :=
  [.mk (some 3) (.mv (.const (.int .i64 1))) none []]
def l84r2 : List AOper :=
  [.mk (some 4) (.mv (.const (.int .i64 0))) none []]
def l84r3 : List AOper :=
  [.mk (some 5) (.mv (.tmp 4)) none [],.mk (some 6) (.mv (.tmp 0)) none [],.mk (some 7) (.len (.tmp 6)) none [1],.mk (some 8) (.bin .lss (.tmp 5) (.tmp 7)) none [0,2]]
def l84r4 : List AOper :=
  [.mk (some 11) (.mv (.tmp 3)) none [],.mk (some 12) (.mv (.tmp 0)) none [],.mk (some 13) (.mv (.tmp 4)) none [],.mk (some 14) (.idxA 1 (.tmp 12) (.tmp 13)) none [1,2],.mk (some 15) (.load false 1 (.tmp 14)) none [3],.mk (some 16) (.bin .mul (.tmp 11) (.tmp 15)) none [0,4],.mk (some 3) (.mv (.tmp 16)) none [5,0,1,2,3,4,5]]
def l84r5 : List AOper :=
  [.mk (some 9) (.mv (.tmp 4)) none [],.mk (some 10) (.bin .add (.tmp 9) (.const (.int .i64 1))) none [0],.mk (some 4) (.mv (.tmp 10)) none [1,0,1]]
def l84r6 : List AOper :=
  [.mk (some 17) (.mv (.tmp 3)) none [],.mk (some 2) (.mv (.tmp 17)) none [0,0]]
def l84 : AFn :=
  (AFn.mk 18 1 (.seq (.reg l84r0) (.seq (.reg l84r1) (.seq (.seq (.reg l84r2) (.block 0 (.loop (.seq (.seq (.reg l84r3) (.cond (.tmp 8) .skip (.exit 0))) (.seq (.block 1 (.reg l84r4)) (.reg l84r5)))))) (.seq (.reg l84r6) .ret)))) [.tmp 2])
theorem l84_eq : lowFn Try.prog 84 = some l84 := by kernel_rfl
def l86r0 : List AOper :=
  [.mk (some 6) (.mv (.const (.slice none 0 0))) none []]
def l86r1a : List AOper :=
  [.mk (some 7) (.bslice 1 [.int .i64 0] [] 0) none [],.mk (some 8) (.mv (.tmp 0)) none [],.mk (some 9) (.mv (.tmp 1)) none [],.mk (some 10) (.slice 1 (.tmp 8) none (some (.tmp 9))) none [1,2],.mk (some 11) (.append 1 (.tmp 7) (.tmp 10)) none [0,3],.mk (some 12) (.mv (.tmp 2)) none [],.mk (some 13) (.bslice 1 [.int .i64 0] [(0,.tmp 12)] 1) none [5],.mk (some 14) (.append 1 (.tmp 11) (.tmp 13)) none [4,6,4],.mk (some 15) (.mv (.tmp 0)) none [],.mk (some 16) (.mv (.tmp 1)) none [],.mk (some 17) (.slice 1 (.tmp 15) (some (.tmp 16)) none) none [8,9]]
def l86r1b : List AOper :=
  [.mk (some 18) (.append 1 (.tmp 14) (.tmp 17)) none [7,10,7],.mk (some 6) (.mv (.tmp 18)) none [11,11,0,1,2,3,4,5,6,7,8,9,10,11]]
def l86r1 : List AOper := l86r1a ++ l86r1b
def l86 : AFn :=
  (AFn.mk 19 3 (.seq (.reg l86r0) (.seq (.draw l86r1) .ret)) [.tmp 6])
theorem l86_eq : lowFn Try.prog 86 = some l86 := by kernel_rfl
def l94r0 : List AOper :=
  [.mk (some 2) (.box (.tmp 0)) none [],.mk (some 4) (.mv (.const (.slice none 0 0))) none []]
def l94r1 : List AOper :=
  [.mk (some 10) (.load true 3 (.tmp 2)) none [],.mk (some 11) (.call 112 [.tmp 10]) none [0],.mk (some 12) (.un .not (.tmp 11)) none [1],.mk (some 13) (.mv (.tmp 12)) none [2,1],.mk (some 14) (.mv (.tmp 1)) (some (13,false)) [3],.mk (some 15) (.call 57 [.tmp 14,.const (.int .i64 1),.const (.int .i64 6)]) (some (13,false)) [4,3,3],.mk (some 16) (.un .not (.tmp 15)) (some (13,false)) [5,3],.mk (some 17) (.pick (.tmp 13) (.const (.bool true)) (.tmp 16)) none [3,6]]
def l94r2 : List AOper :=
  [.mk (some 4) (.mv (.const (.slice none 0 0))) none []]
def l94r3 : List AOper :=
  [.mk (some 18) (.bslice 3 [.int .i64 0,.int .i64 0,.int .i64 0] [] 0) none [],.mk (some 5) (.mv (.tmp 18)) none [0,0]]
def l94r4 : List AOper :=
  [.mk (some 19) (.load true 3 (.tmp 2)) none [],.mk (some 20) (.call 95 [.tmp 19]) none [0],.mk (some 6) (.mv (.tmp 20)) none [1,1,0,1]]
def l94r5 : List AOper :=
  [.mk (some 7) (.mv (.const (.int .i64 0))) none []]
def l94r6 : List AOper :=
  [.mk (some 21) (.mv (.tmp 7)) none [],.mk (some 22) (.mv (.tmp 1)) none [],.mk (some 23) (.bin .lss (.tmp 21) (.tmp 22)) none [0,1]]
def l94r7 : List AOper :=
  [.mk (some 26) (.bslice 1 [.int .i64 0] [] 0) none [],.mk (some 8) (.mv (.tmp 26)) none [0,0]]
def l94r8 : List AOper :=
  [.mk (some 27) (.mv (.tmp 7)) none [],.mk (some 9) (.mv (.tmp 27)) none [0,0]]
def l94r9 : List AOper :=
  [.mk (some 28) (.mv (.tmp 9)) none [],.mk (some 29) (.mv (.tmp 6)) none [],.mk (some 30) (.len (.tmp 29)) none [1],.mk (some 31) (.bin .lss (.tmp 28) (.tmp 30)) none [0,2]]
def l94r10 : List AOper :=
  [.mk (some 35) (.mv (.tmp 8)) none [],.mk (some 36) (.mv (.tmp 6)) none [],.mk (some 37) (.mv (.tmp 9)) none [],.mk (some 38) (.idxA 1 (.tmp 36) (.tmp 37)) none [1,2],.mk (some 39) (.load false 1 (.tmp 38)) none [3],.mk (some 40) (.bslice 1 [.int .i64 0] [(0,.tmp 39)] 1) none [4],.mk (some 41) (.append 1 (.tmp 35) (.tmp 40)) none [0,5],.mk (some 8) (.mv (.tmp 41)) none [6,6,0,1,2,3,4,5,6]]
def l94r11 : List AOper :=
  [.mk (some 32) (.mv (.tmp 9)) none [],.mk (some 33) (.mv (.tmp 1)) none [],.mk (some 34) (.bin .add (.tmp 32) (.tmp 33)) none [0,1],.mk (some 9) (.mv (.tmp 34)) none [2,0,1,2]]
def l94r12 : List AOper :=
  [.mk (some 42) (.mv (.tmp 5)) none [],.mk (some 43) (.mv (.tmp 8)) none [],.mk (some 44) (.call 113 [.tmp 43]) none [1],.mk (some 45) (.bslice 3 [.int .i64 0,.int .i64 0,.int .i64 0] [(0,.tmp 44)] 1) none [2],.mk (some 46) (.append 3 (.tmp 42) (.tmp 45)) none [0,3,2],.mk (some 5) (.mv (.tmp 46)) none [4,4,0,1,2,3,4]]
def l94r13 : List AOper :=
  [.mk (some 24) (.mv (.tmp 7)) none [],.mk (some 25) (.bin .add (.tmp 24) (.const (.int .i64 1))) none [0],.mk (some 7) (.mv (.tmp 25)) none [1,0,1]]
def l94r14 : List AOper :=
  [.mk (some 47) (.mv (.tmp 5)) none [],.mk (some 4) (.mv (.tmp 47)) none [0,0]]
def l94 : AFn :=
  (AFn.mk 48 2 (.seq (.reg l94r0) (.seq (.seq (.reg l94r1) (.cond (.tmp 17) (.seq (.reg l94r2) .ret) .skip)) (.seq (.reg l94r3) (.seq (.reg l94r4) (.seq (.seq (.reg l94r5) (.block 0 (.loop (.seq (.seq (.reg l94r6) (.cond (.tmp 23) .skip (.exit 0))) (.seq (.block 1 (.seq (.reg l94r7) (.seq (.seq (.reg l94r8) (.block 2 (.loop (.seq (.seq (.reg l94r9) (.cond (.tmp 31) .skip (.exit 2))) (.seq (.block 3 (.reg l94r10)) (.reg l94r11)))))) (.reg l94r12)))) (.reg l94r13)))))) (.seq (.reg l94r14) .ret)))))) [.tmp 4])
theorem l94_eq : lowFn Try.prog 94 = some l94 := by kernel_rfl
def l95r0 : List AOper :=
  [.mk (some 1) (.box (.tmp 0)) none [],.mk (some 2) (.mv (.const (.slice none 0 0))) none []]
def l95r1 : List AOper :=
  [.mk (some 5) (.bslice 1 [.int .i64 0] [] 0) none [],.mk (some 3) (.mv (.tmp 5)) none [0,0]]
def l95r2 : List AOper :=
  [.mk (some 6) (.fld 0 (.tmp 1)) none [],.mk (some 7) (.load false 1 (.tmp 6)) none [0],.mk (some 4) (.mv (.tmp 7)) none [1,0,1]]
def l95r3 : List AOper :=
  [.mk (some 8) (.fld 2 (.tmp 1)) none [],.mk (some 9) (.load false 1 (.tmp 8)) none [0],.mk (some 10) (.bin .gtr (.tmp 9) (.const (.int .i64 0))) none [1],.mk (some 11) (.mv (.tmp 10)) none [2],.mk (some 12) (.mv (.tmp 4)) (some (11,true)) [3],.mk (some 13) (.fld 1 (.tmp 1)) (some (11,true)) [3],.mk (some 14) (.load false 1 (.tmp 13)) (some (11,true)) [5,3],.mk (some 15) (.bin .lss (.tmp 12) (.tmp 14)) (some (11,true)) [4,6,3],.mk (some 16) (.pick (.tmp 11) (.tmp 15) (.const (.bool false))) none [3,7],.mk (some 17) (.mv (.tmp 16)) none [8,3],.mk (some 18) (.fld 2 (.tmp 1)) (some (17,false)) [9],.mk (some 19) (.load false 1 (.tmp 18)) (some (17,false)) [10,9],.mk (some 20) (.bin .lss (.tmp 19) (.const (.int .i64 0))) (some (17,false)) [11,9],.mk (some 21) (.mv (.tmp 20)) (some (17,false)) [12,9,9],.mk (some 22) (.mv (.tmp 4)) (some (21,true)) [13],.mk (some 23) (.fld 1 (.tmp 1)) (some (21,true)) [13],.mk (some 24) (.load false 1 (.tmp 23)) (some (21,true)) [15,13],.mk (some 25) (.bin .gtr (.tmp 22) (.tmp 24)) (some (21,true)) [14,16,13],.mk (some 26) (.pick (.tmp 21) (.tmp 25) (.const (.bool false))) (some (17,false)) [13,17,9],.mk (some 27) (.pick (.tmp 17) (.const (.bool true)) (.tmp 26)) none [9,18]]
def l95r4 : List AOper :=
  [.mk (some 32) (.mv (.tmp 3)) none [],.mk (some 33) (.mv (.tmp 4)) none [],.mk (some 34) (.bslice 1 [.int .i64 0] [(0,.tmp 33)] 1) none [1],.mk (some 35) (.append 1 (.tmp 32) (.tmp 34)) none [0,2],.mk (some 3) (.mv (.tmp 35)) none [3,3,0,1,2,3]]
def l95r5 : List AOper :=
  [.mk (some 28) (.mv (.tmp 4)) none [],.mk (some 29) (.fld 2 (.tmp 1)) none [],.mk (some 30) (.load false 1 (.tmp 29)) none [1],.mk (some 31) (.bin .add (.tmp 28) (.tmp 30)) none [0,2],.mk (some 4) (.mv (.tmp 31)) none [3,0,1,2,3]]
def l95r6 : List AOper :=
  [.mk (some 36) (.mv (.tmp 3)) none [],.mk (some 2) (.mv (.tmp 36)) none [0,0]]
def l95 : AFn :=
  (AFn.mk 37 1 (.seq (.reg l95r0) (.seq (.reg l95r1) (.seq (.seq (.reg l95r2) (.block 0 (.loop (.seq (.seq (.reg l95r3) (.cond (.tmp 27) .skip (.exit 0))) (.seq (.block 1 (.reg l95r4)) (.reg l95r5)))))) (.seq (.reg l95r6) .ret)))) [.tmp 2])
theorem l95_eq : lowFn Try.prog 95 = some l95 := by kernel_rfl
def l96r0 : List AOper :=
  [.mk (some 2) (.alloc [.int .i64 0,.slice none 0 0,.slice none 0 0]) none []]
def l96r1 : List AOper :=
  [.mk (some 8) (.mv (.tmp 0)) none [],.mk (some 9) (.call 82 [.tmp 8]) none [0],.mk (some 10) (.call 114 [.tmp 9]) none [1,1],.mk (some 3) (.alloc [.int .i64 0,.slice none 0 0,.slice none 0 0]) none [],.mk none (.store 3 (.tmp 3) (.tmp 10)) none [3,2,2,0,1,2,3]]
def l96r2 : List AOper :=
  [.mk (some 11) (.mv (.tmp 0)) none [],.mk (some 12) (.mv (.tmp 0)) none [],.mk (some 13) (.call 78 [.tmp 12,.const (.int .i64 10)]) none [1],.mk (some 14) (.bslice 1 [.int .i64 0] [(0,.const (.int .i64 0)),(1,.const (.int .i64 0)),(2,.const (.int .i64 1)),(3,.const (.int .i64 3)),(4,.tmp 13)] 5) none [2],.mk (some 15) (.call 46 [.tmp 11,.tmp 14]) none [0,3,2],.mk (some 16) (.fld 0 (.tmp 3)) none [0,1,2,3,4],.mk none (.store 1 (.tmp 16) (.tmp 15)) none [5,4,4,0,1,2,3,4]]
def l96r3 : List AOper :=
  [.mk (some 17) (.mv (.tmp 0)) none [],.mk (some 18) (.call 78 [.tmp 17,.const (.int .i64 4)]) none [0],.mk (some 4) (.mv (.tmp 18)) none [1,1,0,1]]
def l96r4 : List AOper :=
  [.mk (some 19) (.mv (.tmp 4)) none [],.mk (some 20) (.bin .gtr (.tmp 19) (.const (.int .i64 0))) none [0],.mk (some 21) (.mv (.tmp 20)) none [1],.mk (some 22) (.fld 1 (.tmp 3)) (some (21,true)) [2],.mk (some 23) (.load false 1 (.tmp 22)) (some (21,true)) [3,2],.mk (some 24) (.len (.tmp 23)) (some (21,true)) [4,2],.mk (some 25) (.bin .gtr (.tmp 24) (.const (.int .i64 0))) (some (21,true)) [5,2],.mk (some 26) (.pick (.tmp 21) (.tmp 25) (.const (.bool false))) none [2,6]]
def l96r5 : List AOper :=
  [.mk (some 29) (.mv (.tmp 0)) none [],.mk (some 30) (.fld 1 (.tmp 3)) none [],.mk (some 31) (.load false 1 (.tmp 30)) none [1],.mk (some 32) (.len (.tmp 31)) none [2],.mk (some 33) (.call 78 [.tmp 29,.tmp 32]) none [0,3],.mk (some 5) (.mv (.tmp 33)) none [4,4,0,1,2,3,4]]
def l96r6 : List AOper :=
  [.mk (some 34) (.load true 3 (.tmp 3)) none [],.mk (some 6) (.alloc [.int .i64 0,.slice none 0 0,.slice none 0 0]) none [],.mk none (.store 3 (.tmp 6) (.tmp 34)) none [1,0,0,1]]
def l96r7 : List AOper :=
  [.mk (some 7) (.mv (.const (.bool false))) none []]
def l96r8 : List AOper :=
  [.mk (some 35) (.mv (.tmp 0)) none [],.mk (some 36) (.call 78 [.tmp 35,.const (.int .i64 6)]) none [0]]
def l96r9 : List AOper :=
  [.mk (some 47) (.bin .eql (.tmp 36) (.const (.int .i64 0))) none [],.mk (some 46) (.mv (.tmp 47)) none [0]]
def l96r10a : List AOper :=
  [.mk (some 49) (.load true 3 (.tmp 3)) none [],.mk (some 50) (.mv (.tmp 5)) none [],.mk (some 51) (.mv (.tmp 0)) none [],.mk (some 52) (.call 116 [.tmp 51]) none [2],.mk (some 53) (.call 115 [.tmp 49,.tmp 50,.tmp 52]) none [0,1,3,3],.mk (some 48) (.mv (.tmp 53)) none [4],.mk (some 54) (.extract (.tmp 48) 0) none [5],.mk (some 55) (.extract (.tmp 48) 1) none [5],.mk none (.store 3 (.tmp 6) (.tmp 54)) none [6,4,0,1,2,3,4,5,6]]
def l96r10b : List AOper :=
  [.mk (some 7) (.mv (.tmp 55)) none [7,8,0,1,2,3,4,5,6,7,8]]
def l96r10 : List AOper := l96r10a ++ l96r10b
def l96r11 : List AOper :=
  [.mk (some 57) (.bin .eql (.tmp 36) (.const (.int .i64 1))) none [],.mk (some 56) (.mv (.tmp 57)) none [0]]
def l96r12 : List AOper :=
  [.mk (some 59) (.load true 3 (.tmp 3)) none [],.mk (some 60) (.mv (.tmp 5)) none [],.mk (some 61) (.call 117 [.tmp 59,.tmp 60]) none [0,1],.mk (some 58) (.mv (.tmp 61)) none [2],.mk (some 62) (.extract (.tmp 58) 0) none [3],.mk (some 63) (.extract (.tmp 58) 1) none [3],.mk none (.store 3 (.tmp 6) (.tmp 62)) none [4,2,0,1,2,3,4],.mk (some 7) (.mv (.tmp 63)) none [5,6,0,1,2,3,4,5,6]]
def l96r13 : List AOper :=
  [.mk (some 65) (.bin .eql (.tmp 36) (.const (.int .i64 2))) none [],.mk (some 64) (.mv (.tmp 65)) none [0]]
def l96r14a : List AOper :=
  [.mk (some 67) (.load true 3 (.tmp 3)) none [],.mk (some 68) (.fld 1 (.tmp 3)) none [],.mk (some 69) (.load false 1 (.tmp 68)) none [1],.mk (some 70) (.len (.tmp 69)) none [2],.mk (some 71) (.call 120 [.tmp 70]) none [3],.mk (some 72) (.call 119 [.tmp 71]) none [4,4],.mk (some 73) (.call 118 [.tmp 67,.tmp 72]) none [0,5,5],.mk (some 66) (.mv (.tmp 73)) none [6],.mk (some 74) (.extract (.tmp 66) 0) none [7],.mk (some 75) (.extract (.tmp 66) 1) none [7],.mk none (.store 3 (.tmp 6) (.tmp 74)) none [8,6,0,1,2,3,4,5,6,7,8]]
def l96r14b : List AOper :=
  [.mk (some 7) (.mv (.tmp 75)) none [9,10,0,1,2,3,4,5,6,7,8,9,10]]
def l96r14 : List AOper := l96r14a ++ l96r14b
def l96r15 : List AOper :=
  [.mk (some 77) (.bin .eql (.tmp 36) (.const (.int .i64 3))) none [],.mk (some 76) (.mv (.tmp 77)) none [0]]
def l96r16a : List AOper :=
  [.mk (some 79) (.load true 3 (.tmp 3)) none [],.mk (some 80) (.mv (.tmp 5)) none [],.mk (some 81) (.mv (.tmp 0)) none [],.mk (some 82) (.call 78 [.tmp 81,.const (.int .i64 3)]) none [2],.mk (some 83) (.bin .add (.const (.int .i64 1)) (.tmp 82)) none [3],.mk (some 84) (.call 121 [.tmp 79,.tmp 80,.tmp 83]) none [0,1,4,3],.mk (some 78) (.mv (.tmp 84)) none [5],.mk (some 85) (.extract (.tmp 78) 0) none [6],.mk (some 86) (.extract (.tmp 78) 1) none [6],.mk none (.store 3 (.tmp 6) (.tmp 85)) none [7,5,0,1,2,3,4,5,6,7]]
def l96r16b : List AOper :=
  [.mk (some 7) (.mv (.tmp 86)) none [8,9,0,1,2,3,4,5,6,7,8,9]]
def l96r16 : List AOper := l96r16a ++ l96r16b
def l96r17 : List AOper :=
  [.mk (some 88) (.bin .eql (.tmp 36) (.const (.int .i64 4))) none [],.mk (some 87) (.mv (.tmp 88)) none [0]]
def l96r18 : List AOper :=
  [.mk (some 90) (.load true 3 (.tmp 3)) none [],.mk (some 91) (.mv (.tmp 5)) none [],.mk (some 92) (.call 122 [.tmp 90,.tmp 91]) none [0,1],.mk (some 89) (.mv (.tmp 92)) none [2],.mk (some 93) (.extract (.tmp 89) 0) none [3],.mk (some 94) (.extract (.tmp 89) 1) none [3],.mk none (.store 3 (.tmp 6) (.tmp 93)) none [4,2,0,1,2,3,4],.mk (some 7) (.mv (.tmp 94)) none [5,6,0,1,2,3,4,5,6]]
def l96r19 : List AOper :=
  [.mk (some 37) (.load true 3 (.tmp 3)) none [],.mk (some 38) (.call 123 [.tmp 37]) none [0],.mk none (.store 3 (.tmp 6) (.tmp 38)) none [1,1,0,1]]
def l96r20a : List AOper :=
  [.mk (some 39) (.fld 2 (.tmp 6)) none [],.mk (some 40) (.load false 1 (.tmp 39)) none [0],.mk (some 41) (.mv (.tmp 5)) none [],.mk (some 42) (.mv (.tmp 0)) none [],.mk (some 43) (.bslice 1 [.int .i64 0] [(0,.const (.int .i64 0)),(1,.const (.int .i64 2)),(2,.const (.int .i64 3)),(3,.const (.int .i64 1)),(4,.const (.int .i64 (-1))),(5,.const (.int .i64 5))] 6) none [],.mk (some 44) (.call 46 [.tmp 42,.tmp 43]) none [3,4]]
def l96r20b : List AOper :=
  [.mk (some 45) (.idxA 1 (.tmp 40) (.tmp 41)) none [1,2,0,1,2,3,4,5],.mk none (.store 1 (.tmp 45) (.tmp 44)) none [6,5,5,0,1,2,3,4,5]]
def l96r20 : List AOper := l96r20a ++ l96r20b
def l96r21 : List AOper :=
  [.mk (some 7) (.mv (.const (.bool true))) none []]
def l96r22 : List AOper :=
  [.mk (some 95) (.mv (.tmp 7)) none [],.mk (some 96) (.mv (.tmp 95)) none [0],.mk (some 97) (.load true 3 (.tmp 6)) (some (96,true)) [1],.mk (some 98) (.call 101 [.tmp 97]) (some (96,true)) [2,1,1],.mk (some 99) (.pick (.tmp 96) (.tmp 98) (.const (.bool false))) none [1,3]]
def l96r23 : List AOper :=
  [.mk (some 100) (.load true 3 (.tmp 6)) none [],.mk none (.store 3 (.tmp 3) (.tmp 100)) none [0,0]]
def l96r24 : List AOper :=
  [.mk (some 27) (.mv (.tmp 4)) none [],.mk (some 28) (.bin .sub (.tmp 27) (.const (.int .i64 1))) none [0],.mk (some 4) (.mv (.tmp 28)) none [1,0,1]]
def l96r25 : List AOper :=
  [.mk (some 101) (.load true 3 (.tmp 3)) none [],.mk (some 102) (.call 101 [.tmp 101]) none [0],.mk (some 103) (.un .not (.tmp 102)) none [1]]
def l96r26 : List AOper :=
  [.mk (some 104) (.fld 0 (.tmp 3)) none [],.mk none (.store 1 (.tmp 104) (.const (.int .i64 0))) none [0]]
def l96r27 : List AOper :=
  [.mk (some 105) (.load true 3 (.tmp 3)) none [],.mk none (.store 3 (.tmp 2) (.tmp 105)) none [0,0]]
def l96 : AFn :=
  (AFn.mk 106 1 (.seq (.reg l96r0) (.seq (.reg l96r1) (.seq (.reg l96r2) (.seq (.seq (.reg l96r3) (.block 0 (.loop (.seq (.seq (.reg l96r4) (.cond (.tmp 26) .skip (.exit 0))) (.seq (.block 1 (.seq (.reg l96r5) (.seq (.reg l96r6) (.seq (.reg l96r7) (.seq (.seq (.reg l96r8) (.block 2 (.seq (.reg l96r9) (.cond (.tmp 46) (.draw l96r10) (.seq (.reg l96r11) (.cond (.tmp 56) (.reg l96r12) (.seq (.reg l96r13) (.cond (.tmp 64) (.draw l96r14) (.seq (.reg l96r15) (.cond (.tmp 76) (.draw l96r16) (.seq (.reg l96r17) (.cond (.tmp 87) (.reg l96r18) (.seq (.reg l96r19) (.seq (.draw l96r20) (.reg l96r21))))))))))))))) (.seq (.reg l96r22) (.cond (.tmp 99) (.reg l96r23) .skip))))))) (.reg l96r24)))))) (.seq (.seq (.reg l96r25) (.cond (.tmp 103) (.reg l96r26) .skip)) (.seq (.reg l96r27) .ret)))))) [.cell 2 true 3])
theorem l96_eq : lowFn Try.prog 96 = some l96 := by kernel_rfl
def l97r0 : List AOper :=
  [.mk (some 2) (.alloc [.int .i64 0,.slice none 0 0,.slice none 0 0]) none []]
def l97r1 : List AOper :=
  [.mk (some 4) (.mv (.tmp 0)) none [],.mk (some 5) (.call 96 [.tmp 4]) none [0],.mk (some 3) (.alloc [.int .i64 0,.slice none 0 0,.slice none 0 0]) none [],.mk none (.store 3 (.tmp 3) (.tmp 5)) none [2,1,1,0,1,2]]
def l97r2 : List AOper :=
  [.mk (some 6) (.mv (.tmp 0)) none [],.mk (some 7) (.call 78 [.tmp 6,.const (.int .i64 24)]) none [0]]
def l97r3 : List AOper :=
  [.mk (some 9) (.bin .eql (.tmp 7) (.const (.int .i64 0))) none [],.mk (some 8) (.mv (.tmp 9)) none [0]]
def l97r4 : List AOper :=
  [.mk (some 10) (.mv (.tmp 0)) none [],.mk (some 11) (.bslice 1 [.int .i64 0] [(0,.const (.int .i64 (-1))),(1,.const (.int .i64 60)),(2,.const (.int .i64 61))] 3) none [],.mk (some 12) (.call 46 [.tmp 10,.tmp 11]) none [0,1],.mk (some 13) (.fld 0 (.tmp 3)) none [0,1,2],.mk none (.store 1 (.tmp 13) (.tmp 12)) none [3,2,2,0,1,2]]
def l97r5 : List AOper :=
  [.mk (some 15) (.bin .eql (.tmp 7) (.const (.int .i64 1))) none [],.mk (some 14) (.mv (.tmp 15)) none [0]]
def l97r6 : List AOper :=
  [.mk (some 16) (.fld 2 (.tmp 3)) none [],.mk (some 17) (.load false 1 (.tmp 16)) none [0],.mk (some 18) (.bslice 1 [.int .i64 0] [(0,.const (.int .i64 1))] 1) none [],.mk (some 19) (.append 1 (.tmp 17) (.tmp 18)) none [1,2],.mk (some 20) (.fld 2 (.tmp 3)) none [0,1,2,3],.mk none (.store 1 (.tmp 20) (.tmp 19)) none [4,3,3,0,1,2,3]]
def l97r7 : List AOper :=
  [.mk (some 22) (.bin .eql (.tmp 7) (.const (.int .i64 2))) none [],.mk (some 21) (.mv (.tmp 22)) none [0]]
def l97r8 : List AOper :=
  [.mk (some 23) (.fld 2 (.tmp 3)) none [],.mk (some 24) (.load false 1 (.tmp 23)) none [0],.mk (some 25) (.len (.tmp 24)) none [1],.mk (some 26) (.bin .gtr (.tmp 25) (.const (.int .i64 0))) none [2]]
def l97r9a : List AOper :=
  [.mk (some 27) (.fld 2 (.tmp 3)) none [],.mk (some 28) (.load false 1 (.tmp 27)) none [0],.mk (some 29) (.mv (.tmp 0)) none [],.mk (some 30) (.bslice 1 [.int .i64 0] [(0,.const (.int .i64 61)),(1,.const (.int .i64 (-61))),(2,.const (.int .i64 60))] 3) none [],.mk (some 31) (.call 46 [.tmp 29,.tmp 30]) none [2,3]]
def l97r9b : List AOper :=
  [.mk (some 32) (.idxA 1 (.tmp 28) (.const (.int .i64 0))) none [1,0,1,2,3,4],.mk none (.store 1 (.tmp 32) (.tmp 31)) none [5,4,4,0,1,2,3,4]]
def l97r9 : List AOper := l97r9a ++ l97r9b
def l97r10 : List AOper :=
  [.mk (some 33) (.load true 3 (.tmp 3)) none [],.mk none (.store 3 (.tmp 2) (.tmp 33)) none [0,0]]
def l97 : AFn :=
  (AFn.mk 34 1 (.seq (.reg l97r0) (.seq (.reg l97r1) (.seq (.seq (.reg l97r2) (.block 0 (.seq (.reg l97r3) (.cond (.tmp 8) (.reg l97r4) (.seq (.reg l97r5) (.cond (.tmp 14) (.reg l97r6) (.seq (.reg l97r7) (.cond (.tmp 21) (.seq (.reg l97r8) (.cond (.tmp 26) (.draw l97r9) .skip)) .skip)))))))) (.seq (.reg l97r10) .ret)))) [.cell 2 true 3])
theorem l97_eq : lowFn Try.prog 97 = some l97 := by kernel_rfl
def l98r0 : List AOper :=
  [.mk (some 1) (.box (.tmp 0)) none [],.mk (some 2) (.mv (.const (.int .i64 0))) none []]
def l98r1a : List AOper :=
  [.mk (some 5) (.fld 1 (.tmp 1)) none [],.mk (some 6) (.load false 1 (.tmp 5)) none [0],.mk (some 7) (.fld 0 (.tmp 1)) none [],.mk (some 8) (.load false 1 (.tmp 7)) none [2],.mk (some 9) (.bin .sub (.tmp 6) (.tmp 8)) none [1,3],.mk (some 10) (.fld 2 (.tmp 1)) none [],.mk (some 11) (.load false 1 (.tmp 10)) none [5],.mk (some 3) (.mv (.tmp 9)) none [4,0,1,2,3,4]]
def l98r1b : List AOper :=
  [.mk (some 4) (.mv (.tmp 11)) none [6,7,0,1,2,3,4,5,6,7]]
def l98r1 : List AOper := l98r1a ++ l98r1b
def l98r2 : List AOper :=
  [.mk (some 12) (.mv (.tmp 4)) none [],.mk (some 13) (.bin .lss (.tmp 12) (.const (.int .i64 0))) none [0]]
def l98r3 : List AOper :=
  [.mk (some 14) (.mv (.tmp 3)) none [],.mk (some 15) (.un .neg (.tmp 14)) none [0],.mk (some 16) (.mv (.tmp 4)) none [],.mk (some 17) (.un .neg (.tmp 16)) none [2],.mk (some 3) (.mv (.tmp 15)) none [1,0,1],.mk (some 4) (.mv (.tmp 17)) none [3,4,0,1,2,3,4]]
def l98r4 : List AOper :=
  [.mk (some 18) (.mv (.tmp 3)) none [],.mk (some 19) (.bin .leq (.tmp 18) (.const (.int .i64 0))) none [0]]
def l98r5 : List AOper :=
  [.mk (some 2) (.mv (.const (.int .i64 0))) none []]
def l98r6 : List AOper :=
  [.mk (some 20) (.mv (.tmp 3)) none [],.mk (some 21) (.mv (.tmp 4)) none [],.mk (some 22) (.bin .add (.tmp 20) (.tmp 21)) none [0,1],.mk (some 23) (.bin .sub (.tmp 22) (.const (.int .i64 1))) none [2],.mk (some 24) (.mv (.tmp 4)) none [],.mk (some 25) (.bin .quo (.tmp 23) (.tmp 24)) none [3,4],.mk (some 2) (.mv (.tmp 25)) none [5,0,1,2,3,4,5]]
def l98 : AFn :=
  (AFn.mk 26 1 (.seq (.reg l98r0) (.seq (.draw l98r1) (.seq (.seq (.reg l98r2) (.cond (.tmp 13) (.reg l98r3) .skip)) (.seq (.seq (.reg l98r4) (.cond (.tmp 19) (.seq (.reg l98r5) .ret) .skip)) (.seq (.reg l98r6) .ret))))) [.tmp 2])
theorem l98_eq : lowFn Try.prog 98 = some l98 := by kernel_rfl
def l99r0 : List AOper :=
  [.mk (some 2) (.box (.tmp 0)) none [],.mk (some 4) (.mv (.const (.int .i64 0))) none []]
def l99r1 : List AOper :=
  [.mk (some 5) (.fld 0 (.tmp 2)) none [],.mk (some 6) (.load false 1 (.tmp 5)) none [0],.mk (some 7) (.mv (.tmp 1)) none [],.mk (some 8) (.fld 2 (.tmp 2)) none [],.mk (some 9) (.load false 1 (.tmp 8)) none [3],.mk (some 10) (.bin .mul (.tmp 7) (.tmp 9)) none [2,4],.mk (some 11) (.bin .add (.tmp 6) (.tmp 10)) none [1,5],.mk (some 4) (.mv (.tmp 11)) none [6,0,1,2,3,4,5,6]]
def l99 : AFn :=
  (AFn.mk 12 2 (.seq (.reg l99r0) (.seq (.reg l99r1) .ret)) [.tmp 4])
theorem l99_eq : lowFn Try.prog 99 = some l99 := by kernel_rfl
def l101r0 : List AOper :=
  [.mk (some 1) (.box (.tmp 0)) none [],.mk (some 2) (.mv (.const (.bool false))) none []]
def l101r1 : List AOper :=
  [.mk (some 3) (.fld 1 (.tmp 1)) none [],.mk (some 4) (.load false 1 (.tmp 3)) none [0],.mk (some 5) (.call 83 [.tmp 4]) none [1],.mk (some 6) (.mv (.tmp 5)) none [2,2],.mk (some 7) (.fld 2 (.tmp 1)) (some (6,true)) [3],.mk (some 8) (.load false 1 (.tmp 7)) (some (6,true)) [4,3],.mk (some 9) (.len (.tmp 8)) (some (6,true)) [5,3],.mk (some 10) (.fld 1 (.tmp 1)) (some (6,true)) [3],.mk (some 11) (.load false 1 (.tmp 10)) (some (6,true)) [7,3],.mk (some 12) (.len (.tmp 11)) (some (6,true)) [8,3],.mk (some 13) (.bin .eql (.tmp 9) (.tmp 12)) (some (6,true)) [6,9,3],.mk (some 14) (.pick (.tmp 6) (.tmp 13) (.const (.bool false))) none [3,10],.mk (some 15) (.mv (.tmp 14)) none [11,3],.mk (some 16) (.fld 2 (.tmp 1)) (some (15,true)) [12],.mk (some 17) (.load false 1 (.tmp 16)) (some (15,true)) [13,12],.mk (some 18) (.call 56 [.tmp 17,.const (.int .i64 (-60)),.const (.int .i64 60)]) (some (15,true)) [14,12,12],.mk (some 19) (.pick (.tmp 15) (.tmp 18) (.const (.bool false))) none [12,15],.mk (some 20) (.mv (.tmp 19)) none [16,15],.mk (some 21) (.fld 0 (.tmp 1)) (some (20,true)) [17],.mk (some 22) (.load false 1 (.tmp 21)) (some (20,true)) [18,17],.mk (some 23) (.call 57 [.tmp 22,.const (.int .i64 0),.const (.int .i64 60)]) (some (20,true)) [19,17,17],.mk (some 24) (.pick (.tmp 20) (.tmp 23) (.const (.bool false))) none [17,20],.mk (some 25) (.mv (.tmp 24)) none [21,20],.mk (some 26) (.fld 1 (.tmp 1)) (some (25,true)) [22],.mk (some 27) (.load false 1 (.tmp 26)) (some (25,true)) [23,22],.mk (some 28) (.call 84 [.tmp 27]) (some (25,true)) [24,22,22],.mk (some 29) (.bin .eql (.tmp 28) (.const (.int .i64 0))) (some (25,true)) [25,22],.mk (some 30) (.mv (.tmp 29)) (some (25,true)) [26,25,22],.mk (some 31) (.load true 3 (.tmp 1)) (some (30,false)) [27],.mk (some 32) (.call 70 [.tmp 31]) (some (30,false)) [28,27,27],.mk (some 33) (.call 56 [.tmp 32,.const (.int .i64 0),.const (.int .i64 59)]) (some (30,false)) [29,29,27],.mk (some 34) (.pick (.tmp 30) (.const (.bool true)) (.tmp 33)) (some (25,true)) [27,30,22],.mk (some 35) (.pick (.tmp 25) (.tmp 34) (.const (.bool false))) none [22,31],.mk (some 2) (.mv (.tmp 35)) none [32,30,0,1,2,3,4,5,6,7,8,9,10,11,12,13,14,15,16,17,18,19,20,21,22,23,24,25,26,27,28,29,30,31,32]]
def l101 : AFn :=
  (AFn.mk 36 1 (.seq (.reg l101r0) (.seq (.reg l101r1) .ret)) [.tmp 2])
theorem l101_eq : lowFn Try.prog 101 = some l101 := by kernel_rfl
def l102r0 : List AOper :=
  [.mk (some 2) (.box (.tmp 0)) none [],.mk (some 4) (.mv (.const (.int .i64 0))) none []]
def l102r1 : List AOper :=
  [.mk (some 7) (.fld 0 (.tmp 2)) none [],.mk (some 8) (.load false 1 (.tmp 7)) none [0],.mk (some 5) (.mv (.tmp 8)) none [1,0,1]]
def l102r2 : List AOper :=
  [.mk (some 6) (.mv (.const (.int .i64 0))) none []]
def l102r3 : List AOper :=
  [.mk (some 9) (.mv (.tmp 6)) none [],.mk (some 10) (.mv (.tmp 1)) none [],.mk (some 11) (.len (.tmp 10)) none [1],.mk (some 12) (.bin .lss (.tmp 9) (.tmp 11)) none [0,2]]
def l102r4a : List AOper :=
  [.mk (some 15) (.mv (.tmp 5)) none [],.mk (some 16) (.mv (.tmp 1)) none [],.mk (some 17) (.mv (.tmp 6)) none [],.mk (some 18) (.idxA 1 (.tmp 16) (.tmp 17)) none [1,2],.mk (some 19) (.load false 1 (.tmp 18)) none [3],.mk (some 20) (.fld 2 (.tmp 2)) none [],.mk (some 21) (.load false 1 (.tmp 20)) none [5],.mk (some 22) (.mv (.tmp 6)) none [],.mk (some 23) (.idxA 1 (.tmp 21) (.tmp 22)) none [6,7],.mk (some 24) (.load false 1 (.tmp 23)) none [8],.mk (some 25) (.bin .mul (.tmp 19) (.tmp 24)) none [4,9]]
def l102r4b : List AOper :=
  [.mk (some 26) (.bin .add (.tmp 15) (.tmp 25)) none [0,10],.mk (some 5) (.mv (.tmp 26)) none [11,0,1,2,3,4,5,6,7,8,9,10,11]]
def l102r4 : List AOper := l102r4a ++ l102r4b
def l102r5 : List AOper :=
  [.mk (some 13) (.mv (.tmp 6)) none [],.mk (some 14) (.bin .add (.tmp 13) (.const (.int .i64 1))) none [0],.mk (some 6) (.mv (.tmp 14)) none [1,0,1]]
def l102r6 : List AOper :=
  [.mk (some 27) (.mv (.tmp 5)) none [],.mk (some 4) (.mv (.tmp 27)) none [0,0]]
def l102 : AFn :=
  (AFn.mk 28 2 (.seq (.reg l102r0) (.seq (.reg l102r1) (.seq (.seq (.reg l102r2) (.block 0 (.loop (.seq (.seq (.reg l102r3) (.cond (.tmp 12) .skip (.exit 0))) (.seq (.block 1 (.draw l102r4)) (.reg l102r5)))))) (.seq (.reg l102r6) .ret)))) [.tmp 4])
theorem l102_eq : lowFn Try.prog 102 = some l102 := by kernel_rfl
def l103r0 : List AOper :=
  [.mk (some 4) (.mv (.const (.slice none 0 0))) none []]
def l103r1 : List AOper :=
  [.mk (some 7) (.mv (.tmp 0)) none [],.mk (some 8) (.len (.tmp 7)) none [0],.mk (some 9) (.mkslice 1 [.int .i64 0] (.tmp 8) (.tmp 8)) none [1,1],.mk (some 5) (.mv (.tmp 9)) none [2,0,1,2]]
def l103r2 : List AOper :=
  [.mk (some 10) (.mv (.tmp 0)) none [],.mk (some 11) (.len (.tmp 10)) none [0],.mk (some 12) (.bin .sub (.tmp 11) (.const (.int .i64 1))) none [1],.mk (some 6) (.mv (.tmp 12)) none [2,0,1,2]]
def l103r3 : List AOper :=
  [.mk (some 13) (.mv (.tmp 6)) none [],.mk (some 14) (.bin .geq (.tmp 13) (.const (.int .i64 0))) none [0]]
def l103r4 : List AOper :=
  [.mk (some 17) (.mv (.tmp 5)) none [],.mk (some 18) (.mv (.tmp 6)) none [],.mk (some 19) (.mv (.tmp 1)) none [],.mk (some 20) (.mv (.tmp 0)) none [],.mk (some 21) (.mv (.tmp 6)) none [],.mk (some 22) (.idxA 1 (.tmp 20) (.tmp 21)) none [3,4],.mk (some 23) (.load false 1 (.tmp 22)) none [5],.mk (some 24) (.bin .rem (.tmp 19) (.tmp 23)) none [2,6],.mk (some 25) (.idxA 1 (.tmp 17) (.tmp 18)) none [0,1,0,1,2,3,4,5,6,7],.mk none (.store 1 (.tmp 25) (.tmp 24)) none [8,7,0,1,2,3,4,5,6,7]]
def l103r5 : List AOper :=
  [.mk (some 26) (.mv (.tmp 1)) none [],.mk (some 27) (.mv (.tmp 0)) none [],.mk (some 28) (.mv (.tmp 6)) none [],.mk (some 29) (.idxA 1 (.tmp 27) (.tmp 28)) none [1,2],.mk (some 30) (.load false 1 (.tmp 29)) none [3],.mk (some 31) (.bin .quo (.tmp 26) (.tmp 30)) none [0,4],.mk (some 1) (.mv (.tmp 31)) none [5,0,1,2,3,4,5]]
def l103r6 : List AOper :=
  [.mk (some 15) (.mv (.tmp 6)) none [],.mk (some 16) (.bin .sub (.tmp 15) (.const (.int .i64 1))) none [0],.mk (some 6) (.mv (.tmp 16)) none [1,0,1]]
def l103r7 : List AOper :=
  [.mk (some 32) (.mv (.tmp 5)) none [],.mk (some 4) (.mv (.tmp 32)) none [0,0]]
def l103 : AFn :=
  (AFn.mk 33 2 (.seq (.reg l103r0) (.seq (.reg l103r1) (.seq (.seq (.reg l103r2) (.block 0 (.loop (.seq (.seq (.reg l103r3) (.cond (.tmp 14) .skip (.exit 0))) (.seq (.block 1 (.seq (.reg l103r4) (.reg l103r5))) (.reg l103r6)))))) (.seq (.reg l103r7) .ret)))) [.tmp 4])
theorem l103_eq : lowFn Try.prog 103 = some l103 := by kernel_rfl
def l104r0 : List AOper :=
  [.mk (some 1) (.box (.tmp 0)) none [],.mk (some 2) (.mv (.const (.int .i64 0))) none []]
def l104r1 : List AOper :=
  [.mk (some 3) (.fld 1 (.tmp 1)) none [],.mk (some 4) (.load false 1 (.tmp 3)) none [0],.mk (some 5) (.call 42 [.tmp 4]) none [1],.mk (some 2) (.mv (.tmp 5)) none [2,2,0,1,2]]
def l104 : AFn :=
  (AFn.mk 6 1 (.seq (.reg l104r0) (.seq (.reg l104r1) .ret)) [.tmp 2])
theorem l104_eq : lowFn Try.prog 104 = some l104 := by kernel_rfl
def l105r0 : List AOper :=
  [.mk (some 2) (.box (.tmp 0)) none [],.mk (some 3) (.box (.tmp 1)) none [],.mk (some 4) (.mv (.const (.int .i64 0))) none []]
def l105r1a : List AOper :=
  [.mk (some 5) (.fld 0 (.tmp 2)) none [],.mk (some 6) (.load false 1 (.tmp 5)) none [0],.mk (some 7) (.load true 4 (.tmp 3)) none [],.mk (some 8) (.fld 2 (.tmp 2)) none [],.mk (some 9) (.load false 1 (.tmp 8)) none [3],.mk (some 10) (.call 126 [.tmp 7,.tmp 9]) none [2,4]]
def l105r1b : List AOper :=
  [.mk (some 11) (.bin .add (.tmp 6) (.tmp 10)) none [1,5],.mk (some 4) (.mv (.tmp 11)) none [6,5,0,1,2,3,4,5,6]]
def l105r1 : List AOper := l105r1a ++ l105r1b
def l105 : AFn :=
  (AFn.mk 12 2 (.seq (.reg l105r0) (.seq (.draw l105r1) .ret)) [.tmp 4])
theorem l105_eq : lowFn Try.prog 105 = some l105 := by kernel_rfl
def l106r0 : List AOper :=
  [.mk (some 4) (.alloc [.int .i64 0,.int .i64 0,.int .i64 0,.int .i64 0]) none []]
def l106r1 : List AOper :=
  [.mk (some 5) (.alloc [.int .i64 0,.int .i64 0,.int .i64 0,.int .i64 0]) none []]
def l106r2 : List AOper :=
  [.mk (some 7) (.mv (.tmp 0)) none [],.mk (some 8) (.len (.tmp 7)) none [0],.mk (some 9) (.bin .sub (.tmp 8) (.const (.int .i64 1))) none [1],.mk (some 6) (.mv (.tmp 9)) none [2,0,1,2]]
def l106r3 : List AOper :=
  [.mk (some 10) (.mv (.tmp 6)) none [],.mk (some 11) (.bin .geq (.tmp 10) (.const (.int .i64 0))) none [0]]
def l106r4 : List AOper :=
  [.mk (some 14) (.mv (.tmp 6)) none [],.mk (some 15) (.mv (.tmp 1)) none [],.mk (some 16) (.mv (.tmp 0)) none [],.mk (some 17) (.mv (.tmp 6)) none [],.mk (some 18) (.idxA 1 (.tmp 16) (.tmp 17)) none [2,3],.mk (some 19) (.load false 1 (.tmp 18)) none [4],.mk (some 20) (.bin .rem (.tmp 15) (.tmp 19)) none [1,5],.mk (some 21) (.idxP 1 4 (.tmp 5) (.tmp 14)) none [0,0,1,2,3,4,5,6],.mk none (.store 1 (.tmp 21) (.tmp 20)) none [7,6,0,1,2,3,4,5,6]]
def l106r5 : List AOper :=
  [.mk (some 22) (.mv (.tmp 1)) none [],.mk (some 23) (.mv (.tmp 0)) none [],.mk (some 24) (.mv (.tmp 6)) none [],.mk (some 25) (.idxA 1 (.tmp 23) (.tmp 24)) none [1,2],.mk (some 26) (.load false 1 (.tmp 25)) none [3],.mk (some 27) (.bin .quo (.tmp 22) (.tmp 26)) none [0,4],.mk (some 1) (.mv (.tmp 27)) none [5,0,1,2,3,4,5]]
def l106r6 : List AOper :=
  [.mk (some 12) (.mv (.tmp 6)) none [],.mk (some 13) (.bin .sub (.tmp 12) (.const (.int .i64 1))) none [0],.mk (some 6) (.mv (.tmp 13)) none [1,0,1]]
def l106r7 : List AOper :=
  [.mk (some 28) (.load true 4 (.tmp 5)) none [],.mk none (.store 4 (.tmp 4) (.tmp 28)) none [0,0]]
def l106 : AFn :=
  (AFn.mk 29 2 (.seq (.reg l106r0) (.seq (.reg l106r1) (.seq (.seq (.reg l106r2) (.block 0 (.loop (.seq (.seq (.reg l106r3) (.cond (.tmp 11) .skip (.exit 0))) (.seq (.block 1 (.seq (.reg l106r4) (.reg l106r5))) (.reg l106r6)))))) (.seq (.reg l106r7) .ret)))) [.cell 4 true 4])
theorem l106_eq : lowFn Try.prog 106 = some l106 := by kernel_rfl
def l107r0 : List AOper :=
  [.mk (some 2) (.box (.tmp 0)) none [],.mk (some 3) (.box (.tmp 1)) none [],.mk (some 4) (.mv (.const (.slice none 0 0))) none []]
def l107r1 : List AOper :=
  [.mk (some 6) (.raw (Op.makeMap 81 none)) none [],.mk (some 5) (.mv (.tmp 6)) none [0,0]]
def l107r2 : List AOper :=
  [.mk (some 7) (.mv (.tmp 5)) none [],.mk (some 8) (.load true 3 (.tmp 2)) none [],.mk (some 9) (.call 80 [.tmp 8]) none [1],.mk (some 10) (.call 72 [.tmp 7,.tmp 9]) none [0,2,2]]
def l107r3 : List AOper :=
  [.mk (some 11) (.mv (.tmp 5)) none [],.mk (some 12) (.load true 3 (.tmp 3)) none [],.mk (some 13) (.call 80 [.tmp 12]) none [1],.mk (some 14) (.call 72 [.tmp 11,.tmp 13]) none [0,2,2]]
def l107r4 : List AOper :=
  [.mk (some 15) (.mv (.tmp 5)) none [],.mk (some 16) (.call 68 [.tmp 15,.const (.int .i64 2)]) none [0],.mk (some 4) (.mv (.tmp 16)) none [1,1,0,1]]
def l107 : AFn :=
  (AFn.mk 17 2 (.seq (.reg l107r0) (.seq (.reg l107r1) (.seq (.reg l107r2) (.seq (.reg l107r3) (.seq (.reg l107r4) .ret))))) [.tmp 4])
theorem l107_eq : lowFn Try.prog 107 = some l107 := by kernel_rfl
def l108r0 : List AOper :=
  [.mk (some 4) (.mv (.const (.bool false))) none []]
def l108r1 : List AOper :=
  [.mk (some 7) (.mv (.tmp 0)) none [],.mk (some 8) (.len (.tmp 7)) none [0],.mk (some 9) (.mv (.tmp 1)) none [],.mk (some 10) (.bin .neq (.tmp 8) (.tmp 9)) none [1,2]]
def l108r2 : List AOper :=
  [.mk (some 4) (.mv (.const (.bool false))) none []]
def l108r3 : List AOper :=
  [.mk (some 11) (.mv (.tmp 0)) none [],.mk (some 12) (.len (.tmp 11)) none [0],.mk (some 13) (.mv (.const (.int .i64 0))) none []]
def l108r4 : List AOper :=
  [.mk (some 14) (.bin .lss (.tmp 13) (.tmp 12)) none []]
def l108r5 : List AOper :=
  [.mk (some 15) (.idxA 1 (.tmp 11) (.tmp 13)) none [],.mk (some 16) (.load false 1 (.tmp 15)) none [0],.mk (some 6) (.mv (.tmp 16)) none [1,0,1]]
def l108r6 : List AOper :=
  [.mk (some 17) (.mv (.tmp 6)) none [],.mk (some 18) (.call 43 [.tmp 17,.const (.int .i64 60)]) none [0],.mk (some 19) (.un .not (.tmp 18)) none [1]]
def l108r7 : List AOper :=
  [.mk (some 4) (.mv (.const (.bool false))) none []]
def l108r8 : List AOper :=
  [.mk (some 20) (.bin .add (.tmp 13) (.const (.int .i64 1))) none [],.mk (some 13) (.mv (.tmp 20)) none [0]]
def l108r9 : List AOper :=
  [.mk (some 4) (.mv (.const (.bool true))) none []]
def l108 : AFn :=
  (AFn.mk 21 2 (.seq (.reg l108r0) (.seq (.seq (.reg l108r1) (.cond (.tmp 10) (.seq (.reg l108r2) .ret) .skip)) (.seq (.seq (.reg l108r3) (.block 0 (.loop (.seq (.reg l108r4) (.seq (.cond (.tmp 14) .skip (.exit 0)) (.seq (.block 1 (.seq (.reg l108r5) (.seq (.reg l108r6) (.cond (.tmp 19) (.seq (.reg l108r7) .ret) .skip)))) (.reg l108r8))))))) (.seq (.reg l108r9) .ret)))) [.tmp 4])
theorem l108_eq : lowFn Try.prog 108 = some l108 := by kernel_rfl
def l109r0 : List AOper :=
  [.mk (some 2) (.mv (.const (.slice none 0 0))) none []]
def l109r1 : List AOper :=
  [.mk (some 3) (.bslice 1 [.int .i64 0] [] 0) none [],.mk (some 4) (.mv (.tmp 0)) none [],.mk (some 5) (.append 1 (.tmp 3) (.tmp 4)) none [0,1],.mk (some 2) (.mv (.tmp 5)) none [2,2,0,1,2]]
def l109 : AFn :=
  (AFn.mk 6 1 (.seq (.reg l109r0) (.seq (.reg l109r1) .ret)) [.tmp 2])
theorem l109_eq : lowFn Try.prog 109 = some l109 := by kernel_rfl
def l112r0 : List AOper :=
  [.mk (some 1) (.box (.tmp 0)) none [],.mk (some 2) (.mv (.const (.bool false))) none []]
def l112r1 : List AOper :=
  [.mk (some 3) (.fld 0 (.tmp 1)) none [],.mk (some 4) (.load false 1 (.tmp 3)) none [0],.mk (some 5) (.call 57 [.tmp 4,.const (.int .i64 (-100)),.const (.int .i64 100)]) none [1],.mk (some 6) (.mv (.tmp 5)) none [2,2],.mk (some 7) (.fld 1 (.tmp 1)) (some (6,true)) [3],.mk (some 8) (.load false 1 (.tmp 7)) (some (6,true)) [4,3],.mk (some 9) (.call 57 [.tmp 8,.const (.int .i64 (-101)),.const (.int .i64 101)]) (some (6,true)) [5,3,3],.mk (some 10) (.pick (.tmp 6) (.tmp 9) (.const (.bool false))) none [3,6],.mk (some 11) (.mv (.tmp 10)) none [7,6],.mk (some 12) (.fld 2 (.tmp 1)) (some (11,true)) [8],.mk (some 13) (.load false 1 (.tmp 12)) (some (11,true)) [9,8],.mk (some 14) (.call 57 [.tmp 13,.const (.int .i64 (-200)),.const (.int .i64 200)]) (some (11,true)) [10,8,8],.mk (some 15) (.pick (.tmp 11) (.tmp 14) (.const (.bool false))) none [8,11],.mk (some 16) (.mv (.tmp 15)) none [12,11],.mk (some 17) (.fld 2 (.tmp 1)) (some (16,true)) [13],.mk (some 18) (.load false 1 (.tmp 17)) (some (16,true)) [14,13],.mk (some 19) (.bin .neq (.tmp 18) (.const (.int .i64 0))) (some (16,true)) [15,13],.mk (some 20) (.pick (.tmp 16) (.tmp 19) (.const (.bool false))) none [13,16],.mk (some 2) (.mv (.tmp 20)) none [17,13,0,1,2,3,4,5,6,7,8,9,10,11,12,13,14,15,16,17]]
def l112 : AFn :=
  (AFn.mk 21 1 (.seq (.reg l112r0) (.seq (.reg l112r1) .ret)) [.tmp 2])
theorem l112_eq : lowFn Try.prog 112 = some l112 := by kernel_rfl
def l113r0 : List AOper :=
  [.mk (some 2) (.alloc [.int .i64 0,.int .i64 0,.int .i64 0]) none []]
def l113r1 : List AOper :=
  [.mk (some 5) (.mv (.tmp 0)) none [],.mk (some 6) (.len (.tmp 5)) none [0]]
def l113r2 : List AOper :=
  [.mk (some 8) (.bin .eql (.tmp 6) (.const (.int .i64 0))) none [],.mk (some 7) (.mv (.tmp 8)) none [0]]
def l113r3 : List AOper :=
  [.mk (some 9) (.build [.int .i64 0,.int .i64 0,.int .i64 0] [(0,1,.const (.int .i64 0)),(1,1,.const (.int .i64 0)),(2,1,.const (.int .i64 1))]) none [],.mk none (.store 3 (.tmp 2) (.tmp 9)) none [0,0]]
def l113r4 : List AOper :=
  [.mk (some 11) (.bin .eql (.tmp 6) (.const (.int .i64 1))) none [],.mk (some 10) (.mv (.tmp 11)) none [0]]
def l113r5a : List AOper :=
  [.mk (some 12) (.mv (.tmp 0)) none [],.mk (some 13) (.idxA 1 (.tmp 12) (.const (.int .i64 0))) none [0],.mk (some 14) (.load false 1 (.tmp 13)) none [1],.mk (some 15) (.mv (.tmp 0)) none [],.mk (some 16) (.idxA 1 (.tmp 15) (.const (.int .i64 0))) none [3],.mk (some 17) (.load false 1 (.tmp 16)) none [4],.mk (some 18) (.bin .add (.tmp 17) (.const (.int .i64 1))) none [5]]
def l113r5b : List AOper :=
  [.mk (some 19) (.build [.int .i64 0,.int .i64 0,.int .i64 0] [(0,1,.tmp 14),(1,1,.tmp 18),(2,1,.const (.int .i64 1))]) none [2,6],.mk none (.store 3 (.tmp 2) (.tmp 19)) none [7,0,1,2,3,4,5,6,7]]
def l113r5 : List AOper := l113r5a ++ l113r5b
def l113r6a : List AOper :=
  [.mk (some 20) (.mv (.tmp 0)) none [],.mk (some 21) (.idxA 1 (.tmp 20) (.const (.int .i64 1))) none [0],.mk (some 22) (.load false 1 (.tmp 21)) none [1],.mk (some 23) (.mv (.tmp 0)) none [],.mk (some 24) (.idxA 1 (.tmp 23) (.const (.int .i64 0))) none [3],.mk (some 25) (.load false 1 (.tmp 24)) none [4]]
def l113r6b : List AOper :=
  [.mk (some 26) (.bin .sub (.tmp 22) (.tmp 25)) none [2,5],.mk (some 3) (.mv (.tmp 26)) none [6,0,1,2,3,4,5,6]]
def l113r6 : List AOper := l113r6a ++ l113r6b
def l113r7 : List AOper :=
  [.mk (some 27) (.mv (.tmp 0)) none [],.mk (some 28) (.mv (.tmp 0)) none [],.mk (some 29) (.len (.tmp 28)) none [1],.mk (some 30) (.bin .sub (.tmp 29) (.const (.int .i64 1))) none [2],.mk (some 31) (.idxA 1 (.tmp 27) (.tmp 30)) none [0,3],.mk (some 32) (.load false 1 (.tmp 31)) none [4],.mk (some 33) (.bin .add (.tmp 32) (.const (.int .i64 1))) none [5],.mk (some 4) (.mv (.tmp 33)) none [6,0,1,2,3,4,5,6]]
def l113r8 : List AOper :=
  [.mk (some 34) (.mv (.tmp 3)) none [],.mk (some 35) (.bin .lss (.tmp 34) (.const (.int .i64 0))) none [0]]
def l113r9 : List AOper :=
  [.mk (some 36) (.mv (.tmp 0)) none [],.mk (some 37) (.mv (.tmp 0)) none [],.mk (some 38) (.len (.tmp 37)) none [1],.mk (some 39) (.bin .sub (.tmp 38) (.const (.int .i64 1))) none [2],.mk (some 40) (.idxA 1 (.tmp 36) (.tmp 39)) none [0,3],.mk (some 41) (.load false 1 (.tmp 40)) none [4],.mk (some 42) (.bin .sub (.tmp 41) (.const (.int .i64 1))) none [5],.mk (some 4) (.mv (.tmp 42)) none [6,0,1,2,3,4,5,6]]
def l113r10 : List AOper :=
  [.mk (some 43) (.mv (.tmp 0)) none [],.mk (some 44) (.idxA 1 (.tmp 43) (.const (.int .i64 0))) none [0],.mk (some 45) (.load false 1 (.tmp 44)) none [1],.mk (some 46) (.mv (.tmp 4)) none [],.mk (some 47) (.mv (.tmp 3)) none [],.mk (some 48) (.build [.int .i64 0,.int .i64 0,.int .i64 0] [(0,1,.tmp 45),(1,1,.tmp 46),(2,1,.tmp 47)]) none [2,3,4],.mk none (.store 3 (.tmp 2) (.tmp 48)) none [5,0,1,2,3,4,5]]
def l113 : AFn :=
  (AFn.mk 49 1 (.seq (.reg l113r0) (.seq (.seq (.reg l113r1) (.block 0 (.seq (.reg l113r2) (.cond (.tmp 7) (.seq (.reg l113r3) .ret) (.seq (.reg l113r4) (.cond (.tmp 10) (.seq (.draw l113r5) .ret) .skip)))))) (.seq (.draw l113r6) (.seq (.reg l113r7) (.seq (.seq (.reg l113r8) (.cond (.tmp 35) (.reg l113r9) .skip)) (.seq (.reg l113r10) .ret)))))) [.cell 2 true 3])
theorem l113_eq : lowFn Try.prog 113 = some l113 := by kernel_rfl
def l114r0 : List AOper :=
  [.mk (some 2) (.alloc [.int .i64 0,.slice none 0 0,.slice none 0 0]) none []]
def l114r1 : List AOper :=
  [.mk (some 3) (.mv (.tmp 0)) none [],.mk (some 4) (.call 83 [.tmp 3]) none [0],.mk (some 5) (.un .not (.tmp 4)) none [1]]
def l114r2 : List AOper :=
  [.mk (some 6) (.build [.int .i64 0,.slice none 0 0,.slice none 0 0] []) none [],.mk none (.store 3 (.tmp 2) (.tmp 6)) none [0,0]]
def l114r3 : List AOper :=
  [.mk (some 7) (.mv (.tmp 0)) none [],.mk (some 8) (.call 84 [.tmp 7]) none [0],.mk (some 9) (.bin .eql (.tmp 8) (.const (.int .i64 0))) none [1]]
def l114r4a : List AOper :=
  [.mk (some 10) (.mv (.tmp 0)) none [],.mk (some 11) (.call 109 [.tmp 10]) none [0],.mk (some 12) (.mv (.tmp 0)) none [],.mk (some 13) (.len (.tmp 12)) none [2],.mk (some 14) (.mkslice 1 [.int .i64 0] (.tmp 13) (.tmp 13)) none [3,3]]
def l114r4b : List AOper :=
  [.mk (some 15) (.build [.int .i64 0,.slice none 0 0,.slice none 0 0] [(1,1,.tmp 11),(2,1,.tmp 14)]) none [1,4],.mk none (.store 3 (.tmp 2) (.tmp 15)) none [5,1,0,1,2,3,4,5]]
def l114r4 : List AOper := l114r4a ++ l114r4b
def l114r5 : List AOper :=
  [.mk (some 16) (.mv (.tmp 0)) none [],.mk (some 17) (.call 109 [.tmp 16]) none [0],.mk (some 18) (.mv (.tmp 0)) none [],.mk (some 19) (.call 128 [.tmp 18]) none [2,1],.mk (some 20) (.build [.int .i64 0,.slice none 0 0,.slice none 0 0] [(1,1,.tmp 17),(2,1,.tmp 19)]) none [1,3],.mk none (.store 3 (.tmp 2) (.tmp 20)) none [4,3,0,1,2,3,4]]
def l114 : AFn :=
  (AFn.mk 21 1 (.seq (.reg l114r0) (.seq (.seq (.reg l114r1) (.cond (.tmp 5) (.seq (.reg l114r2) .ret) .skip)) (.seq (.seq (.reg l114r3) (.cond (.tmp 9) (.seq (.draw l114r4) .ret) .skip)) (.seq (.reg l114r5) .ret)))) [.cell 2 true 3])
theorem l114_eq : lowFn Try.prog 114 = some l114 := by kernel_rfl
def l115r0 : List AOper :=
  [.mk (some 3) (.box (.tmp 0)) none [],.mk (some 5) (.box (.tmp 2)) none [],.mk (some 6) (.alloc [.int .i64 0,.slice none 0 0,.slice none 0 0]) none [],.mk (some 7) (.mv (.const (.bool false))) none []]
def l115r1 : List AOper :=
  [.mk (some 8) (.load true 3 (.tmp 3)) none [],.mk (some 9) (.call 101 [.tmp 8]) none [0],.mk (some 10) (.un .not (.tmp 9)) none [1],.mk (some 11) (.mv (.tmp 10)) none [2,1],.mk (some 12) (.load true 3 (.tmp 3)) (some (11,false)) [3],.mk (some 13) (.mv (.tmp 1)) (some (11,false)) [3],.mk (some 14) (.call 129 [.tmp 12,.tmp 13]) (some (11,false)) [4,5,3,3],.mk (some 15) (.un .not (.tmp 14)) (some (11,false)) [6,3],.mk (some 16) (.pick (.tmp 11) (.const (.bool true)) (.tmp 15)) none [3,7],.mk (some 17) (.mv (.tmp 16)) none [8,6],.mk (some 18) (.load true 5 (.tmp 5)) (some (17,false)) [9],.mk (some 19) (.call 130 [.tmp 18]) (some (17,false)) [10,9,9],.mk (some 20) (.un .not (.tmp 19)) (some (17,false)) [11,9],.mk (some 21) (.pick (.tmp 17) (.const (.bool true)) (.tmp 20)) none [9,12]]
def l115r2 : List AOper :=
  [.mk (some 22) (.build [.int .i64 0,.slice none 0 0,.slice none 0 0] []) none [],.mk none (.store 3 (.tmp 6) (.tmp 22)) none [0,0],.mk (some 7) (.mv (.const (.bool false))) none [1,0,1]]
def l115r3 : List AOper :=
  [.mk (some 23) (.load true 3 (.tmp 3)) none [],.mk (some 24) (.mv (.tmp 1)) none [],.mk (some 25) (.load true 5 (.tmp 5)) none [],.mk (some 26) (.call 132 [.tmp 23,.tmp 24,.tmp 25]) none [0,1,2],.mk (some 27) (.call 131 [.tmp 26]) none [3,3],.mk (some 28) (.extract (.tmp 27) 0) none [4],.mk (some 29) (.extract (.tmp 27) 1) none [4],.mk none (.store 3 (.tmp 6) (.tmp 28)) none [5,4,0,1,2,3,4,5,6],.mk (some 7) (.mv (.tmp 29)) none [6,7,0,1,2,3,4,5,6,7]]
def l115 : AFn :=
  (AFn.mk 30 3 (.seq (.reg l115r0) (.seq (.seq (.reg l115r1) (.cond (.tmp 21) (.seq (.reg l115r2) .ret) .skip)) (.seq (.reg l115r3) .ret))) [.cell 6 true 3,.tmp 7])
theorem l115_eq : lowFn Try.prog 115 = some l115 := by kernel_rfl
def l116r0 : List AOper :=
  [.mk (some 2) (.alloc [.int .i64 0,.int .i64 0,.int .i64 0,.bool false,.bool false]) none []]
def l116r1 : List AOper :=
  [.mk (some 4) (.mv (.tmp 0)) none [],.mk (some 5) (.bslice 1 [.int .i64 0] [(0,.const (.int .i64 1)),(1,.const (.int .i64 2)),(2,.const (.int .i64 (-1))),(3,.const (.int .i64 3)),(4,.const (.int .i64 (-2))),(5,.const (.int .i64 1)),(6,.const (.int .i64 5))] 7) none [],.mk (some 6) (.call 46 [.tmp 4,.tmp 5]) none [0,1],.mk (some 7) (.build [.int .i64 0,.int .i64 0,.int .i64 0,.bool false,.bool false] [(2,1,.tmp 6)]) none [2],.mk (some 3) (.alloc [.int .i64 0,.int .i64 0,.int .i64 0,.bool false,.bool false]) none [],.mk none (.store 5 (.tmp 3) (.tmp 7)) none [4,3,2,0,1,2,3,4]]
def l116r2 : List AOper :=
  [.mk (some 8) (.mv (.tmp 0)) none [],.mk (some 9) (.call 78 [.tmp 8,.const (.int .i64 2)]) none [0],.mk (some 10) (.bin .eql (.tmp 9) (.const (.int .i64 0))) none [1]]
def l116r3 : List AOper :=
  [.mk (some 11) (.fld 3 (.tmp 3)) none [],.mk none (.store 1 (.tmp 11) (.const (.bool true))) none [0]]
def l116r4 : List AOper :=
  [.mk (some 12) (.mv (.tmp 0)) none [],.mk (some 13) (.mv (.tmp 0)) none [],.mk (some 14) (.call 78 [.tmp 13,.const (.int .i64 12)]) none [1],.mk (some 15) (.bslice 1 [.int .i64 0] [(0,.const (.int .i64 1)),(1,.const (.int .i64 2)),(2,.const (.int .i64 0)),(3,.const (.int .i64 (-1))),(4,.const (.int .i64 (-3))),(5,.tmp 14),(6,.const (.int .i64 30)),(7,.const (.int .i64 (-30)))] 8) none [2],.mk (some 16) (.call 46 [.tmp 12,.tmp 15]) none [0,3,2],.mk (some 17) (.fld 0 (.tmp 3)) none [0,1,2,3,4],.mk none (.store 1 (.tmp 17) (.tmp 16)) none [5,4,4,0,1,2,3,4]]
def l116r5 : List AOper :=
  [.mk (some 18) (.mv (.tmp 0)) none [],.mk (some 19) (.call 78 [.tmp 18,.const (.int .i64 2)]) none [0],.mk (some 20) (.bin .eql (.tmp 19) (.const (.int .i64 0))) none [1]]
def l116r6 : List AOper :=
  [.mk (some 21) (.fld 4 (.tmp 3)) none [],.mk none (.store 1 (.tmp 21) (.const (.bool true))) none [0]]
def l116r7 : List AOper :=
  [.mk (some 22) (.mv (.tmp 0)) none [],.mk (some 23) (.mv (.tmp 0)) none [],.mk (some 24) (.call 78 [.tmp 23,.const (.int .i64 12)]) none [1],.mk (some 25) (.bslice 1 [.int .i64 0] [(0,.const (.int .i64 4)),(1,.const (.int .i64 3)),(2,.const (.int .i64 (-1))),(3,.const (.int .i64 (-2))),(4,.const (.int .i64 0)),(5,.tmp 24),(6,.const (.int .i64 30)),(7,.const (.int .i64 (-30)))] 8) none [2],.mk (some 26) (.call 46 [.tmp 22,.tmp 25]) none [0,3,2],.mk (some 27) (.fld 1 (.tmp 3)) none [0,1,2,3,4],.mk none (.store 1 (.tmp 27) (.tmp 26)) none [5,4,4,0,1,2,3,4]]
def l116r8 : List AOper :=
  [.mk (some 28) (.mv (.tmp 0)) none [],.mk (some 29) (.call 78 [.tmp 28,.const (.int .i64 24)]) none [0]]
def l116r9 : List AOper :=
  [.mk (some 31) (.bin .eql (.tmp 29) (.const (.int .i64 0))) none [],.mk (some 30) (.mv (.tmp 31)) none [0]]
def l116r10 : List AOper :=
  [.mk (some 32) (.mv (.tmp 0)) none [],.mk (some 33) (.bslice 1 [.int .i64 0] [(0,.const (.int .i64 0)),(1,.const (.int .i64 201))] 2) none [],.mk (some 34) (.call 46 [.tmp 32,.tmp 33]) none [0,1],.mk (some 35) (.fld 2 (.tmp 3)) none [0,1,2],.mk none (.store 1 (.tmp 35) (.tmp 34)) none [3,2,2,0,1,2]]
def l116r11 : List AOper :=
  [.mk (some 37) (.bin .eql (.tmp 29) (.const (.int .i64 1))) none [],.mk (some 36) (.mv (.tmp 37)) none [0]]
def l116r12 : List AOper :=
  [.mk (some 38) (.fld 0 (.tmp 3)) none [],.mk none (.store 1 (.tmp 38) (.const (.int .i64 101))) none [0]]
def l116r13 : List AOper :=
  [.mk (some 40) (.bin .eql (.tmp 29) (.const (.int .i64 2))) none [],.mk (some 39) (.mv (.tmp 40)) none [0]]
def l116r14 : List AOper :=
  [.mk (some 41) (.mv (.tmp 0)) none [],.mk (some 42) (.bslice 1 [.int .i64 0] [(0,.const (.int .i64 1)),(1,.const (.int .i64 (-101)))] 2) none [],.mk (some 43) (.call 46 [.tmp 41,.tmp 42]) none [0,1],.mk (some 44) (.fld 1 (.tmp 3)) none [0,1,2],.mk none (.store 1 (.tmp 44) (.tmp 43)) none [3,2,2,0,1,2]]
def l116r15 : List AOper :=
  [.mk (some 45) (.load true 5 (.tmp 3)) none [],.mk none (.store 5 (.tmp 2) (.tmp 45)) none [0,0]]
def l116 : AFn :=
  (AFn.mk 46 1 (.seq (.reg l116r0) (.seq (.reg l116r1) (.seq (.seq (.reg l116r2) (.cond (.tmp 10) (.seq (.reg l116r3) (.reg l116r4)) .skip)) (.seq (.seq (.reg l116r5) (.cond (.tmp 20) (.seq (.reg l116r6) (.reg l116r7)) .skip)) (.seq (.seq (.reg l116r8) (.block 0 (.seq (.reg l116r9) (.cond (.tmp 30) (.reg l116r10) (.seq (.reg l116r11) (.cond (.tmp 36) (.reg l116r12) (.seq (.reg l116r13) (.cond (.tmp 39) (.reg l116r14) .skip)))))))) (.seq (.reg l116r15) .ret)))))) [.cell 2 true 5])
theorem l116_eq : lowFn Try.prog 116 = some l116 := by kernel_rfl
def l117r0 : List AOper :=
  [.mk (some 2) (.box (.tmp 0)) none [],.mk (some 4) (.alloc [.int .i64 0,.slice none 0 0,.slice none 0 0]) none [],.mk (some 5) (.mv (.const (.bool false))) none []]
def l117r1 : List AOper :=
  [.mk (some 6) (.load true 3 (.tmp 2)) none [],.mk (some 7) (.mv (.tmp 1)) none [],.mk (some 8) (.build [.int .i64 0,.int .i64 0,.int .i64 0,.bool false,.bool false] [(2,1,.const (.int .i64 (-1)))]) none [],.mk (some 9) (.call 115 [.tmp 6,.tmp 7,.tmp 8]) none [0,1,2],.mk (some 10) (.extract (.tmp 9) 0) none [3],.mk (some 11) (.extract (.tmp 9) 1) none [3],.mk none (.store 3 (.tmp 4) (.tmp 10)) none [4,3,0,1,2,3,4,5],.mk (some 5) (.mv (.tmp 11)) none [5,6,0,1,2,3,4,5,6]]
def l117 : AFn :=
  (AFn.mk 12 2 (.seq (.reg l117r0) (.seq (.reg l117r1) .ret)) [.cell 4 true 3,.tmp 5])
theorem l117_eq : lowFn Try.prog 117 = some l117 := by kernel_rfl
def l118r0 : List AOper :=
  [.mk (some 2) (.box (.tmp 0)) none [],.mk (some 4) (.alloc [.int .i64 0,.slice none 0 0,.slice none 0 0]) none [],.mk (some 5) (.mv (.const (.bool false))) none []]
def l118r1 : List AOper :=
  [.mk (some 6) (.load true 3 (.tmp 2)) none [],.mk (some 7) (.call 101 [.tmp 6]) none [0],.mk (some 8) (.un .not (.tmp 7)) none [1],.mk (some 9) (.mv (.tmp 8)) none [2,1],.mk (some 10) (.mv (.tmp 1)) (some (9,false)) [3],.mk (some 11) (.fld 1 (.tmp 2)) (some (9,false)) [3],.mk (some 12) (.load false 1 (.tmp 11)) (some (9,false)) [5,3],.mk (some 13) (.len (.tmp 12)) (some (9,false)) [6,3],.mk (some 14) (.call 133 [.tmp 10,.tmp 13]) (some (9,false)) [4,7,3,3],.mk (some 15) (.un .not (.tmp 14)) (some (9,false)) [8,3],.mk (some 16) (.pick (.tmp 9) (.const (.bool true)) (.tmp 15)) none [3,9]]
def l118r2 : List AOper :=
  [.mk (some 17) (.build [.int .i64 0,.slice none 0 0,.slice none 0 0] []) none [],.mk none (.store 3 (.tmp 4) (.tmp 17)) none [0,0],.mk (some 5) (.mv (.const (.bool false))) none [1,0,1]]
def l118r3 : List AOper :=
  [.mk (some 18) (.load true 3 (.tmp 2)) none [],.mk (some 19) (.mv (.tmp 1)) none [],.mk (some 20) (.call 134 [.tmp 18,.tmp 19]) none [0,1],.mk (some 21) (.call 131 [.tmp 20]) none [2,2],.mk (some 22) (.extract (.tmp 21) 0) none [3],.mk (some 23) (.extract (.tmp 21) 1) none [3],.mk none (.store 3 (.tmp 4) (.tmp 22)) none [4,3,0,1,2,3,4,5],.mk (some 5) (.mv (.tmp 23)) none [5,6,0,1,2,3,4,5,6]]
def l118 : AFn :=
  (AFn.mk 24 2 (.seq (.reg l118r0) (.seq (.seq (.reg l118r1) (.cond (.tmp 16) (.seq (.reg l118r2) .ret) .skip)) (.seq (.reg l118r3) .ret))) [.cell 4 true 3,.tmp 5])
theorem l118_eq : lowFn Try.prog 118 = some l118 := by kernel_rfl
def l119r0 : List AOper :=
  [.mk (some 2) (.mv (.const (.slice none 0 0))) none []]
def l119r1 : List AOper :=
  [.mk (some 5) (.bslice 1 [.int .i64 0] [] 0) none [],.mk (some 3) (.mv (.tmp 5)) none [0,0]]
def l119r2 : List AOper :=
  [.mk (some 6) (.mv (.tmp 0)) none [],.mk (some 7) (.len (.tmp 6)) none [0],.mk (some 8) (.bin .sub (.tmp 7) (.const (.int .i64 1))) none [1],.mk (some 4) (.mv (.tmp 8)) none [2,0,1,2]]
def l119r3 : List AOper :=
  [.mk (some 9) (.mv (.tmp 4)) none [],.mk (some 10) (.bin .geq (.tmp 9) (.const (.int .i64 0))) none [0]]
def l119r4 : List AOper :=
  [.mk (some 13) (.mv (.tmp 3)) none [],.mk (some 14) (.mv (.tmp 0)) none [],.mk (some 15) (.mv (.tmp 4)) none [],.mk (some 16) (.idxA 1 (.tmp 14) (.tmp 15)) none [1,2],.mk (some 17) (.load false 1 (.tmp 16)) none [3],.mk (some 18) (.bslice 1 [.int .i64 0] [(0,.tmp 17)] 1) none [4],.mk (some 19) (.append 1 (.tmp 13) (.tmp 18)) none [0,5],.mk (some 3) (.mv (.tmp 19)) none [6,6,0,1,2,3,4,5,6]]
def l119r5 : List AOper :=
  [.mk (some 11) (.mv (.tmp 4)) none [],.mk (some 12) (.bin .sub (.tmp 11) (.const (.int .i64 1))) none [0],.mk (some 4) (.mv (.tmp 12)) none [1,0,1]]
def l119r6 : List AOper :=
  [.mk (some 20) (.mv (.tmp 3)) none [],.mk (some 2) (.mv (.tmp 20)) none [0,0]]
def l119 : AFn :=
  (AFn.mk 21 1 (.seq (.reg l119r0) (.seq (.reg l119r1) (.seq (.seq (.reg l119r2) (.block 0 (.loop (.seq (.seq (.reg l119r3) (.cond (.tmp 10) .skip (.exit 0))) (.seq (.block 1 (.reg l119r4)) (.reg l119r5)))))) (.seq (.reg l119r6) .ret)))) [.tmp 2])
theorem l119_eq : lowFn Try.prog 119 = some l119 := by kernel_rfl
def l120r0 : List AOper :=
  [.mk (some 2) (.mv (.const (.slice none 0 0))) none []]
def l120r1 : List AOper :=
  [.mk (some 5) (.bslice 1 [.int .i64 0] [] 0) none [],.mk (some 3) (.mv (.tmp 5)) none [0,0]]
def l120r2 : List AOper :=
  [.mk (some 4) (.mv (.const (.int .i64 0))) none []]
def l120r3 : List AOper :=
  [.mk (some 6) (.mv (.tmp 4)) none [],.mk (some 7) (.mv (.tmp 0)) none [],.mk (some 8) (.bin .lss (.tmp 6) (.tmp 7)) none [0,1]]
def l120r4 : List AOper :=
  [.mk (some 11) (.mv (.tmp 3)) none [],.mk (some 12) (.mv (.tmp 4)) none [],.mk (some 13) (.bslice 1 [.int .i64 0] [(0,.tmp 12)] 1) none [1],.mk (some 14) (.append 1 (.tmp 11) (.tmp 13)) none [0,2],.mk (some 3) (.mv (.tmp 14)) none [3,3,0,1,2,3]]
def l120r5 : List AOper :=
  [.mk (some 9) (.mv (.tmp 4)) none [],.mk (some 10) (.bin .add (.tmp 9) (.const (.int .i64 1))) none [0],.mk (some 4) (.mv (.tmp 10)) none [1,0,1]]
def l120r6 : List AOper :=
  [.mk (some 15) (.mv (.tmp 3)) none [],.mk (some 2) (.mv (.tmp 15)) none [0,0]]
def l120 : AFn :=
  (AFn.mk 16 1 (.seq (.reg l120r0) (.seq (.reg l120r1) (.seq (.seq (.reg l120r2) (.block 0 (.loop (.seq (.seq (.reg l120r3) (.cond (.tmp 8) .skip (.exit 0))) (.seq (.block 1 (.reg l120r4)) (.reg l120r5)))))) (.seq (.reg l120r6) .ret)))) [.tmp 2])
theorem l120_eq : lowFn Try.prog 120 = some l120 := by kernel_rfl
def l121r0 : List AOper :=
  [.mk (some 3) (.box (.tmp 0)) none [],.mk (some 6) (.alloc [.int .i64 0,.slice none 0 0,.slice none 0 0]) none [],.mk (some 7) (.mv (.const (.bool false))) none []]
def l121r1 : List AOper :=
  [.mk (some 9) (.load true 3 (.tmp 3)) none [],.mk (some 10) (.call 101 [.tmp 9]) none [0],.mk (some 11) (.un .not (.tmp 10)) none [1],.mk (some 12) (.mv (.tmp 11)) none [2,1],.mk (some 13) (.load true 3 (.tmp 3)) (some (12,false)) [3],.mk (some 14) (.mv (.tmp 1)) (some (12,false)) [3],.mk (some 15) (.call 129 [.tmp 13,.tmp 14]) (some (12,false)) [4,5,3,3],.mk (some 16) (.un .not (.tmp 15)) (some (12,false)) [6,3],.mk (some 17) (.pick (.tmp 12) (.const (.bool true)) (.tmp 16)) none [3,7],.mk (some 18) (.mv (.tmp 17)) none [8,6],.mk (some 19) (.mv (.tmp 2)) (some (18,false)) [9],.mk (some 20) (.fld 1 (.tmp 3)) (some (18,false)) [9],.mk (some 21) (.load false 1 (.tmp 20)) (some (18,false)) [11,9],.mk (some 22) (.mv (.tmp 1)) (some (18,false)) [9],.mk (some 23) (.idxA 1 (.tmp 21) (.tmp 22)) (some (18,false)) [12,13,9],.mk (some 24) (.load false 1 (.tmp 23)) (some (18,false)) [14,9],.mk (some 25) (.call 57 [.tmp 19,.const (.int .i64 1),.tmp 24]) (some (18,false)) [10,15,9,9],.mk (some 26) (.un .not (.tmp 25)) (some (18,false)) [16,9],.mk (some 27) (.pick (.tmp 18) (.const (.bool true)) (.tmp 26)) none [9,17]]
def l121r2 : List AOper :=
  [.mk (some 28) (.build [.int .i64 0,.slice none 0 0,.slice none 0 0] []) none [],.mk none (.store 3 (.tmp 6) (.tmp 28)) none [0,0],.mk (some 7) (.mv (.const (.bool false))) none [1,0,1]]
def l121r3 : List AOper :=
  [.mk (some 29) (.load true 3 (.tmp 3)) none [],.mk (some 30) (.call 123 [.tmp 29]) none [0],.mk (some 8) (.alloc [.int .i64 0,.slice none 0 0,.slice none 0 0]) none [],.mk none (.store 3 (.tmp 8) (.tmp 30)) none [2,1,1,0,1,2]]
def l121r4a : List AOper :=
  [.mk (some 31) (.fld 1 (.tmp 8)) none [],.mk (some 32) (.load false 1 (.tmp 31)) none [0],.mk (some 33) (.mv (.tmp 1)) none [],.mk (some 34) (.fld 1 (.tmp 3)) none [],.mk (some 35) (.load false 1 (.tmp 34)) none [3],.mk (some 36) (.mv (.tmp 1)) none [],.mk (some 37) (.idxA 1 (.tmp 35) (.tmp 36)) none [4,5],.mk (some 38) (.load false 1 (.tmp 37)) none [6],.mk (some 39) (.mv (.tmp 2)) none [],.mk (some 40) (.bin .sub (.tmp 38) (.tmp 39)) none [7,8],.mk (some 41) (.bin .add (.tmp 40) (.const (.int .i64 1))) none [9]]
def l121r4b : List AOper :=
  [.mk (some 42) (.idxA 1 (.tmp 32) (.tmp 33)) none [1,2,0,1,2,3,4,5,6,7,8,9,10],.mk none (.store 1 (.tmp 42) (.tmp 41)) none [11,10,0,1,2,3,4,5,6,7,8,9,10]]
def l121r4 : List AOper := l121r4a ++ l121r4b
def l121r5 : List AOper :=
  [.mk (some 43) (.fld 1 (.tmp 8)) none [],.mk (some 44) (.load false 1 (.tmp 43)) none [0],.mk (some 45) (.mv (.tmp 2)) none [],.mk (some 46) (.bslice 1 [.int .i64 0] [(0,.tmp 45)] 1) none [2],.mk (some 47) (.append 1 (.tmp 44) (.tmp 46)) none [1,3],.mk (some 48) (.fld 1 (.tmp 8)) none [0,1,2,3,4],.mk none (.store 1 (.tmp 48) (.tmp 47)) none [5,4,4,0,1,2,3,4]]
def l121r6a : List AOper :=
  [.mk (some 49) (.fld 2 (.tmp 8)) none [],.mk (some 50) (.load false 1 (.tmp 49)) none [0],.mk (some 51) (.fld 2 (.tmp 3)) none [],.mk (some 52) (.load false 1 (.tmp 51)) none [2],.mk (some 53) (.mv (.tmp 1)) none [],.mk (some 54) (.idxA 1 (.tmp 52) (.tmp 53)) none [3,4],.mk (some 55) (.load false 1 (.tmp 54)) none [5],.mk (some 56) (.bslice 1 [.int .i64 0] [(0,.tmp 55)] 1) none [6]]
def l121r6b : List AOper :=
  [.mk (some 57) (.append 1 (.tmp 50) (.tmp 56)) none [1,7],.mk (some 58) (.fld 2 (.tmp 8)) none [0,1,2,3,4,5,6,7,8],.mk none (.store 1 (.tmp 58) (.tmp 57)) none [9,8,8,0,1,2,3,4,5,6,7,8]]
def l121r6 : List AOper := l121r6a ++ l121r6b
def l121r7 : List AOper :=
  [.mk (some 59) (.load true 3 (.tmp 8)) none [],.mk (some 60) (.call 131 [.tmp 59]) none [0],.mk (some 61) (.extract (.tmp 60) 0) none [1],.mk (some 62) (.extract (.tmp 60) 1) none [1],.mk none (.store 3 (.tmp 6) (.tmp 61)) none [2,1,0,1,2,3],.mk (some 7) (.mv (.tmp 62)) none [3,4,0,1,2,3,4]]
def l121 : AFn :=
  (AFn.mk 63 3 (.seq (.reg l121r0) (.seq (.seq (.reg l121r1) (.cond (.tmp 27) (.seq (.reg l121r2) .ret) .skip)) (.seq (.reg l121r3) (.seq (.draw l121r4) (.seq (.reg l121r5) (.seq (.draw l121r6) (.seq (.reg l121r7) .ret))))))) [.cell 6 true 3,.tmp 7])
theorem l121_eq : lowFn Try.prog 121 = some l121 := by kernel_rfl
def l122r0 : List AOper :=
  [.mk (some 2) (.box (.tmp 0)) none [],.mk (some 4) (.alloc [.int .i64 0,.slice none 0 0,.slice none 0 0]) none [],.mk (some 5) (.mv (.const (.bool false))) none []]
def l122r1 : List AOper :=
  [.mk (some 6) (.load true 3 (.tmp 2)) none [],.mk (some 7) (.call 101 [.tmp 6]) none [0],.mk (some 8) (.un .not (.tmp 7)) none [1],.mk (some 9) (.mv (.tmp 8)) none [2,1],.mk (some 10) (.mv (.tmp 1)) (some (9,false)) [3],.mk (some 11) (.fld 1 (.tmp 2)) (some (9,false)) [3],.mk (some 12) (.load false 1 (.tmp 11)) (some (9,false)) [5,3],.mk (some 13) (.len (.tmp 12)) (some (9,false)) [6,3],.mk (some 14) (.call 57 [.tmp 10,.const (.int .i64 0),.tmp 13]) (some (9,false)) [4,7,3,3],.mk (some 15) (.un .not (.tmp 14)) (some (9,false)) [8,3],.mk (some 16) (.pick (.tmp 9) (.const (.bool true)) (.tmp 15)) none [3,9],.mk (some 17) (.mv (.tmp 16)) none [10,8],.mk (some 18) (.fld 1 (.tmp 2)) (some (17,false)) [11],.mk (some 19) (.load false 1 (.tmp 18)) (some (17,false)) [12,11],.mk (some 20) (.len (.tmp 19)) (some (17,false)) [13,11],.mk (some 21) (.bin .eql (.tmp 20) (.const (.int .i64 4))) (some (17,false)) [14,11],.mk (some 22) (.pick (.tmp 17) (.const (.bool true)) (.tmp 21)) none [11,15]]
def l122r2 : List AOper :=
  [.mk (some 23) (.build [.int .i64 0,.slice none 0 0,.slice none 0 0] []) none [],.mk none (.store 3 (.tmp 4) (.tmp 23)) none [0,0],.mk (some 5) (.mv (.const (.bool false))) none [1,0,1]]
def l122r3a : List AOper :=
  [.mk (some 24) (.fld 0 (.tmp 2)) none [],.mk (some 25) (.load false 1 (.tmp 24)) none [0],.mk (some 26) (.fld 1 (.tmp 2)) none [],.mk (some 27) (.load false 1 (.tmp 26)) none [2],.mk (some 28) (.mv (.tmp 1)) none [],.mk (some 29) (.call 86 [.tmp 27,.tmp 28,.const (.int .i64 1)]) none [3,4],.mk (some 30) (.fld 2 (.tmp 2)) none [],.mk (some 31) (.load false 1 (.tmp 30)) none [6],.mk (some 32) (.mv (.tmp 1)) none [],.mk (some 33) (.call 86 [.tmp 31,.tmp 32,.const (.int .i64 0)]) none [7,8,5],.mk (some 34) (.build [.int .i64 0,.slice none 0 0,.slice none 0 0] [(0,1,.tmp 25),(1,1,.tmp 29),(2,1,.tmp 33)]) none [1,5,9],.mk (some 35) (.call 131 [.tmp 34]) none [10,9],.mk (some 36) (.extract (.tmp 35) 0) none [11],.mk (some 37) (.extract (.tmp 35) 1) none [11]]
def l122r3b : List AOper :=
  [.mk none (.store 3 (.tmp 4) (.tmp 36)) none [12,11,0,1,2,3,4,5,6,7,8,9,10,11,12,13],.mk (some 5) (.mv (.tmp 37)) none [13,14,0,1,2,3,4,5,6,7,8,9,10,11,12,13,14]]
def l122r3 : List AOper := l122r3a ++ l122r3b
def l122 : AFn :=
  (AFn.mk 38 2 (.seq (.reg l122r0) (.seq (.seq (.reg l122r1) (.cond (.tmp 22) (.seq (.reg l122r2) .ret) .skip)) (.seq (.draw l122r3) .ret))) [.cell 4 true 3,.tmp 5])
theorem l122_eq : lowFn Try.prog 122 = some l122 := by kernel_rfl
def l123r0 : List AOper :=
  [.mk (some 1) (.box (.tmp 0)) none [],.mk (some 2) (.alloc [.int .i64 0,.slice none 0 0,.slice none 0 0]) none []]
def l123r1a : List AOper :=
  [.mk (some 3) (.fld 0 (.tmp 1)) none [],.mk (some 4) (.load false 1 (.tmp 3)) none [0],.mk (some 5) (.fld 1 (.tmp 1)) none [],.mk (some 6) (.load false 1 (.tmp 5)) none [2],.mk (some 7) (.call 109 [.tmp 6]) none [3],.mk (some 8) (.fld 2 (.tmp 1)) none [],.mk (some 9) (.load false 1 (.tmp 8)) none [5],.mk (some 10) (.call 109 [.tmp 9]) none [6,4]]
def l123r1b : List AOper :=
  [.mk (some 11) (.build [.int .i64 0,.slice none 0 0,.slice none 0 0] [(0,1,.tmp 4),(1,1,.tmp 7),(2,1,.tmp 10)]) none [1,4,7],.mk none (.store 3 (.tmp 2) (.tmp 11)) none [8,7,0,1,2,3,4,5,6,7,8]]
def l123r1 : List AOper := l123r1a ++ l123r1b
def l123 : AFn :=
  (AFn.mk 12 1 (.seq (.reg l123r0) (.seq (.draw l123r1) .ret)) [.cell 2 true 3])
theorem l123_eq : lowFn Try.prog 123 = some l123 := by kernel_rfl
def l126r0 : List AOper :=
  [.mk (some 2) (.box (.tmp 0)) none [],.mk (some 4) (.mv (.const (.int .i64 0))) none []]
def l126r1 : List AOper :=
  [.mk (some 5) (.mv (.const (.int .i64 0))) none []]
def l126r2 : List AOper :=
  [.mk (some 8) (.mv (.tmp 1)) none [],.mk (some 9) (.len (.tmp 8)) none [0],.mk (some 10) (.mv (.const (.int .i64 0))) none []]
def l126r3 : List AOper :=
  [.mk (some 11) (.bin .lss (.tmp 10) (.tmp 9)) none []]
def l126r4 : List AOper :=
  [.mk (some 12) (.mv (.tmp 10)) none [],.mk (some 13) (.idxA 1 (.tmp 8) (.tmp 10)) none [],.mk (some 14) (.load false 1 (.tmp 13)) none [1],.mk (some 6) (.mv (.tmp 12)) none [0,0,1,2],.mk (some 7) (.mv (.tmp 14)) none [2,3,0,1,2,3]]
def l126r5 : List AOper :=
  [.mk (some 15) (.mv (.tmp 5)) none [],.mk (some 16) (.mv (.tmp 6)) none [],.mk (some 17) (.idxP 1 4 (.tmp 2) (.tmp 16)) none [1],.mk (some 18) (.load false 1 (.tmp 17)) none [2],.mk (some 19) (.mv (.tmp 7)) none [],.mk (some 20) (.bin .mul (.tmp 18) (.tmp 19)) none [3,4],.mk (some 21) (.bin .add (.tmp 15) (.tmp 20)) none [0,5],.mk (some 5) (.mv (.tmp 21)) none [6,0,1,2,3,4,5,6]]
def l126r6 : List AOper :=
  [.mk (some 22) (.bin .add (.tmp 10) (.const (.int .i64 1))) none [],.mk (some 10) (.mv (.tmp 22)) none [0]]
def l126r7 : List AOper :=
  [.mk (some 23) (.mv (.tmp 5)) none [],.mk (some 4) (.mv (.tmp 23)) none [0,0]]
def l126 : AFn :=
  (AFn.mk 24 2 (.seq (.reg l126r0) (.seq (.reg l126r1) (.seq (.seq (.reg l126r2) (.block 0 (.loop (.seq (.reg l126r3) (.seq (.cond (.tmp 11) .skip (.exit 0)) (.seq (.block 1 (.seq (.reg l126r4) (.reg l126r5))) (.reg l126r6))))))) (.seq (.reg l126r7) .ret)))) [.tmp 4])
theorem l126_eq : lowFn Try.prog 126 = some l126 := by kernel_rfl
def l128r0 : List AOper :=
  [.mk (some 2) (.mv (.const (.slice none 0 0))) none []]
def l128r1 : List AOper :=
  [.mk (some 6) (.mv (.tmp 0)) none [],.mk (some 7) (.len (.tmp 6)) none [0],.mk (some 8) (.mkslice 1 [.int .i64 0] (.tmp 7) (.tmp 7)) none [1,1],.mk (some 3) (.mv (.tmp 8)) none [2,0,1,2]]
def l128r2 : List AOper :=
  [.mk (some 4) (.mv (.const (.int .i64 1))) none []]
def l128r3 : List AOper :=
  [.mk (some 9) (.mv (.tmp 0)) none [],.mk (some 10) (.len (.tmp 9)) none [0],.mk (some 11) (.bin .sub (.tmp 10) (.const (.int .i64 1))) none [1],.mk (some 5) (.mv (.tmp 11)) none [2,0,1,2]]
def l128r4 : List AOper :=
  [.mk (some 12) (.mv (.tmp 5)) none [],.mk (some 13) (.bin .geq (.tmp 12) (.const (.int .i64 0))) none [0]]
def l128r5 : List AOper :=
  [.mk (some 16) (.mv (.tmp 3)) none [],.mk (some 17) (.mv (.tmp 5)) none [],.mk (some 18) (.mv (.tmp 4)) none [],.mk (some 19) (.idxA 1 (.tmp 16) (.tmp 17)) none [0,1,0,1,2],.mk none (.store 1 (.tmp 19) (.tmp 18)) none [3,2,0,1,2]]
def l128r6 : List AOper :=
  [.mk (some 20) (.mv (.tmp 4)) none [],.mk (some 21) (.mv (.tmp 0)) none [],.mk (some 22) (.mv (.tmp 5)) none [],.mk (some 23) (.idxA 1 (.tmp 21) (.tmp 22)) none [1,2],.mk (some 24) (.load false 1 (.tmp 23)) none [3],.mk (some 25) (.bin .mul (.tmp 20) (.tmp 24)) none [0,4],.mk (some 4) (.mv (.tmp 25)) none [5,0,1,2,3,4,5]]
def l128r7 : List AOper :=
  [.mk (some 14) (.mv (.tmp 5)) none [],.mk (some 15) (.bin .sub (.tmp 14) (.const (.int .i64 1))) none [0],.mk (some 5) (.mv (.tmp 15)) none [1,0,1]]
def l128r8 : List AOper :=
  [.mk (some 26) (.mv (.tmp 3)) none [],.mk (some 2) (.mv (.tmp 26)) none [0,0]]
def l128 : AFn :=
  (AFn.mk 27 1 (.seq (.reg l128r0) (.seq (.reg l128r1) (.seq (.reg l128r2) (.seq (.seq (.reg l128r3) (.block 0 (.loop (.seq (.seq (.reg l128r4) (.cond (.tmp 13) .skip (.exit 0))) (.seq (.block 1 (.seq (.reg l128r5) (.reg l128r6))) (.reg l128r7)))))) (.seq (.reg l128r8) .ret))))) [.tmp 2])
theorem l128_eq : lowFn Try.prog 128 = some l128 := by kernel_rfl
def l129r0 : List AOper :=
  [.mk (some 2) (.box (.tmp 0)) none [],.mk (some 4) (.mv (.const (.bool false))) none []]
def l129r1 : List AOper :=
  [.mk (some 5) (.mv (.tmp 1)) none [],.mk (some 6) (.fld 1 (.tmp 2)) none [],.mk (some 7) (.load false 1 (.tmp 6)) none [1],.mk (some 8) (.len (.tmp 7)) none [2],.mk (some 9) (.bin .sub (.tmp 8) (.const (.int .i64 1))) none [3],.mk (some 10) (.call 57 [.tmp 5,.const (.int .i64 0),.tmp 9]) none [0,4],.mk (some 4) (.mv (.tmp 10)) none [5,5,0,1,2,3,4,5]]
def l129 : AFn :=
  (AFn.mk 11 2 (.seq (.reg l129r0) (.seq (.reg l129r1) .ret)) [.tmp 4])
theorem l129_eq : lowFn Try.prog 129 = some l129 := by kernel_rfl
def l130r0 : List AOper :=
  [.mk (some 1) (.box (.tmp 0)) none [],.mk (some 2) (.mv (.const (.bool false))) none []]
def l130r1 : List AOper :=
  [.mk (some 3) (.fld 0 (.tmp 1)) none [],.mk (some 4) (.load false 1 (.tmp 3)) none [0],.mk (some 5) (.call 57 [.tmp 4,.const (.int .i64 (-100)),.const (.int .i64 100)]) none [1],.mk (some 6) (.mv (.tmp 5)) none [2,2],.mk (some 7) (.fld 1 (.tmp 1)) (some (6,true)) [3],.mk (some 8) (.load false 1 (.tmp 7)) (some (6,true)) [4,3],.mk (some 9) (.call 57 [.tmp 8,.const (.int .i64 (-100)),.const (.int .i64 100)]) (some (6,true)) [5,3,3],.mk (some 10) (.pick (.tmp 6) (.tmp 9) (.const (.bool false))) none [3,6],.mk (some 11) (.mv (.tmp 10)) none [7,6],.mk (some 12) (.fld 2 (.tmp 1)) (some (11,true)) [8],.mk (some 13) (.load false 1 (.tmp 12)) (some (11,true)) [9,8],.mk (some 14) (.call 57 [.tmp 13,.const (.int .i64 (-200)),.const (.int .i64 200)]) (some (11,true)) [10,8,8],.mk (some 15) (.pick (.tmp 11) (.tmp 14) (.const (.bool false))) none [8,11],.mk (some 16) (.mv (.tmp 15)) none [12,11],.mk (some 17) (.fld 2 (.tmp 1)) (some (16,true)) [13],.mk (some 18) (.load false 1 (.tmp 17)) (some (16,true)) [14,13],.mk (some 19) (.bin .neq (.tmp 18) (.const (.int .i64 0))) (some (16,true)) [15,13],.mk (some 20) (.pick (.tmp 16) (.tmp 19) (.const (.bool false))) none [13,16],.mk (some 21) (.mv (.tmp 20)) none [17,13],.mk (some 22) (.fld 3 (.tmp 1)) (some (21,true)) [18],.mk (some 23) (.load false 1 (.tmp 22)) (some (21,true)) [19,18],.mk (some 24) (.mv (.tmp 23)) (some (21,true)) [20,18,18],.mk (some 25) (.fld 0 (.tmp 1)) (some (24,false)) [21],.mk (some 26) (.load false 1 (.tmp 25)) (some (24,false)) [22,21],.mk (some 27) (.bin .eql (.tmp 26) (.const (.int .i64 0))) (some (24,false)) [23,21],.mk (some 28) (.pick (.tmp 24) (.const (.bool true)) (.tmp 27)) (some (21,true)) [21,24,18],.mk (some 29) (.pick (.tmp 21) (.tmp 28) (.const (.bool false))) none [18,25],.mk (some 30) (.mv (.tmp 29)) none [26,21],.mk (some 31) (.fld 4 (.tmp 1)) (some (30,true)) [27],.mk (some 32) (.load false 1 (.tmp 31)) (some (30,true)) [28,27],.mk (some 33) (.mv (.tmp 32)) (some (30,true)) [29,27,27],.mk (some 34) (.fld 1 (.tmp 1)) (some (33,false)) [30],.mk (some 35) (.load false 1 (.tmp 34)) (some (33,false)) [31,30],.mk (some 36) (.bin .eql (.tmp 35) (.const (.int .i64 0))) (some (33,false)) [32,30],.mk (some 37) (.pick (.tmp 33) (.const (.bool true)) (.tmp 36)) (some (30,true)) [30,33,27],.mk (some 38) (.pick (.tmp 30) (.tmp 37) (.const (.bool false))) none [27,34],.mk (some 2) (.mv (.tmp 38)) none [35,30,0,1,2,3,4,5,6,7,8,9,10,11,12,13,14,15,16,17,18,19,20,21,22,23,24,25,26,27,28,29,30,31,32,33,34,35]]
def l130 : AFn :=
  (AFn.mk 39 1 (.seq (.reg l130r0) (.seq (.reg l130r1) .ret)) [.tmp 2])
theorem l130_eq : lowFn Try.prog 130 = some l130 := by kernel_rfl
def l131r0 : List AOper :=
  [.mk (some 1) (.box (.tmp 0)) none [],.mk (some 2) (.alloc [.int .i64 0,.slice none 0 0,.slice none 0 0]) none [],.mk (some 3) (.mv (.const (.bool false))) none []]
def l131r1 : List AOper :=
  [.mk (some 4) (.load true 3 (.tmp 1)) none [],.mk (some 5) (.call 101 [.tmp 4]) none [0],.mk (some 6) (.un .not (.tmp 5)) none [1]]
def l131r2 : List AOper :=
  [.mk (some 7) (.build [.int .i64 0,.slice none 0 0,.slice none 0 0] []) none [],.mk none (.store 3 (.tmp 2) (.tmp 7)) none [0,0],.mk (some 3) (.mv (.const (.bool false))) none [1,0,1]]
def l131r3 : List AOper :=
  [.mk (some 8) (.load true 3 (.tmp 1)) none [],.mk (some 9) (.call 123 [.tmp 8]) none [0],.mk none (.store 3 (.tmp 2) (.tmp 9)) none [1,1,0,1],.mk (some 3) (.mv (.const (.bool true))) none [2,0,1,2]]
def l131 : AFn :=
  (AFn.mk 10 1 (.seq (.reg l131r0) (.seq (.seq (.reg l131r1) (.cond (.tmp 6) (.seq (.reg l131r2) .ret) .skip)) (.seq (.reg l131r3) .ret))) [.cell 2 true 3,.tmp 3])
theorem l131_eq : lowFn Try.prog 131 = some l131 := by kernel_rfl
def l132r0 : List AOper :=
  [.mk (some 3) (.box (.tmp 0)) none [],.mk (some 5) (.box (.tmp 2)) none [],.mk (some 6) (.alloc [.int .i64 0,.slice none 0 0,.slice none 0 0]) none []]
def l132r1 : List AOper :=
  [.mk (some 10) (.load true 3 (.tmp 3)) none [],.mk (some 11) (.call 123 [.tmp 10]) none [0],.mk (some 7) (.alloc [.int .i64 0,.slice none 0 0,.slice none 0 0]) none [],.mk none (.store 3 (.tmp 7) (.tmp 11)) none [2,1,1,0,1,2]]
def l132r2a : List AOper :=
  [.mk (some 12) (.fld 1 (.tmp 3)) none [],.mk (some 13) (.load false 1 (.tmp 12)) none [0],.mk (some 14) (.mv (.tmp 1)) none [],.mk (some 15) (.idxA 1 (.tmp 13) (.tmp 14)) none [1,2],.mk (some 16) (.load false 1 (.tmp 15)) none [3],.mk (some 17) (.load true 5 (.tmp 5)) none [],.mk (some 18) (.call 146 [.tmp 16,.tmp 17]) none [4,5],.mk (some 19) (.call 113 [.tmp 18]) none [6,6],.mk (some 8) (.alloc [.int .i64 0,.int .i64 0,.int .i64 0]) none []]
def l132r2b : List AOper :=
  [.mk none (.store 3 (.tmp 8) (.tmp 19)) none [8,7,7,0,1,2,3,4,5,6,7,8]]
def l132r2 : List AOper := l132r2a ++ l132r2b
def l132r3 : List AOper :=
  [.mk (some 20) (.load true 3 (.tmp 8)) none [],.mk (some 21) (.call 95 [.tmp 20]) none [0],.mk (some 9) (.mv (.tmp 21)) none [1,1,0,1]]
def l132r4 : List AOper :=
  [.mk (some 22) (.fld 1 (.tmp 7)) none [],.mk (some 23) (.load false 1 (.tmp 22)) none [0],.mk (some 24) (.mv (.tmp 1)) none [],.mk (some 25) (.mv (.tmp 9)) none [],.mk (some 26) (.len (.tmp 25)) none [3],.mk (some 27) (.idxA 1 (.tmp 23) (.tmp 24)) none [1,2,0,1,2,3,4],.mk none (.store 1 (.tmp 27) (.tmp 26)) none [5,4,0,1,2,3,4]]
def l132r5a : List AOper :=
  [.mk (some 28) (.fld 0 (.tmp 3)) none [],.mk (some 29) (.load false 1 (.tmp 28)) none [0],.mk (some 30) (.fld 0 (.tmp 8)) none [],.mk (some 31) (.load false 1 (.tmp 30)) none [2],.mk (some 32) (.fld 2 (.tmp 3)) none [],.mk (some 33) (.load false 1 (.tmp 32)) none [4],.mk (some 34) (.mv (.tmp 1)) none [],.mk (some 35) (.idxA 1 (.tmp 33) (.tmp 34)) none [5,6],.mk (some 36) (.load false 1 (.tmp 35)) none [7],.mk (some 37) (.bin .mul (.tmp 31) (.tmp 36)) none [3,8]]
def l132r5b : List AOper :=
  [.mk (some 38) (.bin .add (.tmp 29) (.tmp 37)) none [1,9],.mk (some 39) (.fld 0 (.tmp 7)) none [0,1,2,3,4,5,6,7,8,9,10],.mk none (.store 1 (.tmp 39) (.tmp 38)) none [11,10,0,1,2,3,4,5,6,7,8,9,10]]
def l132r5 : List AOper := l132r5a ++ l132r5b
def l132r6a : List AOper :=
  [.mk (some 40) (.fld 2 (.tmp 7)) none [],.mk (some 41) (.load false 1 (.tmp 40)) none [0],.mk (some 42) (.mv (.tmp 1)) none [],.mk (some 43) (.fld 2 (.tmp 8)) none [],.mk (some 44) (.load false 1 (.tmp 43)) none [3],.mk (some 45) (.fld 2 (.tmp 3)) none [],.mk (some 46) (.load false 1 (.tmp 45)) none [5],.mk (some 47) (.mv (.tmp 1)) none [],.mk (some 48) (.idxA 1 (.tmp 46) (.tmp 47)) none [6,7],.mk (some 49) (.load false 1 (.tmp 48)) none [8],.mk (some 50) (.bin .mul (.tmp 44) (.tmp 49)) none [4,9]]
def l132r6b : List AOper :=
  [.mk (some 51) (.idxA 1 (.tmp 41) (.tmp 42)) none [1,2,0,1,2,3,4,5,6,7,8,9,10],.mk none (.store 1 (.tmp 51) (.tmp 50)) none [11,10,0,1,2,3,4,5,6,7,8,9,10]]
def l132r6 : List AOper := l132r6a ++ l132r6b
def l132r7 : List AOper :=
  [.mk (some 52) (.mv (.tmp 9)) none [],.mk (some 53) (.len (.tmp 52)) none [0],.mk (some 54) (.bin .leq (.tmp 53) (.const (.int .i64 1))) none [1]]
def l132r8 : List AOper :=
  [.mk (some 55) (.fld 2 (.tmp 7)) none [],.mk (some 56) (.load false 1 (.tmp 55)) none [0],.mk (some 57) (.mv (.tmp 1)) none [],.mk (some 58) (.idxA 1 (.tmp 56) (.tmp 57)) none [1,2,0,1,2],.mk none (.store 1 (.tmp 58) (.const (.int .i64 0))) none [3,0,1,2]]
def l132r9 : List AOper :=
  [.mk (some 59) (.load true 3 (.tmp 7)) none [],.mk (some 60) (.call 147 [.tmp 59]) none [0],.mk none (.store 3 (.tmp 6) (.tmp 60)) none [1,1,0,1]]
def l132 : AFn :=
  (AFn.mk 61 3 (.seq (.reg l132r0) (.seq (.reg l132r1) (.seq (.draw l132r2) (.seq (.reg l132r3) (.seq (.reg l132r4) (.seq (.draw l132r5) (.seq (.draw l132r6) (.seq (.seq (.reg l132r7) (.cond (.tmp 54) (.reg l132r8) .skip)) (.seq (.reg l132r9) .ret))))))))) [.cell 6 true 3])
theorem l132_eq : lowFn Try.prog 132 = some l132 := by kernel_rfl
def l133r0 : List AOper :=
  [.mk (some 4) (.mv (.const (.bool false))) none []]
def l133r1 : List AOper :=
  [.mk (some 5) (.mv (.tmp 0)) none [],.mk (some 6) (.len (.tmp 5)) none [0],.mk (some 7) (.mv (.tmp 1)) none [],.mk (some 8) (.bin .eql (.tmp 6) (.tmp 7)) none [1,2],.mk (some 9) (.mv (.tmp 8)) none [3],.mk (some 10) (.mv (.tmp 0)) (some (9,true)) [4],.mk (some 11) (.mv (.tmp 1)) (some (9,true)) [4],.mk (some 12) (.bin .sub (.tmp 11) (.const (.int .i64 1))) (some (9,true)) [6,4],.mk (some 13) (.call 56 [.tmp 10,.const (.int .i64 0),.tmp 12]) (some (9,true)) [5,7,4,4],.mk (some 14) (.pick (.tmp 9) (.tmp 13) (.const (.bool false))) none [4,8],.mk (some 15) (.mv (.tmp 14)) none [9,8],.mk (some 16) (.mv (.tmp 0)) (some (15,true)) [10],.mk (some 17) (.call 71 [.tmp 16]) (some (15,true)) [11,10,10],.mk (some 18) (.pick (.tmp 15) (.tmp 17) (.const (.bool false))) none [10,12],.mk (some 4) (.mv (.tmp 18)) none [13,12,0,1,2,3,4,5,6,7,8,9,10,11,12,13]]
def l133 : AFn :=
  (AFn.mk 19 2 (.seq (.reg l133r0) (.seq (.reg l133r1) .ret)) [.tmp 4])
theorem l133_eq : lowFn Try.prog 133 = some l133 := by kernel_rfl
def l134r0 : List AOper :=
  [.mk (some 2) (.box (.tmp 0)) none [],.mk (some 4) (.alloc [.int .i64 0,.slice none 0 0,.slice none 0 0]) none []]
def l134r1 : List AOper :=
  [.mk (some 7) (.fld 0 (.tmp 2)) none [],.mk (some 8) (.load false 1 (.tmp 7)) none [0],.mk (some 9) (.build [.int .i64 0,.slice none 0 0,.slice none 0 0] [(0,1,.tmp 8)]) none [1],.mk (some 5) (.alloc [.int .i64 0,.slice none 0 0,.slice none 0 0]) none [],.mk none (.store 3 (.tmp 5) (.tmp 9)) none [3,2,0,1,2,3]]
def l134r2 : List AOper :=
  [.mk (some 6) (.mv (.const (.int .i64 0))) none []]
def l134r3 : List AOper :=
  [.mk (some 10) (.mv (.tmp 6)) none [],.mk (some 11) (.mv (.tmp 1)) none [],.mk (some 12) (.len (.tmp 11)) none [1],.mk (some 13) (.bin .lss (.tmp 10) (.tmp 12)) none [0,2]]
def l134r4a : List AOper :=
  [.mk (some 16) (.fld 1 (.tmp 5)) none [],.mk (some 17) (.load false 1 (.tmp 16)) none [0],.mk (some 18) (.fld 1 (.tmp 2)) none [],.mk (some 19) (.load false 1 (.tmp 18)) none [2],.mk (some 20) (.mv (.tmp 1)) none [],.mk (some 21) (.mv (.tmp 6)) none [],.mk (some 22) (.idxA 1 (.tmp 20) (.tmp 21)) none [4,5],.mk (some 23) (.load false 1 (.tmp 22)) none [6],.mk (some 24) (.idxA 1 (.tmp 19) (.tmp 23)) none [3,7],.mk (some 25) (.load false 1 (.tmp 24)) none [8],.mk (some 26) (.bslice 1 [.int .i64 0] [(0,.tmp 25)] 1) none [9]]
def l134r4b : List AOper :=
  [.mk (some 27) (.append 1 (.tmp 17) (.tmp 26)) none [1,10],.mk (some 28) (.fld 1 (.tmp 5)) none [0,1,2,3,4,5,6,7,8,9,10,11],.mk none (.store 1 (.tmp 28) (.tmp 27)) none [12,11,11,0,1,2,3,4,5,6,7,8,9,10,11]]
def l134r4 : List AOper := l134r4a ++ l134r4b
def l134r5a : List AOper :=
  [.mk (some 29) (.fld 2 (.tmp 5)) none [],.mk (some 30) (.load false 1 (.tmp 29)) none [0],.mk (some 31) (.fld 2 (.tmp 2)) none [],.mk (some 32) (.load false 1 (.tmp 31)) none [2],.mk (some 33) (.mv (.tmp 1)) none [],.mk (some 34) (.mv (.tmp 6)) none [],.mk (some 35) (.idxA 1 (.tmp 33) (.tmp 34)) none [4,5],.mk (some 36) (.load false 1 (.tmp 35)) none [6],.mk (some 37) (.idxA 1 (.tmp 32) (.tmp 36)) none [3,7],.mk (some 38) (.load false 1 (.tmp 37)) none [8],.mk (some 39) (.bslice 1 [.int .i64 0] [(0,.tmp 38)] 1) none [9]]
def l134r5b : List AOper :=
  [.mk (some 40) (.append 1 (.tmp 30) (.tmp 39)) none [1,10],.mk (some 41) (.fld 2 (.tmp 5)) none [0,1,2,3,4,5,6,7,8,9,10,11],.mk none (.store 1 (.tmp 41) (.tmp 40)) none [12,11,11,0,1,2,3,4,5,6,7,8,9,10,11]]
def l134r5 : List AOper := l134r5a ++ l134r5b
def l134r6 : List AOper :=
  [.mk (some 14) (.mv (.tmp 6)) none [],.mk (some 15) (.bin .add (.tmp 14) (.const (.int .i64 1))) none [0],.mk (some 6) (.mv (.tmp 15)) none [1,0,1]]
def l134r7 : List AOper :=
  [.mk (some 42) (.load true 3 (.tmp 5)) none [],.mk none (.store 3 (.tmp 4) (.tmp 42)) none [0,0]]
def l134 : AFn :=
  (AFn.mk 43 2 (.seq (.reg l134r0) (.seq (.reg l134r1) (.seq (.seq (.reg l134r2) (.block 0 (.loop (.seq (.seq (.reg l134r3) (.cond (.tmp 13) .skip (.exit 0))) (.seq (.block 1 (.seq (.draw l134r4) (.draw l134r5))) (.reg l134r6)))))) (.seq (.reg l134r7) .ret)))) [.cell 4 true 3])
theorem l134_eq : lowFn Try.prog 134 = some l134 := by kernel_rfl
def l146r0 : List AOper :=
  [.mk (some 3) (.box (.tmp 1)) none [],.mk (some 4) (.mv (.const (.slice none 0 0))) none []]
def l146r1 : List AOper :=
  [.mk (some 5) (.mv (.const (.int .i64 0))) none []]
def l146r2 : List AOper :=
  [.mk (some 7) (.mv (.tmp 0)) none [],.mk (some 6) (.mv (.tmp 7)) none [0,0]]
def l146r3 : List AOper :=
  [.mk (some 8) (.fld 2 (.tmp 3)) none [],.mk (some 9) (.load false 1 (.tmp 8)) none [0],.mk (some 10) (.bin .lss (.tmp 9) (.const (.int .i64 0))) none [1]]
def l146r4 : List AOper :=
  [.mk (some 11) (.mv (.tmp 0)) none [],.mk (some 12) (.bin .sub (.tmp 11) (.const (.int .i64 1))) none [0],.mk (some 5) (.mv (.tmp 12)) none [1,0,1]]
def l146r5 : List AOper :=
  [.mk (some 6) (.mv (.const (.int .i64 (-1)))) none []]
def l146r6 : List AOper :=
  [.mk (some 13) (.fld 3 (.tmp 3)) none [],.mk (some 14) (.load false 1 (.tmp 13)) none [0]]
def l146r7 : List AOper :=
  [.mk (some 15) (.mv (.tmp 0)) none [],.mk (some 16) (.fld 0 (.tmp 3)) none [],.mk (some 17) (.load false 1 (.tmp 16)) none [1],.mk (some 18) (.fld 2 (.tmp 3)) none [],.mk (some 19) (.load false 1 (.tmp 18)) none [3],.mk (some 20) (.call 154 [.tmp 15,.tmp 17,.tmp 19]) none [0,2,4],.mk (some 5) (.mv (.tmp 20)) none [5,5,0,1,2,3,4,5]]
def l146r8 : List AOper :=
  [.mk (some 21) (.fld 4 (.tmp 3)) none [],.mk (some 22) (.load false 1 (.tmp 21)) none [0]]
def l146r9 : List AOper :=
  [.mk (some 23) (.mv (.tmp 0)) none [],.mk (some 24) (.fld 1 (.tmp 3)) none [],.mk (some 25) (.load false 1 (.tmp 24)) none [1],.mk (some 26) (.fld 2 (.tmp 3)) none [],.mk (some 27) (.load false 1 (.tmp 26)) none [3],.mk (some 28) (.call 154 [.tmp 23,.tmp 25,.tmp 27]) none [0,2,4],.mk (some 6) (.mv (.tmp 28)) none [5,5,0,1,2,3,4,5]]
def l146r10 : List AOper :=
  [.mk (some 29) (.mv (.tmp 5)) none [],.mk (some 30) (.mv (.tmp 6)) none [],.mk (some 31) (.fld 2 (.tmp 3)) none [],.mk (some 32) (.load false 1 (.tmp 31)) none [2],.mk (some 33) (.build [.int .i64 0,.int .i64 0,.int .i64 0] [(0,1,.tmp 29),(1,1,.tmp 30),(2,1,.tmp 32)]) none [0,1,3],.mk (some 34) (.call 95 [.tmp 33]) none [4],.mk (some 4) (.mv (.tmp 34)) none [5,5,0,1,2,3,4,5]]
def l146 : AFn :=
  (AFn.mk 35 2 (.seq (.reg l146r0) (.seq (.reg l146r1) (.seq (.reg l146r2) (.seq (.seq (.reg l146r3) (.cond (.tmp 10) (.seq (.reg l146r4) (.reg l146r5)) .skip)) (.seq (.seq (.reg l146r6) (.cond (.tmp 14) (.reg l146r7) .skip)) (.seq (.seq (.reg l146r8) (.cond (.tmp 22) (.reg l146r9) .skip)) (.seq (.reg l146r10) .ret))))))) [.tmp 4])
theorem l146_eq : lowFn Try.prog 146 = some l146 := by kernel_rfl
def l147r0 : List AOper :=
  [.mk (some 1) (.box (.tmp 0)) none [],.mk (some 2) (.alloc [.int .i64 0,.slice none 0 0,.slice none 0 0]) none []]
def l147r1 : List AOper :=
  [.mk (some 3) (.fld 1 (.tmp 1)) none [],.mk (some 4) (.load false 1 (.tmp 3)) none [0],.mk (some 5) (.call 84 [.tmp 4]) none [1],.mk (some 6) (.bin .eql (.tmp 5) (.const (.int .i64 0))) none [2]]
def l147r2a : List AOper :=
  [.mk (some 7) (.fld 1 (.tmp 1)) none [],.mk (some 8) (.load false 1 (.tmp 7)) none [0],.mk (some 9) (.fld 1 (.tmp 1)) none [],.mk (some 10) (.load false 1 (.tmp 9)) none [2],.mk (some 11) (.len (.tmp 10)) none [3],.mk (some 12) (.mkslice 1 [.int .i64 0] (.tmp 11) (.tmp 11)) none [4,4]]
def l147r2b : List AOper :=
  [.mk (some 13) (.build [.int .i64 0,.slice none 0 0,.slice none 0 0] [(1,1,.tmp 8),(2,1,.tmp 12)]) none [1,5],.mk none (.store 3 (.tmp 2) (.tmp 13)) none [6,0,1,2,3,4,5,6]]
def l147r2 : List AOper := l147r2a ++ l147r2b
def l147r3 : List AOper :=
  [.mk (some 14) (.load true 3 (.tmp 1)) none [],.mk none (.store 3 (.tmp 2) (.tmp 14)) none [0,0]]
def l147 : AFn :=
  (AFn.mk 15 1 (.seq (.reg l147r0) (.seq (.seq (.reg l147r1) (.cond (.tmp 6) (.seq (.draw l147r2) .ret) .skip)) (.seq (.reg l147r3) .ret))) [.cell 2 true 3])
theorem l147_eq : lowFn Try.prog 147 = some l147 := by kernel_rfl
def l154r0 : List AOper :=
  [.mk (some 6) (.mv (.const (.int .i64 0))) none []]
def l154r1 : List AOper :=
  [.mk (some 7) (.mv (.const (.int .i64 0))) none []]
def l154r2 : List AOper :=
  [.mk (some 9) (.mv (.tmp 0)) none [],.mk (some 8) (.mv (.tmp 9)) none [0,0]]
def l154r3 : List AOper :=
  [.mk (some 10) (.mv (.tmp 2)) none [],.mk (some 11) (.bin .lss (.tmp 10) (.const (.int .i64 0))) none [0]]
def l154r4 : List AOper :=
  [.mk (some 7) (.mv (.const (.int .i64 (-1)))) none []]
def l154r5 : List AOper :=
  [.mk (some 12) (.mv (.tmp 0)) none [],.mk (some 13) (.bin .sub (.tmp 12) (.const (.int .i64 1))) none [0],.mk (some 8) (.mv (.tmp 13)) none [1,0,1]]
def l154r6 : List AOper :=
  [.mk (some 14) (.mv (.tmp 1)) none [],.mk (some 15) (.bin .lss (.tmp 14) (.const (.int .i64 0))) none [0]]
def l154r7 : List AOper :=
  [.mk (some 16) (.mv (.tmp 1)) none [],.mk (some 17) (.mv (.tmp 0)) none [],.mk (some 18) (.bin .add (.tmp 16) (.tmp 17)) none [0,1],.mk (some 1) (.mv (.tmp 18)) none [2,0,1,2]]
def l154r8 : List AOper :=
  [.mk (some 19) (.mv (.tmp 8)) none [],.mk (some 20) (.mv (.tmp 7)) none [],.mk (some 21) (.mv (.tmp 1)) none [],.mk (some 22) (.minmax true (.tmp 20) (.tmp 21)) none [1,2],.mk (some 23) (.minmax false (.tmp 19) (.tmp 22)) none [0,3],.mk (some 6) (.mv (.tmp 23)) none [4,0,1,2,3,4]]
def l154 : AFn :=
  (AFn.mk 24 3 (.seq (.reg l154r0) (.seq (.reg l154r1) (.seq (.reg l154r2) (.seq (.seq (.reg l154r3) (.cond (.tmp 11) (.seq (.reg l154r4) (.reg l154r5)) .skip)) (.seq (.seq (.reg l154r6) (.cond (.tmp 15) (.reg l154r7) .skip)) (.seq (.reg l154r8) .ret)))))) [.tmp 6])
theorem l154_eq : lowFn Try.prog 154 = some l154 := by kernel_rfl
end Go.Proofs.Ytejbfjmiidofcaa
