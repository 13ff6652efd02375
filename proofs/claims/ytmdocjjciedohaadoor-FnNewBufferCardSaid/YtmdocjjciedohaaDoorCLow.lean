import Derived.Test.YtmdocjjciedohaaDoorCW3
import Derived.Test.YtmdocjjciedohaaDoorProg
import Derived.KernelRfl
set_option maxRecDepth 100000
namespace Go.Proofs.YtmdocjjciedohaaDoor
open Vw Go
instance globs : Inhabited GlobT := ⟨⟨[]⟩⟩
attribute [push_cast] Bool.false_eq_true List.length_replicate
attribute [bitvec_to_nat] decide_eq_true_eq decide_eq_false_iff_not Bool.not_eq_true' Bool.not_eq_false' Bool.and_eq_true Bool.or_eq_true Bool.and_eq_false_iff Bool.or_eq_false_iff Int.not_le Int.not_lt bne_iff_ne ne_eq beq_iff_eq Bool.not_eq_true Bool.not_eq_false
theorem sd {P : Prop} (h : P := by first | assumption | rfl | omega | (simp <;> omega) | (simp_all <;> omega)) : P := h
def l3r0 : List AOper :=
  [.mk (some 2) (.mv (.const (.bool false))) none []]
def l3r1 : List AOper :=
  [.mk (some 5) (.mv (.tmp 0)) none [],.mk (some 6) (.len (.tmp 5)) none [0],.mk (some 7) (.bin .gtr (.tmp 6) (.const (.int .i64 1048576))) none [1]]
def l3r2 : List AOper :=
  [.mk (some 2) (.mv (.const (.bool true))) none []]
def l3r3 : List AOper :=
  [.mk (some 8) (.mv (.tmp 0)) none [],.mk (some 9) (.call 4 [.tmp 8]) none [0],.mk (some 3) (.mv (.tmp 9)) none [1,1,0,1]]
def l3r4 : List AOper :=
  [.mk (some 10) (.mv (.tmp 3)) none [],.mk (some 11) (.call 5 [.tmp 10]) none [0],.mk (some 4) (.alloc [.slice none 0 0,.slice none 0 0]) none [],.mk none (.store 2 (.tmp 4) (.tmp 11)) none [2,1,1,0,1,2]]
def l3r5a : List AOper :=
  [.mk (some 12) (.load true 2 (.tmp 4)) none [],.mk (some 13) (.mv (.tmp 3)) none [],.mk (some 14) (.call 7 [.tmp 13]) none [1]]
def l3r5b : List AOper :=
  [.mk (some 15) (.call 6 [.tmp 12,.tmp 14]) none [0,2,2],.mk (some 16) (.un .not (.tmp 15)) none [3],.mk (some 17) (.mv (.tmp 16)) none [4,3],.mk (some 18) (.mv (.tmp 3)) (some (17,false)) [5],.mk (some 19) (.bin .lss (.tmp 18) (.const (.int .i64 0))) (some (17,false)) [6,5],.mk (some 20) (.pick (.tmp 17) (.const (.bool true)) (.tmp 19)) none [5,7],.mk (some 21) (.mv (.tmp 20)) none [8,5],.mk (some 22) (.mv (.tmp 3)) (some (21,false)) [9],.mk (some 23) (.bin .gtr (.tmp 22) (.const (.int .i64 60))) (some (21,false)) [10,9],.mk (some 24) (.pick (.tmp 21) (.const (.bool true)) (.tmp 23)) none [9,11]]
def l3r5 : List AOper := l3r5a ++ l3r5b
def l3r6a : List AOper :=
  [.mk (some 25) (.load true 2 (.tmp 4)) none [],.mk (some 26) (.mv (.tmp 3)) none [],.mk (some 27) (.call 7 [.tmp 26]) none [1]]
def l3r6b : List AOper :=
  [.mk (some 28) (.call 6 [.tmp 25,.tmp 27]) none [0,2,2],.mk (some 2) (.mv (.tmp 28)) none [3,3,0,1,2,3]]
def l3r6 : List AOper := l3r6a ++ l3r6b
def l3r7 : List AOper :=
  [.mk (some 29) (.load true 2 (.tmp 4)) none [],.mk (some 30) (.call 8 [.tmp 29]) none [0],.mk (some 31) (.mv (.tmp 30)) none [1,1],.mk (some 32) (.fld 0 (.tmp 4)) (some (31,true)) [2],.mk (some 33) (.load false 1 (.tmp 32)) (some (31,true)) [3,2],.mk (some 34) (.len (.tmp 33)) (some (31,true)) [4,2],.mk (some 35) (.mv (.tmp 3)) (some (31,true)) [2],.mk (some 36) (.bin .eql (.tmp 34) (.tmp 35)) (some (31,true)) [5,6,2],.mk (some 37) (.pick (.tmp 31) (.tmp 36) (.const (.bool false))) none [2,7],.mk (some 38) (.mv (.tmp 37)) none [8,2],.mk (some 39) (.fld 0 (.tmp 4)) (some (38,true)) [9],.mk (some 40) (.load false 1 (.tmp 39)) (some (38,true)) [10,9],.mk (some 41) (.call 9 [.tmp 40]) (some (38,true)) [11,9,9],.mk (some 42) (.bin .eql (.tmp 41) (.const (.int .i64 0))) (some (38,true)) [12,9],.mk (some 43) (.pick (.tmp 38) (.tmp 42) (.const (.bool false))) none [9,13],.mk (some 44) (.mv (.tmp 43)) none [14,12],.mk (some 45) (.load true 2 (.tmp 4)) (some (44,true)) [15],.mk (some 46) (.call 10 [.tmp 45]) (some (44,true)) [16,15,15],.mk (some 47) (.len (.tmp 46)) (some (44,true)) [17,15],.mk (some 48) (.bin .eql (.tmp 47) (.const (.int .i64 0))) (some (44,true)) [18,15],.mk (some 49) (.pick (.tmp 44) (.tmp 48) (.const (.bool false))) none [15,19],.mk (some 2) (.mv (.tmp 49)) none [20,17,0,1,2,3,4,5,6,7,8,9,10,11,12,13,14,15,16,17,18,19,20]]
def l3 : AFn :=
  (AFn.mk 50 1 (.seq (.reg l3r0) (.seq (.seq (.reg l3r1) (.cond (.tmp 7) (.seq (.reg l3r2) .ret) .skip)) (.seq (.reg l3r3) (.seq (.reg l3r4) (.seq (.seq (.draw l3r5) (.cond (.tmp 24) (.seq (.draw l3r6) .ret) .skip)) (.seq (.reg l3r7) .ret)))))) [.tmp 2])
theorem l3_eq : lowFn Tryd.prog 3 = some l3 := by kernel_rfl
def l4r0 : List AOper :=
  [.mk (some 2) (.mv (.const (.int .i64 0))) none []]
def l4r1 : List AOper :=
  [.mk (some 4) (.mv (.tmp 0)) none [],.mk (some 5) (.call 11 [.tmp 4]) none [0],.mk (some 3) (.mv (.tmp 5)) none [1,1,0,1]]
def l4r2 : List AOper :=
  [.mk (some 6) (.mv (.tmp 3)) none [],.mk (some 7) (.bslice 1 [.int .i64 0] [(0,.const (.int .i64 5)),(1,.const (.int .i64 0)),(2,.const (.int .i64 60)),(3,.const (.int .i64 61)),(4,.const (.int .i64 (-1)))] 5) none [],.mk (some 8) (.call 12 [.tmp 6,.tmp 7]) none [0,1],.mk (some 2) (.mv (.tmp 8)) none [2,2,0,1,2]]
def l4 : AFn :=
  (AFn.mk 9 1 (.seq (.reg l4r0) (.seq (.reg l4r1) (.seq (.reg l4r2) .ret))) [.tmp 2])
theorem l4_eq : lowFn Tryd.prog 4 = some l4 := by kernel_rfl
def l5r0 : List AOper :=
  [.mk (some 2) (.alloc [.slice none 0 0,.slice none 0 0]) none []]
def l5r1 : List AOper :=
  [.mk (some 3) (.mv (.tmp 0)) none [],.mk (some 4) (.call 13 [.tmp 3]) none [0],.mk (some 5) (.un .not (.tmp 4)) none [1]]
def l5r2 : List AOper :=
  [.mk (some 6) (.build [.slice none 0 0,.slice none 0 0] []) none [],.mk none (.store 2 (.tmp 2) (.tmp 6)) none [0,0]]
def l5r3 : List AOper :=
  [.mk (some 7) (.mv (.tmp 0)) none [],.mk (some 8) (.mkslice 1 [.int .i64 0] (.tmp 7) (.tmp 7)) none [0,0],.mk (some 9) (.build [.slice none 0 0,.slice none 0 0] [(0,1,.tmp 8)]) none [1],.mk none (.store 2 (.tmp 2) (.tmp 9)) none [2,0,1,2]]
def l5 : AFn :=
  (AFn.mk 10 1 (.seq (.reg l5r0) (.seq (.seq (.reg l5r1) (.cond (.tmp 5) (.seq (.reg l5r2) .ret) .skip)) (.seq (.reg l5r3) .ret))) [.cell 2 true 2])
theorem l5_eq : lowFn Tryd.prog 5 = some l5 := by kernel_rfl
def l6r0 : List AOper :=
  [.mk (some 2) (.box (.tmp 0)) none [],.mk (some 3) (.box (.tmp 1)) none [],.mk (some 4) (.mv (.const (.bool false))) none []]
def l6r1 : List AOper :=
  [.mk (some 8) (.fld 0 (.tmp 2)) none [],.mk (some 9) (.load false 1 (.tmp 8)) none [0],.mk (some 10) (.fld 0 (.tmp 3)) none [],.mk (some 11) (.load false 1 (.tmp 10)) none [2],.mk (some 12) (.call 14 [.tmp 9,.tmp 11]) none [1,3],.mk (some 13) (.un .not (.tmp 12)) none [4],.mk (some 14) (.mv (.tmp 13)) none [5,4],.mk (some 15) (.fld 1 (.tmp 2)) (some (14,false)) [6],.mk (some 16) (.load false 1 (.tmp 15)) (some (14,false)) [7,6],.mk (some 17) (.len (.tmp 16)) (some (14,false)) [8,6],.mk (some 18) (.fld 1 (.tmp 3)) (some (14,false)) [6],.mk (some 19) (.load false 1 (.tmp 18)) (some (14,false)) [10,6],.mk (some 20) (.len (.tmp 19)) (some (14,false)) [11,6],.mk (some 21) (.bin .neq (.tmp 17) (.tmp 20)) (some (14,false)) [9,12,6],.mk (some 22) (.pick (.tmp 14) (.const (.bool true)) (.tmp 21)) none [6,13]]
def l6r2 : List AOper :=
  [.mk (some 4) (.mv (.const (.bool false))) none []]
def l6r3 : List AOper :=
  [.mk (some 5) (.mv (.const (.int .i64 0))) none []]
def l6r4 : List AOper :=
  [.mk (some 23) (.mv (.tmp 5)) none [],.mk (some 24) (.fld 1 (.tmp 2)) none [],.mk (some 25) (.load false 1 (.tmp 24)) none [1],.mk (some 26) (.len (.tmp 25)) none [2],.mk (some 27) (.bin .lss (.tmp 23) (.tmp 26)) none [0,3]]
def l6r5 : List AOper :=
  [.mk (some 30) (.fld 1 (.tmp 2)) none [],.mk (some 31) (.load false 1 (.tmp 30)) none [0],.mk (some 32) (.mv (.tmp 5)) none [],.mk (some 33) (.idxA 5 (.tmp 31) (.tmp 32)) none [1,2],.mk (some 34) (.load true 5 (.tmp 33)) none [3],.mk (some 6) (.alloc [.int .i64 0,.int .i64 0,.slice none 0 0,.slice none 0 0,.bool false]) none [],.mk none (.store 5 (.tmp 6) (.tmp 34)) none [5,4,0,1,2,3,4,5]]
def l6r6 : List AOper :=
  [.mk (some 35) (.fld 1 (.tmp 3)) none [],.mk (some 36) (.load false 1 (.tmp 35)) none [0],.mk (some 37) (.mv (.tmp 5)) none [],.mk (some 38) (.idxA 5 (.tmp 36) (.tmp 37)) none [1,2],.mk (some 39) (.load true 5 (.tmp 38)) none [3],.mk (some 7) (.alloc [.int .i64 0,.int .i64 0,.slice none 0 0,.slice none 0 0,.bool false]) none [],.mk none (.store 5 (.tmp 7) (.tmp 39)) none [5,4,0,1,2,3,4,5]]
def l6r7 : List AOper :=
  [.mk (some 40) (.fld 0 (.tmp 6)) none [],.mk (some 41) (.load false 1 (.tmp 40)) none [0],.mk (some 42) (.fld 0 (.tmp 7)) none [],.mk (some 43) (.load false 1 (.tmp 42)) none [2],.mk (some 44) (.bin .neq (.tmp 41) (.tmp 43)) none [1,3],.mk (some 45) (.mv (.tmp 44)) none [4],.mk (some 46) (.fld 4 (.tmp 6)) (some (45,false)) [5],.mk (some 47) (.load false 1 (.tmp 46)) (some (45,false)) [6,5],.mk (some 48) (.fld 4 (.tmp 7)) (some (45,false)) [5],.mk (some 49) (.load false 1 (.tmp 48)) (some (45,false)) [8,5],.mk (some 50) (.binB .neq (.tmp 47) (.tmp 49)) (some (45,false)) [7,9,5],.mk (some 51) (.pick (.tmp 45) (.const (.bool true)) (.tmp 50)) none [5,10],.mk (some 52) (.mv (.tmp 51)) none [11,5],.mk (some 53) (.fld 1 (.tmp 6)) (some (52,false)) [12],.mk (some 54) (.load true 3 (.tmp 53)) (some (52,false)) [13,12],.mk (some 55) (.fld 1 (.tmp 7)) (some (52,false)) [12],.mk (some 56) (.load true 3 (.tmp 55)) (some (52,false)) [15,12],.mk (some 57) (.call 15 [.tmp 54,.tmp 56]) (some (52,false)) [14,16,12,12],.mk (some 58) (.un .not (.tmp 57)) (some (52,false)) [17,12],.mk (some 59) (.pick (.tmp 52) (.const (.bool true)) (.tmp 58)) none [12,18]]
def l6r8 : List AOper :=
  [.mk (some 4) (.mv (.const (.bool false))) none []]
def l6r9 : List AOper :=
  [.mk (some 28) (.mv (.tmp 5)) none [],.mk (some 29) (.bin .add (.tmp 28) (.const (.int .i64 1))) none [0],.mk (some 5) (.mv (.tmp 29)) none [1,0,1]]
def l6r10 : List AOper :=
  [.mk (some 4) (.mv (.const (.bool true))) none []]
def l6 : AFn :=
  (AFn.mk 60 2 (.seq (.reg l6r0) (.seq (.seq (.reg l6r1) (.cond (.tmp 22) (.seq (.reg l6r2) .ret) .skip)) (.seq (.seq (.reg l6r3) (.block 0 (.loop (.seq (.seq (.reg l6r4) (.cond (.tmp 27) .skip (.exit 0))) (.seq (.block 1 (.seq (.reg l6r5) (.seq (.reg l6r6) (.seq (.reg l6r7) (.cond (.tmp 59) (.seq (.reg l6r8) .ret) .skip))))) (.reg l6r9)))))) (.seq (.reg l6r10) .ret)))) [.tmp 4])
theorem l6_eq : lowFn Tryd.prog 6 = some l6 := by kernel_rfl
def l7r0 : List AOper :=
  [.mk (some 2) (.alloc [.slice none 0 0,.slice none 0 0]) none []]
def l7r1 : List AOper :=
  [.mk (some 3) (.mv (.tmp 0)) none [],.mk (some 4) (.call 16 [.tmp 3,.const (.int .i64 0),.const (.int .i64 60)]) none [0],.mk (some 5) (.un .not (.tmp 4)) none [1]]
def l7r2 : List AOper :=
  [.mk (some 6) (.build [.slice none 0 0,.slice none 0 0] []) none [],.mk none (.store 2 (.tmp 2) (.tmp 6)) none [0,0]]
def l7r3 : List AOper :=
  [.mk (some 7) (.mv (.tmp 0)) none [],.mk (some 8) (.mkslice 1 [.int .i64 0] (.tmp 7) (.tmp 7)) none [0,0],.mk (some 9) (.build [.slice none 0 0,.slice none 0 0] [(0,1,.tmp 8)]) none [1],.mk none (.store 2 (.tmp 2) (.tmp 9)) none [2,0,1,2]]
def l7 : AFn :=
  (AFn.mk 10 1 (.seq (.reg l7r0) (.seq (.seq (.reg l7r1) (.cond (.tmp 5) (.seq (.reg l7r2) .ret) .skip)) (.seq (.reg l7r3) .ret))) [.cell 2 true 2])
theorem l7_eq : lowFn Tryd.prog 7 = some l7 := by kernel_rfl
def l8r0 : List AOper :=
  [.mk (some 1) (.box (.tmp 0)) none [],.mk (some 2) (.mv (.const (.bool false))) none []]
def l8r1 : List AOper :=
  [.mk (some 7) (.fld 0 (.tmp 1)) none [],.mk (some 8) (.load false 1 (.tmp 7)) none [0],.mk (some 9) (.call 17 [.tmp 8]) none [1],.mk (some 10) (.un .not (.tmp 9)) none [2],.mk (some 11) (.mv (.tmp 10)) none [3,2],.mk (some 12) (.fld 1 (.tmp 1)) (some (11,false)) [4],.mk (some 13) (.load false 1 (.tmp 12)) (some (11,false)) [5,4],.mk (some 14) (.len (.tmp 13)) (some (11,false)) [6,4],.mk (some 15) (.bin .gtr (.tmp 14) (.const (.int .i64 8))) (some (11,false)) [7,4],.mk (some 16) (.pick (.tmp 11) (.const (.bool true)) (.tmp 15)) none [4,8]]
def l8r2 : List AOper :=
  [.mk (some 2) (.mv (.const (.bool false))) none []]
def l8r3 : List AOper :=
  [.mk (some 17) (.fld 1 (.tmp 1)) none [],.mk (some 18) (.load false 1 (.tmp 17)) none [0],.mk (some 19) (.len (.tmp 18)) none [1],.mk (some 20) (.mv (.const (.int .i64 0))) none []]
def l8r4 : List AOper :=
  [.mk (some 21) (.bin .lss (.tmp 20) (.tmp 19)) none []]
def l8r5 : List AOper :=
  [.mk (some 22) (.mv (.tmp 20)) none [],.mk (some 23) (.idxA 5 (.tmp 18) (.tmp 20)) none [],.mk (some 24) (.load true 5 (.tmp 23)) none [1],.mk (some 4) (.alloc [.int .i64 0,.int .i64 0,.slice none 0 0,.slice none 0 0,.bool false]) none [],.mk (some 3) (.mv (.tmp 22)) none [0,0,1,2,3],.mk none (.store 5 (.tmp 4) (.tmp 24)) none [3,2,4,0,1,2,3,4]]
def l8r6 : List AOper :=
  [.mk (some 25) (.load true 5 (.tmp 4)) none [],.mk (some 26) (.mv (.tmp 3)) none [],.mk (some 27) (.fld 0 (.tmp 1)) none [],.mk (some 28) (.load false 1 (.tmp 27)) none [2],.mk (some 29) (.len (.tmp 28)) none [3],.mk (some 30) (.call 18 [.tmp 25,.tmp 26,.tmp 29]) none [0,1,4],.mk (some 31) (.un .not (.tmp 30)) none [5]]
def l8r7 : List AOper :=
  [.mk (some 2) (.mv (.const (.bool false))) none []]
def l8r8 : List AOper :=
  [.mk (some 32) (.bin .add (.tmp 20) (.const (.int .i64 1))) none [],.mk (some 20) (.mv (.tmp 32)) none [0]]
def l8r9 : List AOper :=
  [.mk (some 33) (.fld 1 (.tmp 1)) none [],.mk (some 34) (.load false 1 (.tmp 33)) none [0],.mk (some 35) (.len (.tmp 34)) none [1],.mk (some 36) (.mv (.const (.int .i64 0))) none []]
def l8r10 : List AOper :=
  [.mk (some 37) (.bin .lss (.tmp 36) (.tmp 35)) none []]
def l8r11 : List AOper :=
  [.mk (some 38) (.mv (.tmp 36)) none [],.mk (some 39) (.idxA 5 (.tmp 34) (.tmp 36)) none [],.mk (some 40) (.load true 5 (.tmp 39)) none [1],.mk (some 6) (.alloc [.int .i64 0,.int .i64 0,.slice none 0 0,.slice none 0 0,.bool false]) none [],.mk (some 5) (.mv (.tmp 38)) none [0,0,1,2,3],.mk none (.store 5 (.tmp 6) (.tmp 40)) none [3,2,4,0,1,2,3,4]]
def l8r12a : List AOper :=
  [.mk (some 41) (.fld 4 (.tmp 6)) none [],.mk (some 42) (.load false 1 (.tmp 41)) none [0],.mk (some 43) (.un .not (.tmp 42)) none [1],.mk (some 44) (.mv (.tmp 43)) none [2],.mk (some 45) (.load true 2 (.tmp 1)) (some (44,true)) [3],.mk (some 46) (.mv (.tmp 5)) (some (44,true)) [3],.mk (some 47) (.call 20 [.tmp 45,.tmp 46]) (some (44,true)) [4,5,3,3],.mk (some 48) (.call 21 [.tmp 47]) (some (44,true)) [6,6,3],.mk (some 49) (.load false 1 (.global 0)) (some (44,true)) [3]]
def l8r12b : List AOper :=
  [.mk (some 50) (.call 19 [.tmp 48,.tmp 49]) (some (44,true)) [7,8,7,3],.mk (some 51) (.pick (.tmp 44) (.tmp 50) (.const (.bool false))) none [3,9]]
def l8r12 : List AOper := l8r12a ++ l8r12b
def l8r13 : List AOper :=
  [.mk (some 2) (.mv (.const (.bool false))) none []]
def l8r14 : List AOper :=
  [.mk (some 52) (.bin .add (.tmp 36) (.const (.int .i64 1))) none [],.mk (some 36) (.mv (.tmp 52)) none [0]]
def l8r15 : List AOper :=
  [.mk (some 2) (.mv (.const (.bool true))) none []]
def l8 : AFn :=
  (AFn.mk 53 1 (.seq (.reg l8r0) (.seq (.seq (.reg l8r1) (.cond (.tmp 16) (.seq (.reg l8r2) .ret) .skip)) (.seq (.seq (.reg l8r3) (.block 0 (.loop (.seq (.reg l8r4) (.seq (.cond (.tmp 21) .skip (.exit 0)) (.seq (.block 1 (.seq (.reg l8r5) (.seq (.reg l8r6) (.cond (.tmp 31) (.seq (.reg l8r7) .ret) .skip)))) (.reg l8r8))))))) (.seq (.seq (.reg l8r9) (.block 2 (.loop (.seq (.reg l8r10) (.seq (.cond (.tmp 37) .skip (.exit 2)) (.seq (.block 3 (.seq (.reg l8r11) (.seq (.draw l8r12) (.cond (.tmp 51) (.seq (.reg l8r13) .ret) .skip)))) (.reg l8r14))))))) (.seq (.reg l8r15) .ret))))) [.tmp 2])
theorem l8_eq : lowFn Tryd.prog 8 = some l8 := by kernel_rfl
def l9r0 : List AOper :=
  [.mk (some 2) (.mv (.const (.int .i64 0))) none []]
def l9r1 : List AOper :=
  [.mk (some 3) (.mv (.const (.int .i64 0))) none []]
def l9r2 : List AOper :=
  [.mk (some 4) (.mv (.const (.int .i64 0))) none []]
def l9r3 : List AOper :=
  [.mk (some 5) (.mv (.tmp 4)) none [],.mk (some 6) (.mv (.tmp 0)) none [],.mk (some 7) (.len (.tmp 6)) none [1],.mk (some 8) (.bin .lss (.tmp 5) (.tmp 7)) none [0,2]]
def l9r4 : List AOper :=
  [.mk (some 11) (.mv (.tmp 3)) none [],.mk (some 12) (.mv (.tmp 0)) none [],.mk (some 13) (.mv (.tmp 4)) none [],.mk (some 14) (.idxA 1 (.tmp 12) (.tmp 13)) none [1,2],.mk (some 15) (.load false 1 (.tmp 14)) none [3],.mk (some 16) (.bin .add (.tmp 11) (.tmp 15)) none [0,4],.mk (some 3) (.mv (.tmp 16)) none [5,0,1,2,3,4,5]]
def l9r5 : List AOper :=
  [.mk (some 9) (.mv (.tmp 4)) none [],.mk (some 10) (.bin .add (.tmp 9) (.const (.int .i64 1))) none [0],.mk (some 4) (.mv (.tmp 10)) none [1,0,1]]
def l9r6 : List AOper :=
  [.mk (some 17) (.mv (.tmp 3)) none [],.mk (some 2) (.mv (.tmp 17)) none [0,0]]
def l9 : AFn :=
  (AFn.mk 18 1 (.seq (.reg l9r0) (.seq (.reg l9r1) (.seq (.seq (.reg l9r2) (.block 0 (.loop (.seq (.seq (.reg l9r3) (.cond (.tmp 8) .skip (.exit 0))) (.seq (.block 1 (.reg l9r4)) (.reg l9r5)))))) (.seq (.reg l9r6) .ret)))) [.tmp 2])
theorem l9_eq : lowFn Tryd.prog 9 = some l9 := by kernel_rfl
def l10r0 : List AOper :=
  [.mk (some 1) (.box (.tmp 0)) none [],.mk (some 2) (.mv (.const (.slice none 0 0))) none []]
def l10r1 : List AOper :=
  [.mk (some 6) (.load true 2 (.tmp 1)) none [],.mk (some 7) (.call 8 [.tmp 6]) none [0],.mk (some 8) (.un .not (.tmp 7)) none [1]]
def l10r2 : List AOper :=
  [.mk (some 2) (.mv (.const (.slice none 0 0))) none []]
def l10r3 : List AOper :=
  [.mk (some 3) (.mv (.const (.slice none 0 0))) none []]
def l10r4 : List AOper :=
  [.mk (some 9) (.fld 1 (.tmp 1)) none [],.mk (some 10) (.load false 1 (.tmp 9)) none [0],.mk (some 11) (.len (.tmp 10)) none [1],.mk (some 12) (.mv (.const (.int .i64 0))) none []]
def l10r5 : List AOper :=
  [.mk (some 13) (.bin .lss (.tmp 12) (.tmp 11)) none []]
def l10r6 : List AOper :=
  [.mk (some 14) (.mv (.tmp 12)) none [],.mk (some 15) (.idxA 5 (.tmp 10) (.tmp 12)) none [],.mk (some 16) (.load true 5 (.tmp 15)) none [1],.mk (some 5) (.alloc [.int .i64 0,.int .i64 0,.slice none 0 0,.slice none 0 0,.bool false]) none [],.mk (some 4) (.mv (.tmp 14)) none [0,0,1,2,3],.mk none (.store 5 (.tmp 5) (.tmp 16)) none [3,2,4,0,1,2,3,4]]
def l10r7 : List AOper :=
  [.mk (some 17) (.fld 4 (.tmp 5)) none [],.mk (some 18) (.load false 1 (.tmp 17)) none [0]]
def l10r8 : List AOper :=
  [.mk (some 19) (.mv (.tmp 3)) none [],.mk (some 20) (.mv (.tmp 4)) none [],.mk (some 21) (.bslice 1 [.int .i64 0] [(0,.tmp 20)] 1) none [1],.mk (some 22) (.append 1 (.tmp 19) (.tmp 21)) none [0,2],.mk (some 3) (.mv (.tmp 22)) none [3,3,0,1,2,3]]
def l10r9 : List AOper :=
  [.mk (some 23) (.bin .add (.tmp 12) (.const (.int .i64 1))) none [],.mk (some 12) (.mv (.tmp 23)) none [0]]
def l10r10 : List AOper :=
  [.mk (some 24) (.mv (.tmp 3)) none [],.mk (some 2) (.mv (.tmp 24)) none [0,0]]
def l10 : AFn :=
  (AFn.mk 25 1 (.seq (.reg l10r0) (.seq (.seq (.reg l10r1) (.cond (.tmp 8) (.seq (.reg l10r2) .ret) .skip)) (.seq (.reg l10r3) (.seq (.seq (.reg l10r4) (.block 0 (.loop (.seq (.reg l10r5) (.seq (.cond (.tmp 13) .skip (.exit 0)) (.seq (.block 1 (.seq (.reg l10r6) (.seq (.reg l10r7) (.cond (.tmp 18) (.reg l10r8) .skip)))) (.reg l10r9))))))) (.seq (.reg l10r10) .ret))))) [.tmp 2])
theorem l10_eq : lowFn Tryd.prog 10 = some l10 := by kernel_rfl
def l11r0 : List AOper :=
  [.mk (some 2) (.mv (.const (.pointer none))) none []]
def l11r1 : List AOper :=
  [.mk (some 3) (.mv (.tmp 0)) none [],.mk (some 4) (.len (.tmp 3)) none [0],.mk (some 5) (.bin .gtr (.tmp 4) (.const (.int .i64 2000))) none [1]]
def l11r2 : List AOper :=
  [.mk (some 6) (.mv (.tmp 0)) none [],.mk (some 7) (.slice 1 (.tmp 6) none (some (.const (.int .i64 2000)))) none [0],.mk (some 0) (.mv (.tmp 7)) none [1,0,1]]
def l11r3 : List AOper :=
  [.mk (some 8) (.mv (.tmp 0)) none [],.mk (some 9) (.build [.slice none 0 0,.int .i64 0] [(0,1,.tmp 8)]) none [0],.mk (some 10) (.box (.tmp 9)) none [1],.mk (some 2) (.mv (.tmp 10)) none [2,0,1,2]]
def l11 : AFn :=
  (AFn.mk 11 1 (.seq (.reg l11r0) (.seq (.seq (.reg l11r1) (.cond (.tmp 5) (.reg l11r2) .skip)) (.seq (.reg l11r3) .ret))) [.tmp 2])
theorem l11_eq : lowFn Tryd.prog 11 = some l11 := by kernel_rfl
def l12r0 : List AOper :=
  [.mk (some 4) (.mv (.const (.int .i64 0))) none []]
def l12r1 : List AOper :=
  [.mk (some 5) (.mv (.tmp 1)) none [],.mk (some 6) (.mv (.tmp 0)) none [],.mk (some 7) (.mv (.tmp 1)) none [],.mk (some 8) (.len (.tmp 7)) none [2],.mk (some 9) (.call 22 [.tmp 6,.tmp 8]) none [1,3],.mk (some 10) (.idxA 1 (.tmp 5) (.tmp 9)) none [0,4],.mk (some 11) (.load false 1 (.tmp 10)) none [5],.mk (some 4) (.mv (.tmp 11)) none [6,4,0,1,2,3,4,5,6]]
def l12 : AFn :=
  (AFn.mk 12 2 (.seq (.reg l12r0) (.seq (.reg l12r1) .ret)) [.tmp 4])
theorem l12_eq : lowFn Tryd.prog 12 = some l12 := by kernel_rfl
def l13r0 : List AOper :=
  [.mk (some 2) (.mv (.const (.bool false))) none []]
def l13r1 : List AOper :=
  [.mk (some 3) (.mv (.tmp 0)) none [],.mk (some 4) (.bin .leq (.const (.int .i64 0)) (.tmp 3)) none [0],.mk (some 5) (.mv (.tmp 4)) none [1],.mk (some 6) (.mv (.tmp 0)) (some (5,true)) [2],.mk (some 7) (.bin .leq (.tmp 6) (.const (.int .i64 60))) (some (5,true)) [3,2],.mk (some 8) (.pick (.tmp 5) (.tmp 7) (.const (.bool false))) none [2,4],.mk (some 2) (.mv (.tmp 8)) none [5,2,0,1,2,3,4,5]]
def l13 : AFn :=
  (AFn.mk 9 1 (.seq (.reg l13r0) (.seq (.reg l13r1) .ret)) [.tmp 2])
theorem l13_eq : lowFn Tryd.prog 13 = some l13 := by kernel_rfl
def l14r0 : List AOper :=
  [.mk (some 4) (.mv (.const (.bool false))) none []]
def l14r1 : List AOper :=
  [.mk (some 6) (.mv (.tmp 0)) none [],.mk (some 7) (.len (.tmp 6)) none [0],.mk (some 8) (.mv (.tmp 1)) none [],.mk (some 9) (.len (.tmp 8)) none [2],.mk (some 10) (.bin .neq (.tmp 7) (.tmp 9)) none [1,3]]
def l14r2 : List AOper :=
  [.mk (some 4) (.mv (.const (.bool false))) none []]
def l14r3 : List AOper :=
  [.mk (some 5) (.mv (.const (.int .i64 0))) none []]
def l14r4 : List AOper :=
  [.mk (some 11) (.mv (.tmp 5)) none [],.mk (some 12) (.mv (.tmp 0)) none [],.mk (some 13) (.len (.tmp 12)) none [1],.mk (some 14) (.bin .lss (.tmp 11) (.tmp 13)) none [0,2]]
def l14r5a : List AOper :=
  [.mk (some 17) (.mv (.tmp 0)) none [],.mk (some 18) (.mv (.tmp 5)) none [],.mk (some 19) (.idxA 1 (.tmp 17) (.tmp 18)) none [0,1],.mk (some 20) (.load false 1 (.tmp 19)) none [2],.mk (some 21) (.mv (.tmp 1)) none [],.mk (some 22) (.mv (.tmp 5)) none [],.mk (some 23) (.idxA 1 (.tmp 21) (.tmp 22)) none [4,5],.mk (some 24) (.load false 1 (.tmp 23)) none [6]]
def l14r5b : List AOper :=
  [.mk (some 25) (.bin .neq (.tmp 20) (.tmp 24)) none [3,7]]
def l14r5 : List AOper := l14r5a ++ l14r5b
def l14r6 : List AOper :=
  [.mk (some 4) (.mv (.const (.bool false))) none []]
def l14r7 : List AOper :=
  [.mk (some 15) (.mv (.tmp 5)) none [],.mk (some 16) (.bin .add (.tmp 15) (.const (.int .i64 1))) none [0],.mk (some 5) (.mv (.tmp 16)) none [1,0,1]]
def l14r8 : List AOper :=
  [.mk (some 4) (.mv (.const (.bool true))) none []]
def l14 : AFn :=
  (AFn.mk 26 2 (.seq (.reg l14r0) (.seq (.seq (.reg l14r1) (.cond (.tmp 10) (.seq (.reg l14r2) .ret) .skip)) (.seq (.seq (.reg l14r3) (.block 0 (.loop (.seq (.seq (.reg l14r4) (.cond (.tmp 14) .skip (.exit 0))) (.seq (.block 1 (.seq (.draw l14r5) (.cond (.tmp 25) (.seq (.reg l14r6) .ret) .skip))) (.reg l14r7)))))) (.seq (.reg l14r8) .ret)))) [.tmp 4])
theorem l14_eq : lowFn Tryd.prog 14 = some l14 := by kernel_rfl
def l15r0 : List AOper :=
  [.mk (some 2) (.box (.tmp 0)) none [],.mk (some 3) (.box (.tmp 1)) none [],.mk (some 4) (.mv (.const (.bool false))) none []]
def l15r1 : List AOper :=
  [.mk (some 5) (.fld 0 (.tmp 2)) none [],.mk (some 6) (.load false 1 (.tmp 5)) none [0],.mk (some 7) (.fld 0 (.tmp 3)) none [],.mk (some 8) (.load false 1 (.tmp 7)) none [2],.mk (some 9) (.bin .eql (.tmp 6) (.tmp 8)) none [1,3],.mk (some 10) (.mv (.tmp 9)) none [4],.mk (some 11) (.fld 1 (.tmp 2)) (some (10,true)) [5],.mk (some 12) (.load false 1 (.tmp 11)) (some (10,true)) [6,5],.mk (some 13) (.fld 1 (.tmp 3)) (some (10,true)) [5],.mk (some 14) (.load false 1 (.tmp 13)) (some (10,true)) [8,5],.mk (some 15) (.call 14 [.tmp 12,.tmp 14]) (some (10,true)) [7,9,5,5],.mk (some 16) (.pick (.tmp 10) (.tmp 15) (.const (.bool false))) none [5,10],.mk (some 17) (.mv (.tmp 16)) none [11,10],.mk (some 18) (.fld 2 (.tmp 2)) (some (17,true)) [12],.mk (some 19) (.load false 1 (.tmp 18)) (some (17,true)) [13,12],.mk (some 20) (.fld 2 (.tmp 3)) (some (17,true)) [12],.mk (some 21) (.load false 1 (.tmp 20)) (some (17,true)) [15,12],.mk (some 22) (.call 14 [.tmp 19,.tmp 21]) (some (17,true)) [14,16,12,12],.mk (some 23) (.pick (.tmp 17) (.tmp 22) (.const (.bool false))) none [12,17],.mk (some 4) (.mv (.tmp 23)) none [18,17,0,1,2,3,4,5,6,7,8,9,10,11,12,13,14,15,16,17,18]]
def l15 : AFn :=
  (AFn.mk 24 2 (.seq (.reg l15r0) (.seq (.reg l15r1) .ret)) [.tmp 4])
theorem l15_eq : lowFn Tryd.prog 15 = some l15 := by kernel_rfl
def l16r0 : List AOper :=
  [.mk (some 6) (.mv (.const (.bool false))) none []]
def l16r1 : List AOper :=
  [.mk (some 7) (.mv (.tmp 1)) none [],.mk (some 8) (.mv (.tmp 0)) none [],.mk (some 9) (.bin .leq (.tmp 7) (.tmp 8)) none [0,1],.mk (some 10) (.mv (.tmp 9)) none [2],.mk (some 11) (.mv (.tmp 0)) (some (10,true)) [3],.mk (some 12) (.mv (.tmp 2)) (some (10,true)) [3],.mk (some 13) (.bin .leq (.tmp 11) (.tmp 12)) (some (10,true)) [4,5,3],.mk (some 14) (.pick (.tmp 10) (.tmp 13) (.const (.bool false))) none [3,6],.mk (some 6) (.mv (.tmp 14)) none [7,3,0,1,2,3,4,5,6,7]]
def l16 : AFn :=
  (AFn.mk 15 3 (.seq (.reg l16r0) (.seq (.reg l16r1) .ret)) [.tmp 6])
theorem l16_eq : lowFn Tryd.prog 16 = some l16 := by kernel_rfl
def l17r0 : List AOper :=
  [.mk (some 2) (.mv (.const (.bool false))) none []]
def l17r1 : List AOper :=
  [.mk (some 3) (.mv (.tmp 0)) none [],.mk (some 4) (.len (.tmp 3)) none [0],.mk (some 5) (.call 13 [.tmp 4]) none [1],.mk (some 6) (.mv (.tmp 5)) none [2,2],.mk (some 7) (.mv (.tmp 0)) (some (6,true)) [3],.mk (some 8) (.call 23 [.tmp 7]) (some (6,true)) [4,3,3],.mk (some 9) (.pick (.tmp 6) (.tmp 8) (.const (.bool false))) none [3,5],.mk (some 2) (.mv (.tmp 9)) none [6,5,0,1,2,3,4,5,6]]
def l17 : AFn :=
  (AFn.mk 10 1 (.seq (.reg l17r0) (.seq (.reg l17r1) .ret)) [.tmp 2])
theorem l17_eq : lowFn Tryd.prog 17 = some l17 := by kernel_rfl
def l18r0 : List AOper :=
  [.mk (some 3) (.box (.tmp 0)) none [],.mk (some 6) (.mv (.const (.bool false))) none []]
def l18r1 : List AOper :=
  [.mk (some 7) (.fld 1 (.tmp 3)) none [],.mk (some 8) (.load true 3 (.tmp 7)) none [0],.mk (some 9) (.call 24 [.tmp 8]) none [1],.mk (some 10) (.un .not (.tmp 9)) none [2],.mk (some 11) (.mv (.tmp 10)) none [3,2],.mk (some 12) (.fld 0 (.tmp 3)) (some (11,false)) [4],.mk (some 13) (.load false 1 (.tmp 12)) (some (11,false)) [5,4],.mk (some 14) (.bin .lss (.tmp 13) (.const (.int .i64 (-1)))) (some (11,false)) [6,4],.mk (some 15) (.pick (.tmp 11) (.const (.bool true)) (.tmp 14)) none [4,7],.mk (some 16) (.mv (.tmp 15)) none [8,4],.mk (some 17) (.fld 0 (.tmp 3)) (some (16,false)) [9],.mk (some 18) (.load false 1 (.tmp 17)) (some (16,false)) [10,9],.mk (some 19) (.mv (.tmp 1)) (some (16,false)) [9],.mk (some 20) (.bin .geq (.tmp 18) (.tmp 19)) (some (16,false)) [11,12,9],.mk (some 21) (.pick (.tmp 16) (.const (.bool true)) (.tmp 20)) none [9,13]]
def l18r2 : List AOper :=
  [.mk (some 6) (.mv (.const (.bool false))) none []]
def l18r3 : List AOper :=
  [.mk (some 22) (.fld 4 (.tmp 3)) none [],.mk (some 23) (.load false 1 (.tmp 22)) none [0],.mk (some 24) (.un .not (.tmp 23)) none [1],.mk (some 25) (.mv (.tmp 24)) none [2],.mk (some 26) (.fld 1 (.tmp 3)) (some (25,false)) [3],.mk (some 27) (.load true 3 (.tmp 26)) (some (25,false)) [4,3],.mk (some 28) (.mv (.tmp 2)) (some (25,false)) [3],.mk (some 29) (.call 25 [.tmp 27,.tmp 28]) (some (25,false)) [5,6,3,3],.mk (some 30) (.pick (.tmp 25) (.const (.bool true)) (.tmp 29)) none [3,7],.mk (some 6) (.mv (.tmp 30)) none [8,7,0,1,2,3,4,5,6,7,8]]
def l18 : AFn :=
  (AFn.mk 31 3 (.seq (.reg l18r0) (.seq (.seq (.reg l18r1) (.cond (.tmp 21) (.seq (.reg l18r2) .ret) .skip)) (.seq (.reg l18r3) .ret))) [.tmp 6])
theorem l18_eq : lowFn Tryd.prog 18 = some l18 := by kernel_rfl
def l19r0 : List AOper :=
  [.mk (some 4) (.mv (.const (.bool false))) none []]
def l19r1 : List AOper :=
  [.mk (some 6) (.mv (.tmp 0)) none [],.mk (some 7) (.bin .eql (.tmp 6) (.const .nilIface)) none [0],.mk (some 8) (.mv (.tmp 7)) none [1],.mk (some 9) (.mv (.tmp 1)) (some (8,false)) [2],.mk (some 10) (.bin .eql (.tmp 9) (.const .nilIface)) (some (8,false)) [3,2],.mk (some 11) (.pick (.tmp 8) (.const (.bool true)) (.tmp 10)) none [2,4]]
def l19r2 : List AOper :=
  [.mk (some 12) (.mv (.tmp 0)) none [],.mk (some 13) (.mv (.tmp 1)) none [],.mk (some 14) (.bin .eql (.tmp 12) (.tmp 13)) none [0,1],.mk (some 4) (.mv (.tmp 14)) none [2,0,1,2]]
def l19r3 : List AOper :=
  [.mk (some 15) (.mv (.tmp 1)) none [],.mk (some 16) (.raw (Op.call (Call.mk (Callee.value (.func 26)) (Array.mk [.tmp 15]) (Array.mk [20])))) none [0],.mk (some 17) (.raw (Op.call (Call.mk (Callee.invoke (.tmp 16) "Comparable") (Array.mk []) (Array.mk [])))) none [1,1],.mk (some 5) (.mv (.tmp 17)) none [2,2,0,1,2]]
def l19r4 : List AOper :=
  [.mk (some 18) (.mv (.tmp 0)) none [],.mk (some 19) (.mv (.tmp 1)) none [],.mk (some 20) (.mv (.tmp 5)) none [],.mk (some 21) (.call 27 [.tmp 18,.tmp 19,.tmp 20]) none [0,1,2],.mk (some 4) (.mv (.tmp 21)) none [3,3,0,1,2,3]]
def l19 : AFn :=
  (AFn.mk 22 2 (.seq (.reg l19r0) (.seq (.seq (.reg l19r1) (.cond (.tmp 11) (.seq (.reg l19r2) .ret) .skip)) (.seq (.reg l19r3) (.seq (.reg l19r4) .ret)))) [.tmp 4])
theorem l19_eq : lowFn Tryd.prog 19 = some l19 := by kernel_rfl
def l20r0 : List AOper :=
  [.mk (some 2) (.box (.tmp 0)) none [],.mk (some 4) (.mv (.const (.pointer none))) none []]
def l20r1 : List AOper :=
  [.mk (some 10) (.build [.slice none 0 0] []) none [],.mk (some 11) (.box (.tmp 10)) none [0],.mk (some 5) (.mv (.tmp 11)) none [1,0,1]]
def l20r2 : List AOper :=
  [.mk (some 6) (.mv (.const (.slice none 0 0))) none []]
def l20r3 : List AOper :=
  [.mk (some 12) (.fld 1 (.tmp 2)) none [],.mk (some 13) (.load false 1 (.tmp 12)) none [0],.mk (some 14) (.len (.tmp 13)) none [1],.mk (some 15) (.mv (.const (.int .i64 0))) none []]
def l20r4 : List AOper :=
  [.mk (some 16) (.bin .lss (.tmp 15) (.tmp 14)) none []]
def l20r5 : List AOper :=
  [.mk (some 17) (.mv (.tmp 15)) none [],.mk (some 18) (.idxA 5 (.tmp 13) (.tmp 15)) none [],.mk (some 19) (.load true 5 (.tmp 18)) none [1],.mk (some 8) (.alloc [.int .i64 0,.int .i64 0,.slice none 0 0,.slice none 0 0,.bool false]) none [],.mk (some 7) (.mv (.tmp 17)) none [0,0,1,2,3],.mk none (.store 5 (.tmp 8) (.tmp 19)) none [3,2,4,0,1,2,3,4]]
def l20r6 : List AOper :=
  [.mk (some 20) (.mv (.tmp 5)) none [],.mk (some 9) (.mv (.tmp 20)) none [0,0]]
def l20r7 : List AOper :=
  [.mk (some 21) (.fld 0 (.tmp 8)) none [],.mk (some 22) (.load false 1 (.tmp 21)) none [0],.mk (some 23) (.bin .neq (.tmp 22) (.const (.int .i64 (-1)))) none [1]]
def l20r8 : List AOper :=
  [.mk (some 24) (.mv (.tmp 6)) none [],.mk (some 25) (.fld 0 (.tmp 8)) none [],.mk (some 26) (.load false 1 (.tmp 25)) none [1],.mk (some 27) (.idxA 1 (.tmp 24) (.tmp 26)) none [0,2],.mk (some 28) (.load false 1 (.tmp 27)) none [3],.mk (some 9) (.mv (.tmp 28)) none [4,0,1,2,3,4]]
def l20r9 : List AOper :=
  [.mk (some 29) (.mv (.tmp 6)) none [],.mk (some 30) (.mv (.tmp 9)) none [],.mk (some 31) (.mv (.tmp 7)) none [],.mk (some 32) (.fld 4 (.tmp 8)) none [],.mk (some 33) (.load false 1 (.tmp 32)) none [3],.mk (some 34) (.call 28 [.tmp 30,.tmp 31,.tmp 33]) none [1,2,4],.mk (some 35) (.bslice 1 [.pointer none] [(0,.tmp 34)] 1) none [5],.mk (some 36) (.append 1 (.tmp 29) (.tmp 35)) none [0,6,5],.mk (some 6) (.mv (.tmp 36)) none [7,7,0,1,2,3,4,5,6,7]]
def l20r10 : List AOper :=
  [.mk (some 37) (.bin .add (.tmp 15) (.const (.int .i64 1))) none [],.mk (some 15) (.mv (.tmp 37)) none [0]]
def l20r11 : List AOper :=
  [.mk (some 38) (.mv (.tmp 1)) none [],.mk (some 39) (.bin .eql (.tmp 38) (.const (.int .i64 (-1)))) none [0]]
def l20r12 : List AOper :=
  [.mk (some 40) (.mv (.tmp 5)) none [],.mk (some 4) (.mv (.tmp 40)) none [0,0]]
def l20r13 : List AOper :=
  [.mk (some 41) (.mv (.tmp 6)) none [],.mk (some 42) (.mv (.tmp 1)) none [],.mk (some 43) (.idxA 1 (.tmp 41) (.tmp 42)) none [0,1],.mk (some 44) (.load false 1 (.tmp 43)) none [2],.mk (some 4) (.mv (.tmp 44)) none [3,0,1,2,3]]
def l20 : AFn :=
  (AFn.mk 45 2 (.seq (.reg l20r0) (.seq (.reg l20r1) (.seq (.reg l20r2) (.seq (.seq (.reg l20r3) (.block 0 (.loop (.seq (.reg l20r4) (.seq (.cond (.tmp 16) .skip (.exit 0)) (.seq (.block 1 (.seq (.reg l20r5) (.seq (.reg l20r6) (.seq (.seq (.reg l20r7) (.cond (.tmp 23) (.reg l20r8) .skip)) (.reg l20r9))))) (.reg l20r10))))))) (.seq (.seq (.reg l20r11) (.cond (.tmp 39) (.seq (.reg l20r12) .ret) .skip)) (.seq (.reg l20r13) .ret)))))) [.tmp 4])
theorem l20_eq : lowFn Tryd.prog 20 = some l20 := by kernel_rfl
def l21r0 : List AOper :=
  [.mk (some 2) (.mv (.const .nilIface)) none []]
def l21r1 : List AOper :=
  [.mk (some 3) (.mv (.tmp 0)) none [],.mk (some 4) (.nilck (.tmp 3)) none [0],.mk (some 5) (.fld 0 (.tmp 4)) none [1],.mk (some 6) (.load false 1 (.tmp 5)) none [2],.mk (some 7) (.len (.tmp 6)) none [3],.mk (some 8) (.bin .gtr (.tmp 7) (.const (.int .i64 0))) none [4]]
def l21r2 : List AOper :=
  [.mk (some 9) (.load false 1 (.global 0)) none [],.mk (some 2) (.mv (.tmp 9)) none [0,0]]
def l21r3 : List AOper :=
  [.mk (some 2) (.mv (.const .nilIface)) none []]
def l21 : AFn :=
  (AFn.mk 10 1 (.seq (.reg l21r0) (.seq (.seq (.reg l21r1) (.cond (.tmp 8) (.seq (.reg l21r2) .ret) .skip)) (.seq (.reg l21r3) .ret))) [.tmp 2])
theorem l21_eq : lowFn Tryd.prog 21 = some l21 := by kernel_rfl
def l22r0 : List AOper :=
  [.mk (some 4) (.mv (.const (.int .i64 0))) none []]
def l22r1 : List AOper :=
  [.mk (some 7) (.mv (.tmp 0)) none [],.mk (some 8) (.mv (.tmp 0)) none [],.mk (some 9) (.nilck (.tmp 8)) none [1],.mk (some 10) (.fld 1 (.tmp 9)) none [2],.mk (some 11) (.load false 1 (.tmp 10)) none [3],.mk (some 12) (.bin .add (.tmp 11) (.const (.int .i64 1))) none [4],.mk (some 13) (.nilck (.tmp 7)) none [0,0,1,2,3,4,5],.mk (some 14) (.fld 1 (.tmp 13)) none [6,0,1,2,3,4,5],.mk none (.store 1 (.tmp 14) (.tmp 12)) none [7,5,0,1,2,3,4,5]]
def l22r2 : List AOper :=
  [.mk (some 15) (.mv (.tmp 1)) none [],.mk (some 16) (.bin .lss (.tmp 15) (.const (.int .i64 1))) none [0],.mk (some 17) (.mv (.tmp 16)) none [1],.mk (some 18) (.mv (.tmp 0)) (some (17,false)) [2],.mk (some 19) (.nilck (.tmp 18)) (some (17,false)) [3,2],.mk (some 20) (.fld 0 (.tmp 19)) (some (17,false)) [4,2],.mk (some 21) (.load false 1 (.tmp 20)) (some (17,false)) [5,2],.mk (some 22) (.len (.tmp 21)) (some (17,false)) [6,2],.mk (some 23) (.bin .eql (.tmp 22) (.const (.int .i64 0))) (some (17,false)) [7,2],.mk (some 24) (.pick (.tmp 17) (.const (.bool true)) (.tmp 23)) none [2,8]]
def l22r3 : List AOper :=
  [.mk (some 4) (.mv (.const (.int .i64 0))) none []]
def l22r4 : List AOper :=
  [.mk (some 25) (.mv (.tmp 0)) none [],.mk (some 26) (.nilck (.tmp 25)) none [0],.mk (some 27) (.fld 1 (.tmp 26)) none [1],.mk (some 28) (.load false 1 (.tmp 27)) none [2],.mk (some 29) (.bin .sub (.tmp 28) (.const (.int .i64 1))) none [3],.mk (some 5) (.mv (.tmp 29)) none [4,0,1,2,3,4]]
def l22r5 : List AOper :=
  [.mk (some 30) (.mv (.tmp 5)) none [],.mk (some 31) (.mv (.tmp 0)) none [],.mk (some 32) (.nilck (.tmp 31)) none [1],.mk (some 33) (.fld 0 (.tmp 32)) none [2],.mk (some 34) (.load false 1 (.tmp 33)) none [3],.mk (some 35) (.len (.tmp 34)) none [4],.mk (some 36) (.bin .lss (.tmp 30) (.tmp 35)) none [0,5]]
def l22r6 : List AOper :=
  [.mk (some 37) (.mv (.tmp 0)) none [],.mk (some 38) (.nilck (.tmp 37)) none [0],.mk (some 39) (.fld 0 (.tmp 38)) none [1],.mk (some 40) (.load false 1 (.tmp 39)) none [2],.mk (some 41) (.mv (.tmp 5)) none [],.mk (some 42) (.idxA 1 (.tmp 40) (.tmp 41)) none [3,4],.mk (some 43) (.load false 1 (.tmp 42)) none [5],.mk (some 44) (.conv .i64 (.tmp 43)) none [6],.mk (some 45) (.mv (.tmp 1)) none [],.mk (some 46) (.bin .rem (.tmp 44) (.tmp 45)) none [7,8],.mk (some 4) (.mv (.tmp 46)) none [9,0,1,2,3,4,5,6,7,8,9]]
def l22r7a : List AOper :=
  [.mk (some 47) (.mv (.tmp 0)) none [],.mk (some 48) (.nilck (.tmp 47)) none [0],.mk (some 49) (.fld 0 (.tmp 48)) none [1],.mk (some 50) (.load false 1 (.tmp 49)) none [2],.mk (some 51) (.mv (.tmp 5)) none [],.mk (some 52) (.mv (.tmp 0)) none [],.mk (some 53) (.nilck (.tmp 52)) none [5],.mk (some 54) (.fld 0 (.tmp 53)) none [6],.mk (some 55) (.load false 1 (.tmp 54)) none [7],.mk (some 56) (.len (.tmp 55)) none [8],.mk (some 57) (.bin .rem (.tmp 51) (.tmp 56)) none [4,9],.mk (some 58) (.idxA 1 (.tmp 50) (.tmp 57)) none [3,10],.mk (some 59) (.load false 1 (.tmp 58)) none [11],.mk (some 60) (.conv .i64 (.tmp 59)) none [12],.mk (some 61) (.bin .mul (.tmp 60) (.const (.int .i64 131))) none [13],.mk (some 62) (.mv (.tmp 0)) none [],.mk (some 63) (.nilck (.tmp 62)) none [15],.mk (some 64) (.fld 0 (.tmp 63)) none [16],.mk (some 65) (.load false 1 (.tmp 64)) none [17],.mk (some 66) (.mv (.tmp 5)) none [],.mk (some 67) (.bin .mul (.tmp 66) (.const (.int .i64 7))) none [19],.mk (some 68) (.bin .add (.tmp 67) (.const (.int .i64 3))) none [20],.mk (some 69) (.mv (.tmp 0)) none [],.mk (some 70) (.nilck (.tmp 69)) none [22],.mk (some 71) (.fld 0 (.tmp 70)) none [23],.mk (some 72) (.load false 1 (.tmp 71)) none [24],.mk (some 73) (.len (.tmp 72)) none [25],.mk (some 74) (.bin .rem (.tmp 68) (.tmp 73)) none [21,26],.mk (some 75) (.idxA 1 (.tmp 65) (.tmp 74)) none [18,27],.mk (some 76) (.load false 1 (.tmp 75)) none [28],.mk (some 77) (.conv .i64 (.tmp 76)) none [29],.mk (some 78) (.bin .mul (.tmp 77) (.const (.int .i64 1117))) none [30],.mk (some 79) (.bin .add (.tmp 61) (.tmp 78)) none [14,31],.mk (some 80) (.mv (.tmp 5)) none [],.mk (some 81) (.bin .mul (.tmp 80) (.const (.int .i64 29))) none [33],.mk (some 82) (.bin .add (.tmp 79) (.tmp 81)) none [32,34],.mk (some 83) (.mv (.tmp 5)) none [],.mk (some 84) (.mv (.tmp 0)) none [],.mk (some 85) (.nilck (.tmp 84)) none [37],.mk (some 86) (.fld 0 (.tmp 85)) none [38],.mk (some 87) (.load false 1 (.tmp 86)) none [39],.mk (some 88) (.len (.tmp 87)) none [40],.mk (some 89) (.bin .quo (.tmp 83) (.tmp 88)) none [36,41],.mk (some 90) (.bin .mul (.tmp 89) (.const (.int .i64 53))) none [42]]
def l22r7b : List AOper :=
  [.mk (some 91) (.bin .add (.tmp 82) (.tmp 90)) none [35,43],.mk (some 6) (.mv (.tmp 91)) none [44,0,1,2,3,4,5,6,7,8,9,10,11,12,13,14,15,16,17,18,19,20,21,22,23,24,25,26,27,28,29,30,31,32,33,34,35,36,37,38,39,40,41,42,43,44]]
def l22r7 : List AOper := l22r7a ++ l22r7b
def l22r8 : List AOper :=
  [.mk (some 92) (.mv (.tmp 6)) none [],.mk (some 93) (.mv (.tmp 6)) none [],.mk (some 94) (.bin .quo (.tmp 93) (.const (.int .i64 64))) none [1],.mk (some 95) (.bin .xor (.tmp 92) (.tmp 94)) none [0,2],.mk (some 6) (.mv (.tmp 95)) none [3,0,1,2,3]]
def l22r9 : List AOper :=
  [.mk (some 96) (.mv (.tmp 6)) none [],.mk (some 97) (.mv (.tmp 1)) none [],.mk (some 98) (.bin .rem (.tmp 96) (.tmp 97)) none [0,1],.mk (some 4) (.mv (.tmp 98)) none [2,0,1,2]]
def l22 : AFn :=
  (AFn.mk 99 2 (.seq (.reg l22r0) (.seq (.reg l22r1) (.seq (.seq (.reg l22r2) (.cond (.tmp 24) (.seq (.reg l22r3) .ret) .skip)) (.seq (.reg l22r4) (.seq (.seq (.reg l22r5) (.cond (.tmp 36) (.seq (.reg l22r6) .ret) .skip)) (.seq (.draw l22r7) (.seq (.reg l22r8) (.seq (.reg l22r9) .ret)))))))) [.tmp 4])
theorem l22_eq : lowFn Tryd.prog 22 = some l22 := by kernel_rfl
def l23r0 : List AOper :=
  [.mk (some 2) (.mv (.const (.bool false))) none []]
def l23r1 : List AOper :=
  [.mk (some 5) (.mv (.tmp 0)) none [],.mk (some 6) (.len (.tmp 5)) none [0],.mk (some 7) (.mv (.const (.int .i64 0))) none []]
def l23r2 : List AOper :=
  [.mk (some 8) (.bin .lss (.tmp 7) (.tmp 6)) none []]
def l23r3 : List AOper :=
  [.mk (some 9) (.idxA 1 (.tmp 5) (.tmp 7)) none [],.mk (some 10) (.load false 1 (.tmp 9)) none [0],.mk (some 4) (.mv (.tmp 10)) none [1,0,1]]
def l23r4 : List AOper :=
  [.mk (some 11) (.mv (.tmp 4)) none [],.mk (some 12) (.call 29 [.tmp 11,.const (.int .i64 255)]) none [0],.mk (some 13) (.un .not (.tmp 12)) none [1]]
def l23r5 : List AOper :=
  [.mk (some 2) (.mv (.const (.bool false))) none []]
def l23r6 : List AOper :=
  [.mk (some 14) (.bin .add (.tmp 7) (.const (.int .i64 1))) none [],.mk (some 7) (.mv (.tmp 14)) none [0]]
def l23r7 : List AOper :=
  [.mk (some 2) (.mv (.const (.bool true))) none []]
def l23 : AFn :=
  (AFn.mk 15 1 (.seq (.reg l23r0) (.seq (.seq (.reg l23r1) (.block 0 (.loop (.seq (.reg l23r2) (.seq (.cond (.tmp 8) .skip (.exit 0)) (.seq (.block 1 (.seq (.reg l23r3) (.seq (.reg l23r4) (.cond (.tmp 13) (.seq (.reg l23r5) .ret) .skip)))) (.reg l23r6))))))) (.seq (.reg l23r7) .ret))) [.tmp 2])
theorem l23_eq : lowFn Tryd.prog 23 = some l23 := by kernel_rfl
def l24r0 : List AOper :=
  [.mk (some 1) (.box (.tmp 0)) none [],.mk (some 2) (.mv (.const (.bool false))) none []]
def l24r1 : List AOper :=
  [.mk (some 5) (.fld 1 (.tmp 1)) none [],.mk (some 6) (.load false 1 (.tmp 5)) none [0],.mk (some 7) (.call 30 [.tmp 6]) none [1],.mk (some 8) (.un .not (.tmp 7)) none [2],.mk (some 9) (.mv (.tmp 8)) none [3,2],.mk (some 10) (.fld 2 (.tmp 1)) (some (9,false)) [4],.mk (some 11) (.load false 1 (.tmp 10)) (some (9,false)) [5,4],.mk (some 12) (.fld 1 (.tmp 1)) (some (9,false)) [4],.mk (some 13) (.load false 1 (.tmp 12)) (some (9,false)) [7,4],.mk (some 14) (.len (.tmp 13)) (some (9,false)) [8,4],.mk (some 15) (.call 31 [.tmp 11,.tmp 14]) (some (9,false)) [6,9,4,4],.mk (some 16) (.un .not (.tmp 15)) (some (9,false)) [10,4],.mk (some 17) (.pick (.tmp 9) (.const (.bool true)) (.tmp 16)) none [4,11],.mk (some 18) (.mv (.tmp 17)) none [12,10],.mk (some 19) (.fld 0 (.tmp 1)) (some (18,false)) [13],.mk (some 20) (.load false 1 (.tmp 19)) (some (18,false)) [14,13],.mk (some 21) (.call 29 [.tmp 20,.const (.int .i64 60)]) (some (18,false)) [15,13,13],.mk (some 22) (.un .not (.tmp 21)) (some (18,false)) [16,13],.mk (some 23) (.pick (.tmp 18) (.const (.bool true)) (.tmp 22)) none [13,17]]
def l24r2 : List AOper :=
  [.mk (some 2) (.mv (.const (.bool false))) none []]
def l24r3 : List AOper :=
  [.mk (some 25) (.load true 3 (.tmp 1)) none [],.mk (some 26) (.call 32 [.tmp 25]) none [0],.mk (some 24) (.mv (.tmp 26)) none [1],.mk (some 27) (.extract (.tmp 24) 0) none [2],.mk (some 28) (.extract (.tmp 24) 1) none [2],.mk (some 3) (.mv (.tmp 27)) none [3,1,0,1,2,3],.mk (some 4) (.mv (.tmp 28)) none [4,5,0,1,2,3,4,5]]
def l24r4 : List AOper :=
  [.mk (some 29) (.load true 3 (.tmp 1)) none [],.mk (some 30) (.call 33 [.tmp 29]) none [0],.mk (some 31) (.bin .eql (.tmp 30) (.const (.int .i64 0))) none [1],.mk (some 32) (.mv (.tmp 31)) none [2,1],.mk (some 33) (.mv (.tmp 3)) (some (32,false)) [3],.mk (some 34) (.bin .geq (.tmp 33) (.const (.int .i64 0))) (some (32,false)) [4,3],.mk (some 35) (.mv (.tmp 34)) (some (32,false)) [5,3,3],.mk (some 36) (.mv (.tmp 4)) (some (35,true)) [6],.mk (some 37) (.bin .lss (.tmp 36) (.const (.int .i64 60))) (some (35,true)) [7,6],.mk (some 38) (.pick (.tmp 35) (.tmp 37) (.const (.bool false))) (some (32,false)) [6,8,3],.mk (some 39) (.pick (.tmp 32) (.const (.bool true)) (.tmp 38)) none [3,9],.mk (some 2) (.mv (.tmp 39)) none [10,6,0,1,2,3,4,5,6,7,8,9,10]]
def l24 : AFn :=
  (AFn.mk 40 1 (.seq (.reg l24r0) (.seq (.seq (.reg l24r1) (.cond (.tmp 23) (.seq (.reg l24r2) .ret) .skip)) (.seq (.reg l24r3) (.seq (.reg l24r4) .ret)))) [.tmp 2])
theorem l24_eq : lowFn Tryd.prog 24 = some l24 := by kernel_rfl
def l25r0 : List AOper :=
  [.mk (some 2) (.box (.tmp 0)) none [],.mk (some 4) (.mv (.const (.bool false))) none []]
def l25r1 : List AOper :=
  [.mk (some 7) (.load true 3 (.tmp 2)) none [],.mk (some 8) (.call 24 [.tmp 7]) none [0],.mk (some 9) (.un .not (.tmp 8)) none [1],.mk (some 10) (.mv (.tmp 9)) none [2,1],.mk (some 11) (.mv (.tmp 1)) (some (10,false)) [3],.mk (some 12) (.call 29 [.tmp 11,.const (.int .i64 60)]) (some (10,false)) [4,3,3],.mk (some 13) (.un .not (.tmp 12)) (some (10,false)) [5,3],.mk (some 14) (.pick (.tmp 10) (.const (.bool true)) (.tmp 13)) none [3,6]]
def l25r2 : List AOper :=
  [.mk (some 4) (.mv (.const (.bool false))) none []]
def l25r3 : List AOper :=
  [.mk (some 16) (.load true 3 (.tmp 2)) none [],.mk (some 17) (.call 32 [.tmp 16]) none [0],.mk (some 15) (.mv (.tmp 17)) none [1],.mk (some 18) (.extract (.tmp 15) 0) none [2],.mk (some 19) (.extract (.tmp 15) 1) none [2],.mk (some 5) (.mv (.tmp 18)) none [3,1,0,1,2,3],.mk (some 6) (.mv (.tmp 19)) none [4,5,0,1,2,3,4,5]]
def l25r4 : List AOper :=
  [.mk (some 20) (.mv (.tmp 6)) none [],.mk (some 21) (.mv (.tmp 1)) none [],.mk (some 22) (.bin .lss (.tmp 20) (.tmp 21)) none [0,1],.mk (some 4) (.mv (.tmp 22)) none [2,0,1,2]]
def l25 : AFn :=
  (AFn.mk 23 2 (.seq (.reg l25r0) (.seq (.seq (.reg l25r1) (.cond (.tmp 14) (.seq (.reg l25r2) .ret) .skip)) (.seq (.reg l25r3) (.seq (.reg l25r4) .ret)))) [.tmp 4])
theorem l25_eq : lowFn Tryd.prog 25 = some l25 := by kernel_rfl
def l27r0 : List AOper :=
  [.mk (some 6) (.mv (.const (.bool false))) none []]
def l27r1 : List AOper :=
  [.mk (some 14) (.mv (.tmp 2)) none [],.mk (some 15) (.mv (.tmp 14)) none [0],.mk (some 16) (.mv (.tmp 0)) (some (15,true)) [1],.mk (some 17) (.mv (.tmp 1)) (some (15,true)) [1],.mk (some 18) (.bin .eql (.tmp 16) (.tmp 17)) (some (15,true)) [2,3,1],.mk (some 19) (.pick (.tmp 15) (.tmp 18) (.const (.bool false))) none [1,4]]
def l27r2 : List AOper :=
  [.mk (some 6) (.mv (.const (.bool true))) none []]
def l27r3 : List AOper :=
  [.mk (some 21) (.mv (.tmp 0)) none [],.mk (some 22) (.raw (Op.typeAssert (.tmp 21) 48 75 true)) none [0],.mk (some 20) (.mv (.tmp 22)) none [1],.mk (some 23) (.extract (.tmp 20) 0) none [2],.mk (some 24) (.extract (.tmp 20) 1) none [2],.mk (some 7) (.mv (.tmp 23)) none [3,0,1,2,3],.mk (some 8) (.mv (.tmp 24)) none [4,5,0,1,2,3,4,5]]
def l27r4 : List AOper :=
  [.mk (some 25) (.mv (.tmp 8)) none [],.mk (some 26) (.mv (.tmp 25)) none [0],.mk (some 27) (.mv (.tmp 7)) (some (26,true)) [1],.mk (some 28) (.mv (.tmp 1)) (some (26,true)) [1],.mk (some 29) (.raw (Op.call (Call.mk (Callee.invoke (.tmp 27) "Is") (Array.mk [.tmp 28]) (Array.mk [48])))) (some (26,true)) [2,3,1,1],.mk (some 30) (.pick (.tmp 26) (.tmp 29) (.const (.bool false))) none [1,4]]
def l27r5 : List AOper :=
  [.mk (some 6) (.mv (.const (.bool true))) none []]
def l27r6 : List AOper :=
  [.mk (some 31) (.mv (.tmp 0)) none []]
def l27r7 : List AOper :=
  [.mk (some 32) (.raw (Op.typeAssert (.tmp 31) 48 78 true)) none [],.mk (some 33) (.extract (.tmp 32) 1) none [0],.mk (some 34) (.extract (.tmp 32) 0) none [0]]
def l27r8 : List AOper :=
  [.mk (some 9) (.mv (.tmp 34)) none []]
def l27r9 : List AOper :=
  [.mk (some 35) (.mv (.tmp 9)) none [],.mk (some 36) (.raw (Op.call (Call.mk (Callee.invoke (.tmp 35) "Unwrap") (Array.mk []) (Array.mk [])))) none [0],.mk (some 0) (.mv (.tmp 36)) none [1,1,0,1]]
def l27r10 : List AOper :=
  [.mk (some 37) (.mv (.tmp 0)) none [],.mk (some 38) (.bin .eql (.tmp 37) (.const .nilIface)) none [0]]
def l27r11 : List AOper :=
  [.mk (some 6) (.mv (.const (.bool false))) none []]
def l27r12 : List AOper :=
  [.mk (some 39) (.raw (Op.typeAssert (.tmp 31) 48 79 true)) none [],.mk (some 40) (.extract (.tmp 39) 1) none [0],.mk (some 41) (.extract (.tmp 39) 0) none [0]]
def l27r13 : List AOper :=
  [.mk (some 10) (.mv (.tmp 41)) none []]
def l27r14 : List AOper :=
  [.mk (some 42) (.mv (.tmp 10)) none [],.mk (some 43) (.raw (Op.call (Call.mk (Callee.invoke (.tmp 42) "Unwrap") (Array.mk []) (Array.mk [])))) none [0],.mk (some 44) (.len (.tmp 43)) none [1],.mk (some 45) (.mv (.const (.int .i64 0))) none []]
def l27r15 : List AOper :=
  [.mk (some 46) (.bin .lss (.tmp 45) (.tmp 44)) none []]
def l27r16 : List AOper :=
  [.mk (some 47) (.idxA 1 (.tmp 43) (.tmp 45)) none [],.mk (some 48) (.load false 1 (.tmp 47)) none [0],.mk (some 12) (.mv (.tmp 48)) none [1,0,1]]
def l27r17 : List AOper :=
  [.mk (some 49) (.mv (.tmp 12)) none [],.mk (some 50) (.mv (.tmp 1)) none [],.mk (some 51) (.mv (.tmp 2)) none [],.mk (some 52) (.call 27 [.tmp 49,.tmp 50,.tmp 51]) none [0,1,2]]
def l27r18 : List AOper :=
  [.mk (some 6) (.mv (.const (.bool true))) none []]
def l27r19 : List AOper :=
  [.mk (some 53) (.bin .add (.tmp 45) (.const (.int .i64 1))) none [],.mk (some 45) (.mv (.tmp 53)) none [0]]
def l27r20 : List AOper :=
  [.mk (some 6) (.mv (.const (.bool false))) none []]
def l27r21 : List AOper :=
  [.mk (some 13) (.mv (.tmp 31)) none []]
def l27r22 : List AOper :=
  [.mk (some 6) (.mv (.const (.bool false))) none []]
def l27 : AFn :=
  (AFn.mk 54 3 (.seq (.reg l27r0) (.block 0 (.loop (.block 1 (.seq (.seq (.reg l27r1) (.cond (.tmp 19) (.seq (.reg l27r2) .ret) .skip)) (.seq (.seq (.reg l27r3) (.seq (.reg l27r4) (.cond (.tmp 30) (.seq (.reg l27r5) .ret) .skip))) (.seq (.reg l27r6) (.block 2 (.seq (.reg l27r7) (.cond (.tmp 33) (.seq (.reg l27r8) (.seq (.reg l27r9) (.seq (.reg l27r10) (.cond (.tmp 38) (.seq (.reg l27r11) .ret) .skip)))) (.seq (.reg l27r12) (.cond (.tmp 40) (.seq (.reg l27r13) (.seq (.seq (.reg l27r14) (.block 3 (.loop (.seq (.reg l27r15) (.seq (.cond (.tmp 46) .skip (.exit 3)) (.seq (.block 4 (.seq (.reg l27r16) (.seq (.reg l27r17) (.cond (.tmp 52) (.seq (.reg l27r18) .ret) .skip)))) (.reg l27r19))))))) (.seq (.reg l27r20) .ret))) (.seq (.reg l27r21) (.seq (.reg l27r22) .ret)))))))))))))) [.tmp 6])
theorem l27_eq : lowFn Tryd.prog 27 = some l27 := by kernel_rfl
def l28r0 : List AOper :=
  [.mk (some 6) (.mv (.const (.pointer none))) none []]
def l28r1 : List AOper :=
  [.mk (some 7) (.mv (.tmp 2)) none []]
def l28r2 : List AOper :=
  [.mk (some 8) (.mv (.tmp 0)) none [],.mk (some 9) (.mv (.tmp 0)) none [],.mk (some 10) (.nilck (.tmp 9)) none [1],.mk (some 11) (.fld 0 (.tmp 10)) none [2],.mk (some 12) (.load false 1 (.tmp 11)) none [3],.mk (some 13) (.mv (.tmp 1)) none [],.mk (some 14) (.bslice 1 [.int .i64 0] [(0,.tmp 13)] 1) none [5],.mk (some 15) (.append 1 (.tmp 12) (.tmp 14)) none [4,6],.mk (some 16) (.nilck (.tmp 8)) none [0,0,1,2,3,4,5,6,7],.mk (some 17) (.fld 0 (.tmp 16)) none [8,0,1,2,3,4,5,6,7],.mk none (.store 1 (.tmp 17) (.tmp 15)) none [9,7,7,0,1,2,3,4,5,6,7]]
def l28r3 : List AOper :=
  [.mk (some 18) (.build [.slice none 0 0] []) none [],.mk (some 19) (.box (.tmp 18)) none [0],.mk (some 6) (.mv (.tmp 19)) none [1,0,1]]
def l28 : AFn :=
  (AFn.mk 20 3 (.seq (.reg l28r0) (.seq (.seq (.reg l28r1) (.cond (.tmp 7) (.reg l28r2) .skip)) (.seq (.reg l28r3) .ret))) [.tmp 6])
theorem l28_eq : lowFn Tryd.prog 28 = some l28 := by kernel_rfl
def l29r0 : List AOper :=
  [.mk (some 4) (.mv (.const (.bool false))) none []]
def l29r1 : List AOper :=
  [.mk (some 5) (.mv (.tmp 0)) none [],.mk (some 6) (.bin .leq (.const (.int .i64 0)) (.tmp 5)) none [0],.mk (some 7) (.mv (.tmp 6)) none [1],.mk (some 8) (.mv (.tmp 0)) (some (7,true)) [2],.mk (some 9) (.mv (.tmp 1)) (some (7,true)) [2],.mk (some 10) (.bin .leq (.tmp 8) (.tmp 9)) (some (7,true)) [3,4,2],.mk (some 11) (.pick (.tmp 7) (.tmp 10) (.const (.bool false))) none [2,5],.mk (some 4) (.mv (.tmp 11)) none [6,2,0,1,2,3,4,5,6]]
def l29 : AFn :=
  (AFn.mk 12 2 (.seq (.reg l29r0) (.seq (.reg l29r1) .ret)) [.tmp 4])
theorem l29_eq : lowFn Tryd.prog 29 = some l29 := by kernel_rfl
def l30r0 : List AOper :=
  [.mk (some 2) (.mv (.const (.bool false))) none []]
def l30r1 : List AOper :=
  [.mk (some 5) (.mv (.tmp 0)) none [],.mk (some 6) (.len (.tmp 5)) none [0],.mk (some 7) (.bin .gtr (.tmp 6) (.const (.int .i64 4))) none [1]]
def l30r2 : List AOper :=
  [.mk (some 2) (.mv (.const (.bool false))) none []]
def l30r3 : List AOper :=
  [.mk (some 8) (.mv (.tmp 0)) none [],.mk (some 9) (.len (.tmp 8)) none [0],.mk (some 10) (.mv (.const (.int .i64 0))) none []]
def l30r4 : List AOper :=
  [.mk (some 11) (.bin .lss (.tmp 10) (.tmp 9)) none []]
def l30r5 : List AOper :=
  [.mk (some 12) (.idxA 1 (.tmp 8) (.tmp 10)) none [],.mk (some 13) (.load false 1 (.tmp 12)) none [0],.mk (some 4) (.mv (.tmp 13)) none [1,0,1]]
def l30r6 : List AOper :=
  [.mk (some 14) (.mv (.tmp 4)) none [],.mk (some 15) (.call 29 [.tmp 14,.const (.int .i64 60)]) none [0],.mk (some 16) (.un .not (.tmp 15)) none [1]]
def l30r7 : List AOper :=
  [.mk (some 2) (.mv (.const (.bool false))) none []]
def l30r8 : List AOper :=
  [.mk (some 17) (.bin .add (.tmp 10) (.const (.int .i64 1))) none [],.mk (some 10) (.mv (.tmp 17)) none [0]]
def l30r9 : List AOper :=
  [.mk (some 18) (.mv (.tmp 0)) none [],.mk (some 19) (.call 34 [.tmp 18]) none [0],.mk (some 20) (.bin .leq (.tmp 19) (.const (.int .i64 60))) none [1],.mk (some 2) (.mv (.tmp 20)) none [2,1,0,1,2]]
def l30 : AFn :=
  (AFn.mk 21 1 (.seq (.reg l30r0) (.seq (.seq (.reg l30r1) (.cond (.tmp 7) (.seq (.reg l30r2) .ret) .skip)) (.seq (.seq (.reg l30r3) (.block 0 (.loop (.seq (.reg l30r4) (.seq (.cond (.tmp 11) .skip (.exit 0)) (.seq (.block 1 (.seq (.reg l30r5) (.seq (.reg l30r6) (.cond (.tmp 16) (.seq (.reg l30r7) .ret) .skip)))) (.reg l30r8))))))) (.seq (.reg l30r9) .ret)))) [.tmp 2])
theorem l30_eq : lowFn Tryd.prog 30 = some l30 := by kernel_rfl
def l31r0 : List AOper :=
  [.mk (some 4) (.mv (.const (.bool false))) none []]
def l31r1 : List AOper :=
  [.mk (some 7) (.mv (.tmp 0)) none [],.mk (some 8) (.len (.tmp 7)) none [0],.mk (some 9) (.mv (.tmp 1)) none [],.mk (some 10) (.bin .neq (.tmp 8) (.tmp 9)) none [1,2]]
def l31r2 : List AOper :=
  [.mk (some 4) (.mv (.const (.bool false))) none []]
def l31r3 : List AOper :=
  [.mk (some 11) (.mv (.tmp 0)) none [],.mk (some 12) (.len (.tmp 11)) none [0],.mk (some 13) (.mv (.const (.int .i64 0))) none []]
def l31r4 : List AOper :=
  [.mk (some 14) (.bin .lss (.tmp 13) (.tmp 12)) none []]
def l31r5 : List AOper :=
  [.mk (some 15) (.idxA 1 (.tmp 11) (.tmp 13)) none [],.mk (some 16) (.load false 1 (.tmp 15)) none [0],.mk (some 6) (.mv (.tmp 16)) none [1,0,1]]
def l31r6 : List AOper :=
  [.mk (some 17) (.mv (.tmp 6)) none [],.mk (some 18) (.call 35 [.tmp 17,.const (.int .i64 60)]) none [0],.mk (some 19) (.un .not (.tmp 18)) none [1]]
def l31r7 : List AOper :=
  [.mk (some 4) (.mv (.const (.bool false))) none []]
def l31r8 : List AOper :=
  [.mk (some 20) (.bin .add (.tmp 13) (.const (.int .i64 1))) none [],.mk (some 13) (.mv (.tmp 20)) none [0]]
def l31r9 : List AOper :=
  [.mk (some 4) (.mv (.const (.bool true))) none []]
def l31 : AFn :=
  (AFn.mk 21 2 (.seq (.reg l31r0) (.seq (.seq (.reg l31r1) (.cond (.tmp 10) (.seq (.reg l31r2) .ret) .skip)) (.seq (.seq (.reg l31r3) (.block 0 (.loop (.seq (.reg l31r4) (.seq (.cond (.tmp 14) .skip (.exit 0)) (.seq (.block 1 (.seq (.reg l31r5) (.seq (.reg l31r6) (.cond (.tmp 19) (.seq (.reg l31r7) .ret) .skip)))) (.reg l31r8))))))) (.seq (.reg l31r9) .ret)))) [.tmp 4])
theorem l31_eq : lowFn Tryd.prog 31 = some l31 := by kernel_rfl
def l32r0 : List AOper :=
  [.mk (some 1) (.box (.tmp 0)) none [],.mk (some 2) (.mv (.const (.int .i64 0))) none [],.mk (some 3) (.mv (.const (.int .i64 0))) none [1]]
def l32r1 : List AOper :=
  [.mk (some 9) (.load true 3 (.tmp 1)) none [],.mk (some 10) (.call 33 [.tmp 9]) none [0],.mk (some 11) (.bin .eql (.tmp 10) (.const (.int .i64 0))) none [1]]
def l32r2 : List AOper :=
  [.mk (some 2) (.mv (.const (.int .i64 (-1)))) none [],.mk (some 3) (.mv (.const (.int .i64 (-1)))) none [0,0]]
def l32r3a : List AOper :=
  [.mk (some 12) (.fld 0 (.tmp 1)) none [],.mk (some 13) (.load false 1 (.tmp 12)) none [0],.mk (some 14) (.fld 0 (.tmp 1)) none [],.mk (some 15) (.load false 1 (.tmp 14)) none [2],.mk (some 4) (.mv (.tmp 13)) none [1,0,1]]
def l32r3b : List AOper :=
  [.mk (some 5) (.mv (.tmp 15)) none [3,4,0,1,2,3,4]]
def l32r3 : List AOper := l32r3a ++ l32r3b
def l32r4 : List AOper :=
  [.mk (some 16) (.fld 2 (.tmp 1)) none [],.mk (some 17) (.load false 1 (.tmp 16)) none [0],.mk (some 18) (.len (.tmp 17)) none [1],.mk (some 19) (.mv (.const (.int .i64 0))) none []]
def l32r5 : List AOper :=
  [.mk (some 20) (.bin .lss (.tmp 19) (.tmp 18)) none []]
def l32r6 : List AOper :=
  [.mk (some 21) (.mv (.tmp 19)) none [],.mk (some 22) (.idxA 1 (.tmp 17) (.tmp 19)) none [],.mk (some 23) (.load false 1 (.tmp 22)) none [1],.mk (some 6) (.mv (.tmp 21)) none [0,0,1,2],.mk (some 7) (.mv (.tmp 23)) none [2,3,0,1,2,3]]
def l32r7 : List AOper :=
  [.mk (some 24) (.fld 1 (.tmp 1)) none [],.mk (some 25) (.load false 1 (.tmp 24)) none [0],.mk (some 26) (.mv (.tmp 6)) none [],.mk (some 27) (.idxA 1 (.tmp 25) (.tmp 26)) none [1,2],.mk (some 28) (.load false 1 (.tmp 27)) none [3],.mk (some 29) (.bin .sub (.tmp 28) (.const (.int .i64 1))) none [4],.mk (some 30) (.mv (.tmp 7)) none [],.mk (some 31) (.bin .mul (.tmp 29) (.tmp 30)) none [5,6],.mk (some 8) (.mv (.tmp 31)) none [7,0,1,2,3,4,5,6,7]]
def l32r8 : List AOper :=
  [.mk (some 32) (.mv (.tmp 4)) none [],.mk (some 33) (.mv (.tmp 8)) none [],.mk (some 34) (.minmax false (.tmp 33) (.const (.int .i64 0))) none [1],.mk (some 35) (.bin .add (.tmp 32) (.tmp 34)) none [0,2],.mk (some 4) (.mv (.tmp 35)) none [3,0,1,2,3]]
def l32r9 : List AOper :=
  [.mk (some 36) (.mv (.tmp 5)) none [],.mk (some 37) (.mv (.tmp 8)) none [],.mk (some 38) (.minmax true (.tmp 37) (.const (.int .i64 0))) none [1],.mk (some 39) (.bin .add (.tmp 36) (.tmp 38)) none [0,2],.mk (some 5) (.mv (.tmp 39)) none [3,0,1,2,3]]
def l32r10 : List AOper :=
  [.mk (some 40) (.bin .add (.tmp 19) (.const (.int .i64 1))) none [],.mk (some 19) (.mv (.tmp 40)) none [0]]
def l32r11 : List AOper :=
  [.mk (some 41) (.mv (.tmp 4)) none [],.mk (some 42) (.mv (.tmp 5)) none [],.mk (some 2) (.mv (.tmp 41)) none [0,0],.mk (some 3) (.mv (.tmp 42)) none [1,2,0,1,2]]
def l32 : AFn :=
  (AFn.mk 43 1 (.seq (.reg l32r0) (.seq (.seq (.reg l32r1) (.cond (.tmp 11) (.seq (.reg l32r2) .ret) .skip)) (.seq (.draw l32r3) (.seq (.seq (.reg l32r4) (.block 0 (.loop (.seq (.reg l32r5) (.seq (.cond (.tmp 20) .skip (.exit 0)) (.seq (.block 1 (.seq (.reg l32r6) (.seq (.reg l32r7) (.seq (.reg l32r8) (.reg l32r9))))) (.reg l32r10))))))) (.seq (.reg l32r11) .ret))))) [.tmp 2,.tmp 3])
theorem l32_eq : lowFn Tryd.prog 32 = some l32 := by kernel_rfl
def l33r0 : List AOper :=
  [.mk (some 1) (.box (.tmp 0)) none [],.mk (some 2) (.mv (.const (.int .i64 0))) none []]
def l33r1 : List AOper :=
  [.mk (some 3) (.fld 1 (.tmp 1)) none [],.mk (some 4) (.load false 1 (.tmp 3)) none [0],.mk (some 5) (.call 34 [.tmp 4]) none [1],.mk (some 2) (.mv (.tmp 5)) none [2,2,0,1,2]]
def l33 : AFn :=
  (AFn.mk 6 1 (.seq (.reg l33r0) (.seq (.reg l33r1) .ret)) [.tmp 2])
theorem l33_eq : lowFn Tryd.prog 33 = some l33 := by kernel_rfl
def l34r0 : List AOper :=
  [.mk (some 2) (.mv (.const (.int .i64 0))) none []]
def l34r1 : List AOper :=
  [.mk (some 3) (.mv (.const (.int .i64 1))) none []]
def l34r2 : List AOper :=
  [.mk (some 6) (.mv (.tmp 0)) none [],.mk (some 7) (.len (.tmp 6)) none [0],.mk (some 8) (.mv (.const (.int .i64 0))) none []]
def l34r3 : List AOper :=
  [.mk (some 9) (.bin .lss (.tmp 8) (.tmp 7)) none []]
def l34r4 : List AOper :=
  [.mk (some 10) (.idxA 1 (.tmp 6) (.tmp 8)) none [],.mk (some 11) (.load false 1 (.tmp 10)) none [0],.mk (some 5) (.mv (.tmp 11)) none [1,0,1]]
def l34r5 : List AOper :=
  [.mk (some 12) (.mv (.tmp 3)) none [],.mk (some 13) (.mv (.tmp 5)) none [],.mk (some 14) (.bin .mul (.tmp 12) (.tmp 13)) none [0,1],.mk (some 3) (.mv (.tmp 14)) none [2,0,1,2]]
def l34r6 : List AOper :=
  [.mk (some 15) (.bin .add (.tmp 8) (.const (.int .i64 1))) none [],.mk (some 8) (.mv (.tmp 15)) none [0]]
def l34r7 : List AOper :=
  [.mk (some 16) (.mv (.tmp 3)) none [],.mk (some 2) (.mv (.tmp 16)) none [0,0]]
def l34 : AFn :=
  (AFn.mk 17 1 (.seq (.reg l34r0) (.seq (.reg l34r1) (.seq (.seq (.reg l34r2) (.block 0 (.loop (.seq (.reg l34r3) (.seq (.cond (.tmp 9) .skip (.exit 0)) (.seq (.block 1 (.seq (.reg l34r4) (.reg l34r5))) (.reg l34r6))))))) (.seq (.reg l34r7) .ret)))) [.tmp 2])
theorem l34_eq : lowFn Tryd.prog 34 = some l34 := by kernel_rfl
def l35r0 : List AOper :=
  [.mk (some 4) (.mv (.const (.bool false))) none []]
def l35r1 : List AOper :=
  [.mk (some 5) (.mv (.tmp 1)) none [],.mk (some 6) (.un .neg (.tmp 5)) none [0],.mk (some 7) (.mv (.tmp 0)) none [],.mk (some 8) (.bin .leq (.tmp 6) (.tmp 7)) none [1,2],.mk (some 9) (.mv (.tmp 8)) none [3],.mk (some 10) (.mv (.tmp 0)) (some (9,true)) [4],.mk (some 11) (.mv (.tmp 1)) (some (9,true)) [4],.mk (some 12) (.bin .leq (.tmp 10) (.tmp 11)) (some (9,true)) [5,6,4],.mk (some 13) (.pick (.tmp 9) (.tmp 12) (.const (.bool false))) none [4,7],.mk (some 4) (.mv (.tmp 13)) none [8,4,0,1,2,3,4,5,6,7,8]]
def l35 : AFn :=
  (AFn.mk 14 2 (.seq (.reg l35r0) (.seq (.reg l35r1) .ret)) [.tmp 4])
theorem l35_eq : lowFn Tryd.prog 35 = some l35 := by kernel_rfl
end Go.Proofs.YtmdocjjciedohaaDoor
