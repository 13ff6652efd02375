import Derived.Test.YtccfnaloccfcpaaDoorCW3
import Derived.Test.YtccfnaloccfcpaaDoorProg
import Derived.KernelRfl
set_option maxRecDepth 100000
namespace Go.Proofs.YtccfnaloccfcpaaDoor
open Vw Go
instance globs : Inhabited GlobT := ⟨⟨[(0,[.string (ByteArray.mk (Array.mk [115,105,122,101])),.int .i64 1,.string (ByteArray.mk (Array.mk [118,105,101,119])),.int .i64 3,.string (ByteArray.mk (Array.mk [112,97,114,116])),.int .i64 4,.string (ByteArray.mk (Array.mk [102,108,105,112])),.int .i64 1,.string (ByteArray.mk (Array.mk [102,105,108,108])),.int .i64 2,.string (ByteArray.mk (Array.mk [99,111,112,121])),.int .i64 2,.string (ByteArray.mk (Array.mk [108,111,97,100])),.int .i64 1,.string (ByteArray.mk (Array.mk [102,114,101,101])),.int .i64 1])]⟩⟩
attribute [push_cast] Bool.false_eq_true List.length_replicate
attribute [bitvec_to_nat] decide_eq_true_eq decide_eq_false_iff_not Bool.not_eq_true' Bool.not_eq_false' Bool.and_eq_true Bool.or_eq_true Bool.and_eq_false_iff Bool.or_eq_false_iff Int.not_le Int.not_lt bne_iff_ne ne_eq beq_iff_eq Bool.not_eq_true Bool.not_eq_false
theorem sd {P : Prop} (h : P := by first | assumption | rfl | omega | (simp <;> omega) | (simp_all <;> omega)) : P := h
def l3r0 : List AOper :=
  [.mk (some 1) (.box (.tmp 0)) none [],.mk (some 2) (.mv (.const (.bool false))) none []]
def l3r1 : List AOper :=
  [.mk (some 3) (.mv (.const (.int .i64 1048576))) none []]
def l3r2 : List AOper :=
  [.mk (some 7) (.load true 2 (.tmp 1)) none [],.mk (some 8) (.mv (.tmp 3)) none [],.mk (some 9) (.call 5 [.tmp 7,.tmp 8]) none [0,1],.mk (some 3) (.mv (.tmp 9)) none [2,2,0,1,2]]
def l3r3 : List AOper :=
  [.mk (some 10) (.mv (.tmp 3)) none [],.mk (some 11) (.bin .lss (.tmp 10) (.const (.int .i64 0))) none [0]]
def l3r4 : List AOper :=
  [.mk (some 2) (.mv (.const (.bool true))) none []]
def l3r5 : List AOper :=
  [.mk (some 12) (.load true 2 (.tmp 1)) none [],.mk (some 13) (.call 7 [.tmp 12]) none [0],.mk (some 14) (.call 6 [.tmp 13]) none [1,1],.mk (some 4) (.mv (.tmp 14)) none [2,2,0,1,2]]
def l3r6 : List AOper :=
  [.mk (some 15) (.load true 2 (.tmp 1)) none [],.mk (some 16) (.call 7 [.tmp 15]) none [0],.mk (some 5) (.alloc [.int .i64 0,.slice none 0 0]) none [],.mk none (.store 2 (.tmp 5) (.tmp 16)) none [2,1,1,0,1,2]]
def l3r7 : List AOper :=
  [.mk (some 17) (.load true 2 (.tmp 5)) none [],.mk (some 18) (.call 8 [.tmp 17]) none [0],.mk (some 6) (.mv (.tmp 18)) none [1,1,0,1]]
def l3r8 : List AOper :=
  [.mk (some 19) (.mv (.tmp 6)) none [],.mk (some 20) (.mv (.tmp 4)) none [],.mk (some 21) (.binB .neq (.tmp 19) (.tmp 20)) none [0,1]]
def l3r9 : List AOper :=
  [.mk (some 2) (.mv (.const (.bool false))) none []]
def l3r10a : List AOper :=
  [.mk (some 22) (.load true 2 (.tmp 5)) none [],.mk (some 23) (.load true 2 (.tmp 1)) none [],.mk (some 24) (.call 7 [.tmp 23]) none [1]]
def l3r10b : List AOper :=
  [.mk (some 25) (.call 9 [.tmp 22,.tmp 24]) none [0,2,2],.mk (some 26) (.un .not (.tmp 25)) none [3]]
def l3r10 : List AOper := l3r10a ++ l3r10b
def l3r11 : List AOper :=
  [.mk (some 2) (.mv (.const (.bool false))) none []]
def l3r12 : List AOper :=
  [.mk (some 2) (.mv (.const (.bool true))) none []]
def l3 : AFn :=
  (AFn.mk 27 1 (.seq (.reg l3r0) (.seq (.reg l3r1) (.seq (.reg l3r2) (.seq (.seq (.reg l3r3) (.cond (.tmp 11) (.seq (.reg l3r4) .ret) .skip)) (.seq (.reg l3r5) (.seq (.reg l3r6) (.seq (.reg l3r7) (.seq (.seq (.reg l3r8) (.cond (.tmp 21) (.seq (.reg l3r9) .ret) .skip)) (.seq (.seq (.draw l3r10) (.cond (.tmp 26) (.seq (.reg l3r11) .ret) .skip)) (.seq (.reg l3r12) .ret)))))))))) [.tmp 2])
theorem l3_eq : lowFn Tryd.prog 3 = some l3 := by kernel_rfl
def l5r0 : List AOper :=
  [.mk (some 2) (.box (.tmp 0)) none [],.mk (some 4) (.mv (.const (.int .i64 0))) none []]
def l5r1 : List AOper :=
  [.mk (some 5) (.fld 1 (.tmp 2)) none [],.mk (some 6) (.load false 1 (.tmp 5)) none [0],.mk (some 7) (.mv (.tmp 1)) none [],.mk (some 8) (.call 11 [.tmp 6,.tmp 7]) none [1,2],.mk (some 1) (.mv (.tmp 8)) none [3,3,0,1,2,3]]
def l5r2 : List AOper :=
  [.mk (some 9) (.mv (.tmp 1)) none [],.mk (some 10) (.bin .lss (.tmp 9) (.const (.int .i64 0))) none [0]]
def l5r3 : List AOper :=
  [.mk (some 4) (.mv (.const (.int .i64 (-1)))) none []]
def l5r4 : List AOper :=
  [.mk (some 11) (.mv (.tmp 1)) none [],.mk (some 4) (.mv (.tmp 11)) none [0,0]]
def l5 : AFn :=
  (AFn.mk 12 2 (.seq (.reg l5r0) (.seq (.reg l5r1) (.seq (.seq (.reg l5r2) (.cond (.tmp 10) (.seq (.reg l5r3) .ret) .skip)) (.seq (.reg l5r4) .ret)))) [.tmp 4])
theorem l5_eq : lowFn Tryd.prog 5 = some l5 := by kernel_rfl
def l6r0 : List AOper :=
  [.mk (some 1) (.box (.tmp 0)) none [],.mk (some 2) (.mv (.const (.bool false))) none []]
def l6r1 : List AOper :=
  [.mk (some 3) (.load true 2 (.tmp 1)) none [],.mk (some 4) (.call 12 [.tmp 3]) none [0],.mk (some 2) (.mv (.tmp 4)) none [1,1,0,1]]
def l6 : AFn :=
  (AFn.mk 5 1 (.seq (.reg l6r0) (.seq (.reg l6r1) .ret)) [.tmp 2])
theorem l6_eq : lowFn Tryd.prog 6 = some l6 := by kernel_rfl
def l7r0 : List AOper :=
  [.mk (some 1) (.box (.tmp 0)) none [],.mk (some 2) (.alloc [.int .i64 0,.slice none 0 0]) none []]
def l7r1 : List AOper :=
  [.mk (some 3) (.alloc [.int .i64 0,.slice none 0 0]) none []]
def l7r2 : List AOper :=
  [.mk (some 4) (.fld 0 (.tmp 1)) none [],.mk (some 5) (.load false 1 (.tmp 4)) none [0],.mk (some 6) (.fld 0 (.tmp 3)) none [0,1],.mk none (.store 1 (.tmp 6) (.tmp 5)) none [2,1,0,1]]
def l7r3 : List AOper :=
  [.mk (some 7) (.fld 1 (.tmp 1)) none [],.mk (some 8) (.load false 1 (.tmp 7)) none [0],.mk (some 9) (.call 13 [.tmp 8]) none [1],.mk (some 10) (.fld 1 (.tmp 3)) none [0,1,2],.mk none (.store 1 (.tmp 10) (.tmp 9)) none [3,2,2,0,1,2]]
def l7r4 : List AOper :=
  [.mk (some 11) (.load true 2 (.tmp 3)) none [],.mk none (.store 2 (.tmp 2) (.tmp 11)) none [0,0]]
def l7 : AFn :=
  (AFn.mk 12 1 (.seq (.reg l7r0) (.seq (.reg l7r1) (.seq (.reg l7r2) (.seq (.reg l7r3) (.seq (.reg l7r4) .ret))))) [.cell 2 true 2])
theorem l7_eq : lowFn Tryd.prog 7 = some l7 := by kernel_rfl
def l8r0 : List AOper :=
  [.mk (some 1) (.box (.tmp 0)) none [],.mk (some 2) (.mv (.const (.bool false))) none []]
def l8r1a : List AOper :=
  [.mk (some 5) (.fld 0 (.tmp 1)) none [],.mk (some 6) (.load false 1 (.tmp 5)) none [0],.mk (some 7) (.call 14 [.tmp 6,.const (.int .i64 7)]) none [1],.mk (some 8) (.un .not (.tmp 7)) none [2],.mk (some 9) (.mv (.tmp 8)) none [3,2],.mk (some 10) (.fld 1 (.tmp 1)) (some (9,false)) [4],.mk (some 11) (.load false 1 (.tmp 10)) (some (9,false)) [5,4],.mk (some 12) (.len (.tmp 11)) (some (9,false)) [6,4],.mk (some 13) (.fld 0 (.tmp 1)) (some (9,false)) [4],.mk (some 14) (.load false 1 (.tmp 13)) (some (9,false)) [8,4],.mk (some 15) (.idxP 2 8 (.global 0) (.tmp 14)) (some (9,false)) [9,4],.mk (some 16) (.fld 1 (.tmp 15)) (some (9,false)) [10,4],.mk (some 17) (.load false 1 (.tmp 16)) (some (9,false)) [11,4]]
def l8r1b : List AOper :=
  [.mk (some 18) (.bin .neq (.tmp 12) (.tmp 17)) (some (9,false)) [7,12,4],.mk (some 19) (.pick (.tmp 9) (.const (.bool true)) (.tmp 18)) none [4,13]]
def l8r1 : List AOper := l8r1a ++ l8r1b
def l8r2 : List AOper :=
  [.mk (some 2) (.mv (.const (.bool false))) none []]
def l8r3 : List AOper :=
  [.mk (some 20) (.fld 1 (.tmp 1)) none [],.mk (some 21) (.load false 1 (.tmp 20)) none [0],.mk (some 22) (.len (.tmp 21)) none [1],.mk (some 23) (.mv (.const (.int .i64 0))) none []]
def l8r4 : List AOper :=
  [.mk (some 24) (.bin .lss (.tmp 23) (.tmp 22)) none []]
def l8r5 : List AOper :=
  [.mk (some 25) (.idxA 1 (.tmp 21) (.tmp 23)) none [],.mk (some 26) (.load false 1 (.tmp 25)) none [0],.mk (some 4) (.mv (.tmp 26)) none [1,0,1]]
def l8r6 : List AOper :=
  [.mk (some 27) (.mv (.tmp 4)) none [],.mk (some 28) (.call 15 [.tmp 27,.const (.int .i64 100)]) none [0],.mk (some 29) (.un .not (.tmp 28)) none [1]]
def l8r7 : List AOper :=
  [.mk (some 2) (.mv (.const (.bool false))) none []]
def l8r8 : List AOper :=
  [.mk (some 30) (.bin .add (.tmp 23) (.const (.int .i64 1))) none [],.mk (some 23) (.mv (.tmp 30)) none [0]]
def l8r9 : List AOper :=
  [.mk (some 2) (.mv (.const (.bool true))) none []]
def l8 : AFn :=
  (AFn.mk 31 1 (.seq (.reg l8r0) (.seq (.seq (.draw l8r1) (.cond (.tmp 19) (.seq (.reg l8r2) .ret) .skip)) (.seq (.seq (.reg l8r3) (.block 0 (.loop (.seq (.reg l8r4) (.seq (.cond (.tmp 24) .skip (.exit 0)) (.seq (.block 1 (.seq (.reg l8r5) (.seq (.reg l8r6) (.cond (.tmp 29) (.seq (.reg l8r7) .ret) .skip)))) (.reg l8r8))))))) (.seq (.reg l8r9) .ret)))) [.tmp 2])
theorem l8_eq : lowFn Tryd.prog 8 = some l8 := by kernel_rfl
def l9r0 : List AOper :=
  [.mk (some 2) (.box (.tmp 0)) none [],.mk (some 3) (.box (.tmp 1)) none [],.mk (some 4) (.mv (.const (.bool false))) none []]
def l9r1 : List AOper :=
  [.mk (some 5) (.fld 0 (.tmp 2)) none [],.mk (some 6) (.load false 1 (.tmp 5)) none [0],.mk (some 7) (.fld 0 (.tmp 3)) none [],.mk (some 8) (.load false 1 (.tmp 7)) none [2],.mk (some 9) (.bin .neq (.tmp 6) (.tmp 8)) none [1,3]]
def l9r2 : List AOper :=
  [.mk (some 4) (.mv (.const (.bool false))) none []]
def l9r3 : List AOper :=
  [.mk (some 10) (.fld 1 (.tmp 2)) none [],.mk (some 11) (.load false 1 (.tmp 10)) none [0],.mk (some 12) (.fld 1 (.tmp 3)) none [],.mk (some 13) (.load false 1 (.tmp 12)) none [2],.mk (some 14) (.call 16 [.tmp 11,.tmp 13]) none [1,3],.mk (some 15) (.un .not (.tmp 14)) none [4]]
def l9r4 : List AOper :=
  [.mk (some 4) (.mv (.const (.bool false))) none []]
def l9r5 : List AOper :=
  [.mk (some 4) (.mv (.const (.bool true))) none []]
def l9 : AFn :=
  (AFn.mk 16 2 (.seq (.reg l9r0) (.seq (.seq (.reg l9r1) (.cond (.tmp 9) (.seq (.reg l9r2) .ret) .skip)) (.seq (.seq (.reg l9r3) (.cond (.tmp 15) (.seq (.reg l9r4) .ret) .skip)) (.seq (.reg l9r5) .ret)))) [.tmp 4])
theorem l9_eq : lowFn Tryd.prog 9 = some l9 := by kernel_rfl
def l11r0 : List AOper :=
  [.mk (some 4) (.mv (.const (.int .i64 0))) none []]
def l11r1 : List AOper :=
  [.mk (some 5) (.mv (.tmp 1)) none [],.mk (some 6) (.mv (.tmp 0)) none [],.mk (some 7) (.len (.tmp 6)) none [1],.mk (some 8) (.bin .sub (.tmp 5) (.tmp 7)) none [0,2],.mk (some 1) (.mv (.tmp 8)) none [3,0,1,2,3]]
def l11r2 : List AOper :=
  [.mk (some 9) (.mv (.tmp 1)) none [],.mk (some 10) (.bin .lss (.tmp 9) (.const (.int .i64 0))) none [0]]
def l11r3 : List AOper :=
  [.mk (some 4) (.mv (.const (.int .i64 (-1)))) none []]
def l11r4 : List AOper :=
  [.mk (some 11) (.mv (.tmp 1)) none [],.mk (some 4) (.mv (.tmp 11)) none [0,0]]
def l11 : AFn :=
  (AFn.mk 12 2 (.seq (.reg l11r0) (.seq (.reg l11r1) (.seq (.seq (.reg l11r2) (.cond (.tmp 10) (.seq (.reg l11r3) .ret) .skip)) (.seq (.reg l11r4) .ret)))) [.tmp 4])
theorem l11_eq : lowFn Tryd.prog 11 = some l11 := by kernel_rfl
def l12r0 : List AOper :=
  [.mk (some 1) (.box (.tmp 0)) none [],.mk (some 2) (.mv (.const (.bool false))) none []]
def l12r1a : List AOper :=
  [.mk (some 3) (.fld 0 (.tmp 1)) none [],.mk (some 4) (.load false 1 (.tmp 3)) none [0],.mk (some 5) (.call 20 [.tmp 4,.const (.int .i64 0),.const (.int .i64 7)]) none [1],.mk (some 6) (.mv (.tmp 5)) none [2,2],.mk (some 7) (.fld 1 (.tmp 1)) (some (6,true)) [3],.mk (some 8) (.load false 1 (.tmp 7)) (some (6,true)) [4,3],.mk (some 9) (.len (.tmp 8)) (some (6,true)) [5,3],.mk (some 10) (.fld 0 (.tmp 1)) (some (6,true)) [3],.mk (some 11) (.load false 1 (.tmp 10)) (some (6,true)) [7,3],.mk (some 12) (.call 21 [.tmp 11]) (some (6,true)) [8,3,3]]
def l12r1b : List AOper :=
  [.mk (some 13) (.bin .eql (.tmp 9) (.tmp 12)) (some (6,true)) [6,9,3],.mk (some 14) (.pick (.tmp 6) (.tmp 13) (.const (.bool false))) none [3,10],.mk (some 15) (.mv (.tmp 14)) none [11,9],.mk (some 16) (.fld 1 (.tmp 1)) (some (15,true)) [12],.mk (some 17) (.load false 1 (.tmp 16)) (some (15,true)) [13,12],.mk (some 18) (.call 22 [.tmp 17,.const (.int .i64 (-100)),.const (.int .i64 100)]) (some (15,true)) [14,12,12],.mk (some 19) (.pick (.tmp 15) (.tmp 18) (.const (.bool false))) none [12,15],.mk (some 2) (.mv (.tmp 19)) none [16,15,0,1,2,3,4,5,6,7,8,9,10,11,12,13,14,15,16]]
def l12r1 : List AOper := l12r1a ++ l12r1b
def l12 : AFn :=
  (AFn.mk 20 1 (.seq (.reg l12r0) (.seq (.draw l12r1) .ret)) [.tmp 2])
theorem l12_eq : lowFn Tryd.prog 12 = some l12 := by kernel_rfl
def l13r0 : List AOper :=
  [.mk (some 2) (.mv (.const (.slice none 0 0))) none []]
def l13r1 : List AOper :=
  [.mk (some 5) (.mv (.tmp 0)) none [],.mk (some 6) (.len (.tmp 5)) none [0],.mk (some 7) (.mkslice 1 [.int .i64 0] (.tmp 6) (.tmp 6)) none [1,1],.mk (some 3) (.mv (.tmp 7)) none [2,0,1,2]]
def l13r2 : List AOper :=
  [.mk (some 4) (.mv (.const (.int .i64 0))) none []]
def l13r3 : List AOper :=
  [.mk (some 8) (.mv (.tmp 4)) none [],.mk (some 9) (.mv (.tmp 0)) none [],.mk (some 10) (.len (.tmp 9)) none [1],.mk (some 11) (.bin .lss (.tmp 8) (.tmp 10)) none [0,2]]
def l13r4 : List AOper :=
  [.mk (some 14) (.mv (.tmp 3)) none [],.mk (some 15) (.mv (.tmp 4)) none [],.mk (some 16) (.mv (.tmp 0)) none [],.mk (some 17) (.mv (.tmp 4)) none [],.mk (some 18) (.idxA 1 (.tmp 16) (.tmp 17)) none [2,3],.mk (some 19) (.load false 1 (.tmp 18)) none [4],.mk (some 20) (.idxA 1 (.tmp 14) (.tmp 15)) none [0,1,0,1,2,3,4,5],.mk none (.store 1 (.tmp 20) (.tmp 19)) none [6,5,0,1,2,3,4,5]]
def l13r5 : List AOper :=
  [.mk (some 12) (.mv (.tmp 4)) none [],.mk (some 13) (.bin .add (.tmp 12) (.const (.int .i64 1))) none [0],.mk (some 4) (.mv (.tmp 13)) none [1,0,1]]
def l13r6 : List AOper :=
  [.mk (some 21) (.mv (.tmp 3)) none [],.mk (some 2) (.mv (.tmp 21)) none [0,0]]
def l13 : AFn :=
  (AFn.mk 22 1 (.seq (.reg l13r0) (.seq (.reg l13r1) (.seq (.seq (.reg l13r2) (.block 0 (.loop (.seq (.seq (.reg l13r3) (.cond (.tmp 11) .skip (.exit 0))) (.seq (.block 1 (.reg l13r4)) (.reg l13r5)))))) (.seq (.reg l13r6) .ret)))) [.tmp 2])
theorem l13_eq : lowFn Tryd.prog 13 = some l13 := by kernel_rfl
def l14r0 : List AOper :=
  [.mk (some 4) (.mv (.const (.bool false))) none []]
def l14r1 : List AOper :=
  [.mk (some 5) (.mv (.tmp 0)) none [],.mk (some 6) (.bin .leq (.const (.int .i64 0)) (.tmp 5)) none [0],.mk (some 7) (.mv (.tmp 6)) none [1],.mk (some 8) (.mv (.tmp 0)) (some (7,true)) [2],.mk (some 9) (.mv (.tmp 1)) (some (7,true)) [2],.mk (some 10) (.bin .leq (.tmp 8) (.tmp 9)) (some (7,true)) [3,4,2],.mk (some 11) (.pick (.tmp 7) (.tmp 10) (.const (.bool false))) none [2,5],.mk (some 4) (.mv (.tmp 11)) none [6,2,0,1,2,3,4,5,6]]
def l14 : AFn :=
  (AFn.mk 12 2 (.seq (.reg l14r0) (.seq (.reg l14r1) .ret)) [.tmp 4])
theorem l14_eq : lowFn Tryd.prog 14 = some l14 := by kernel_rfl
def l15r0 : List AOper :=
  [.mk (some 4) (.mv (.const (.bool false))) none []]
def l15r1 : List AOper :=
  [.mk (some 5) (.mv (.tmp 1)) none [],.mk (some 6) (.un .neg (.tmp 5)) none [0],.mk (some 7) (.mv (.tmp 0)) none [],.mk (some 8) (.bin .leq (.tmp 6) (.tmp 7)) none [1,2],.mk (some 9) (.mv (.tmp 8)) none [3],.mk (some 10) (.mv (.tmp 0)) (some (9,true)) [4],.mk (some 11) (.mv (.tmp 1)) (some (9,true)) [4],.mk (some 12) (.bin .leq (.tmp 10) (.tmp 11)) (some (9,true)) [5,6,4],.mk (some 13) (.pick (.tmp 9) (.tmp 12) (.const (.bool false))) none [4,7],.mk (some 4) (.mv (.tmp 13)) none [8,4,0,1,2,3,4,5,6,7,8]]
def l15 : AFn :=
  (AFn.mk 14 2 (.seq (.reg l15r0) (.seq (.reg l15r1) .ret)) [.tmp 4])
theorem l15_eq : lowFn Tryd.prog 15 = some l15 := by kernel_rfl
def l16r0 : List AOper :=
  [.mk (some 4) (.mv (.const (.bool false))) none []]
def l16r1 : List AOper :=
  [.mk (some 6) (.mv (.tmp 0)) none [],.mk (some 7) (.len (.tmp 6)) none [0],.mk (some 8) (.mv (.tmp 1)) none [],.mk (some 9) (.len (.tmp 8)) none [2],.mk (some 10) (.bin .neq (.tmp 7) (.tmp 9)) none [1,3]]
def l16r2 : List AOper :=
  [.mk (some 4) (.mv (.const (.bool false))) none []]
def l16r3 : List AOper :=
  [.mk (some 5) (.mv (.const (.int .i64 0))) none []]
def l16r4 : List AOper :=
  [.mk (some 11) (.mv (.tmp 5)) none [],.mk (some 12) (.mv (.tmp 0)) none [],.mk (some 13) (.len (.tmp 12)) none [1],.mk (some 14) (.bin .lss (.tmp 11) (.tmp 13)) none [0,2]]
def l16r5a : List AOper :=
  [.mk (some 17) (.mv (.tmp 0)) none [],.mk (some 18) (.mv (.tmp 5)) none [],.mk (some 19) (.idxA 1 (.tmp 17) (.tmp 18)) none [0,1],.mk (some 20) (.load false 1 (.tmp 19)) none [2],.mk (some 21) (.mv (.tmp 1)) none [],.mk (some 22) (.mv (.tmp 5)) none [],.mk (some 23) (.idxA 1 (.tmp 21) (.tmp 22)) none [4,5],.mk (some 24) (.load false 1 (.tmp 23)) none [6]]
def l16r5b : List AOper :=
  [.mk (some 25) (.bin .neq (.tmp 20) (.tmp 24)) none [3,7]]
def l16r5 : List AOper := l16r5a ++ l16r5b
def l16r6 : List AOper :=
  [.mk (some 4) (.mv (.const (.bool false))) none []]
def l16r7 : List AOper :=
  [.mk (some 15) (.mv (.tmp 5)) none [],.mk (some 16) (.bin .add (.tmp 15) (.const (.int .i64 1))) none [0],.mk (some 5) (.mv (.tmp 16)) none [1,0,1]]
def l16r8 : List AOper :=
  [.mk (some 4) (.mv (.const (.bool true))) none []]
def l16 : AFn :=
  (AFn.mk 26 2 (.seq (.reg l16r0) (.seq (.seq (.reg l16r1) (.cond (.tmp 10) (.seq (.reg l16r2) .ret) .skip)) (.seq (.seq (.reg l16r3) (.block 0 (.loop (.seq (.seq (.reg l16r4) (.cond (.tmp 14) .skip (.exit 0))) (.seq (.block 1 (.seq (.draw l16r5) (.cond (.tmp 25) (.seq (.reg l16r6) .ret) .skip))) (.reg l16r7)))))) (.seq (.reg l16r8) .ret)))) [.tmp 4])
theorem l16_eq : lowFn Tryd.prog 16 = some l16 := by kernel_rfl
def l20r0 : List AOper :=
  [.mk (some 6) (.mv (.const (.bool false))) none []]
def l20r1 : List AOper :=
  [.mk (some 7) (.mv (.tmp 1)) none [],.mk (some 8) (.mv (.tmp 0)) none [],.mk (some 9) (.bin .leq (.tmp 7) (.tmp 8)) none [0,1],.mk (some 10) (.mv (.tmp 9)) none [2],.mk (some 11) (.mv (.tmp 0)) (some (10,true)) [3],.mk (some 12) (.mv (.tmp 2)) (some (10,true)) [3],.mk (some 13) (.bin .leq (.tmp 11) (.tmp 12)) (some (10,true)) [4,5,3],.mk (some 14) (.pick (.tmp 10) (.tmp 13) (.const (.bool false))) none [3,6],.mk (some 6) (.mv (.tmp 14)) none [7,3,0,1,2,3,4,5,6,7]]
def l20 : AFn :=
  (AFn.mk 15 3 (.seq (.reg l20r0) (.seq (.reg l20r1) .ret)) [.tmp 6])
theorem l20_eq : lowFn Tryd.prog 20 = some l20 := by kernel_rfl
def l21r0 : List AOper :=
  [.mk (some 2) (.mv (.const (.int .i64 0))) none []]
def l21r1 : List AOper :=
  [.mk (some 3) (.bslice 1 [.int .i64 0] [(0,.const (.int .i64 1)),(1,.const (.int .i64 3)),(2,.const (.int .i64 4)),(3,.const (.int .i64 1)),(4,.const (.int .i64 2)),(5,.const (.int .i64 2)),(6,.const (.int .i64 1)),(7,.const (.int .i64 1))] 8) none [],.mk (some 4) (.mv (.tmp 0)) none [],.mk (some 5) (.idxA 1 (.tmp 3) (.tmp 4)) none [0,1],.mk (some 6) (.load false 1 (.tmp 5)) none [2],.mk (some 2) (.mv (.tmp 6)) none [3,0,1,2,3]]
def l21 : AFn :=
  (AFn.mk 7 1 (.seq (.reg l21r0) (.seq (.reg l21r1) .ret)) [.tmp 2])
theorem l21_eq : lowFn Tryd.prog 21 = some l21 := by kernel_rfl
def l22r0 : List AOper :=
  [.mk (some 6) (.mv (.const (.bool false))) none []]
def l22r1 : List AOper :=
  [.mk (some 7) (.mv (.const (.int .i64 0))) none []]
def l22r2 : List AOper :=
  [.mk (some 8) (.mv (.tmp 7)) none [],.mk (some 9) (.mv (.tmp 0)) none [],.mk (some 10) (.len (.tmp 9)) none [1],.mk (some 11) (.bin .lss (.tmp 8) (.tmp 10)) none [0,2]]
def l22r3 : List AOper :=
  [.mk (some 14) (.mv (.tmp 0)) none [],.mk (some 15) (.mv (.tmp 7)) none [],.mk (some 16) (.idxA 1 (.tmp 14) (.tmp 15)) none [0,1],.mk (some 17) (.load false 1 (.tmp 16)) none [2],.mk (some 18) (.mv (.tmp 1)) none [],.mk (some 19) (.mv (.tmp 2)) none [],.mk (some 20) (.call 20 [.tmp 17,.tmp 18,.tmp 19]) none [3,4,5],.mk (some 21) (.un .not (.tmp 20)) none [6]]
def l22r4 : List AOper :=
  [.mk (some 6) (.mv (.const (.bool false))) none []]
def l22r5 : List AOper :=
  [.mk (some 12) (.mv (.tmp 7)) none [],.mk (some 13) (.bin .add (.tmp 12) (.const (.int .i64 1))) none [0],.mk (some 7) (.mv (.tmp 13)) none [1,0,1]]
def l22r6 : List AOper :=
  [.mk (some 6) (.mv (.const (.bool true))) none []]
def l22 : AFn :=
  (AFn.mk 22 3 (.seq (.reg l22r0) (.seq (.seq (.reg l22r1) (.block 0 (.loop (.seq (.seq (.reg l22r2) (.cond (.tmp 11) .skip (.exit 0))) (.seq (.block 1 (.seq (.reg l22r3) (.cond (.tmp 21) (.seq (.reg l22r4) .ret) .skip))) (.reg l22r5)))))) (.seq (.reg l22r6) .ret))) [.tmp 6])
theorem l22_eq : lowFn Tryd.prog 22 = some l22 := by kernel_rfl
end Go.Proofs.YtccfnaloccfcpaaDoor
