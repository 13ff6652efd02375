import Derived.Test.YtmdocjjciedohaaCW3
import Derived.Test.YtmdocjjciedohaaProg
import Derived.KernelRfl
set_option maxRecDepth 100000
namespace Go.Proofs.Ytmdocjjciedohaa
open Vw Go
instance globs : Inhabited GlobT := ⟨⟨[]⟩⟩
attribute [push_cast] Bool.false_eq_true List.length_replicate
attribute [bitvec_to_nat] decide_eq_true_eq decide_eq_false_iff_not Bool.not_eq_true' Bool.not_eq_false' Bool.and_eq_true Bool.or_eq_true Bool.and_eq_false_iff Bool.or_eq_false_iff Int.not_le Int.not_lt bne_iff_ne ne_eq beq_iff_eq Bool.not_eq_true Bool.not_eq_false
theorem sd {P : Prop} (h : P := by first | assumption | rfl | omega | (simp <;> omega) | (simp_all <;> omega)) : P := h
def l3r0 : List AOper :=
  [.mk (some 2) (.mv (.const (.bool false))) none []]
def l3r1 : List AOper :=
  [.mk (some 8) (.mv (.tmp 0)) none [],.mk (some 9) (.call 4 [.tmp 8]) none [0],.mk (some 3) (.alloc [.slice none 0 0,.slice none 0 0]) none [],.mk none (.store 2 (.tmp 3) (.tmp 9)) none [2,1,1,0,1,2]]
def l3r2 : List AOper :=
  [.mk (some 10) (.mv (.tmp 0)) none [],.mk (some 11) (.call 5 [.tmp 10]) none [0],.mk (some 4) (.alloc [.slice none 0 0,.slice none 0 0]) none [],.mk none (.store 2 (.tmp 4) (.tmp 11)) none [2,1,1,0,1,2]]
def l3r3 : List AOper :=
  [.mk (some 12) (.load true 2 (.tmp 4)) none [],.mk (some 13) (.load true 2 (.tmp 3)) none [],.mk (some 14) (.call 6 [.tmp 12,.tmp 13]) none [0,1],.mk (some 15) (.un .not (.tmp 14)) none [2]]
def l3r4 : List AOper :=
  [.mk (some 2) (.mv (.const (.bool false))) none []]
def l3r5 : List AOper :=
  [.mk (some 5) (.mv (.const (.int .i64 1))) none []]
def l3r6 : List AOper :=
  [.mk (some 16) (.load true 2 (.tmp 4)) none [],.mk (some 17) (.mv (.tmp 5)) none [],.mk (some 18) (.call 7 [.tmp 16,.tmp 17]) none [0,1],.mk (some 5) (.mv (.tmp 18)) none [2,2,0,1,2]]
def l3r7 : List AOper :=
  [.mk (some 6) (.mv (.const (.int .i64 1))) none []]
def l3r8 : List AOper :=
  [.mk (some 19) (.load true 2 (.tmp 4)) none [],.mk (some 20) (.mv (.tmp 6)) none [],.mk (some 21) (.call 8 [.tmp 19,.tmp 20]) none [0,1],.mk (some 6) (.mv (.tmp 21)) none [2,2,0,1,2]]
def l3r9 : List AOper :=
  [.mk (some 22) (.mv (.tmp 6)) none [],.mk (some 23) (.bin .lss (.tmp 22) (.const (.int .i64 0))) none [0]]
def l3r10 : List AOper :=
  [.mk (some 2) (.mv (.const (.bool false))) none []]
def l3r11 : List AOper :=
  [.mk (some 24) (.mv (.tmp 6)) none [],.mk (some 25) (.mv (.tmp 5)) none [],.mk (some 26) (.bin .neq (.tmp 24) (.tmp 25)) none [0,1]]
def l3r12 : List AOper :=
  [.mk (some 2) (.mv (.const (.bool false))) none []]
def l3r13 : List AOper :=
  [.mk (some 27) (.mv (.tmp 0)) none [],.mk (some 28) (.call 5 [.tmp 27]) none [0],.mk (some 7) (.alloc [.slice none 0 0,.slice none 0 0]) none [],.mk none (.store 2 (.tmp 7) (.tmp 28)) none [2,1,1,0,1,2]]
def l3r14 : List AOper :=
  [.mk (some 29) (.load true 2 (.tmp 7)) none [],.mk (some 30) (.load true 2 (.tmp 3)) none [],.mk (some 31) (.call 6 [.tmp 29,.tmp 30]) none [0,1],.mk (some 32) (.un .not (.tmp 31)) none [2]]
def l3r15 : List AOper :=
  [.mk (some 2) (.mv (.const (.bool false))) none []]
def l3r16 : List AOper :=
  [.mk (some 6) (.mv (.const (.int .i64 1))) none []]
def l3r17 : List AOper :=
  [.mk (some 33) (.load true 2 (.tmp 4)) none [],.mk (some 34) (.mv (.tmp 6)) none [],.mk (some 35) (.call 8 [.tmp 33,.tmp 34]) none [0,1],.mk (some 6) (.mv (.tmp 35)) none [2,2,0,1,2]]
def l3r18 : List AOper :=
  [.mk (some 36) (.mv (.tmp 6)) none [],.mk (some 37) (.bin .lss (.tmp 36) (.const (.int .i64 0))) none [0]]
def l3r19 : List AOper :=
  [.mk (some 2) (.mv (.const (.bool false))) none []]
def l3r20 : List AOper :=
  [.mk (some 38) (.mv (.tmp 6)) none [],.mk (some 39) (.mv (.tmp 5)) none [],.mk (some 40) (.bin .neq (.tmp 38) (.tmp 39)) none [0,1]]
def l3r21 : List AOper :=
  [.mk (some 2) (.mv (.const (.bool false))) none []]
def l3r22 : List AOper :=
  [.mk (some 2) (.mv (.const (.bool true))) none []]
def l3 : AFn :=
  (AFn.mk 41 1 (.seq (.reg l3r0) (.seq (.reg l3r1) (.seq (.reg l3r2) (.seq (.seq (.reg l3r3) (.cond (.tmp 15) (.seq (.reg l3r4) .ret) .skip)) (.seq (.reg l3r5) (.seq (.reg l3r6) (.seq (.reg l3r7) (.seq (.reg l3r8) (.seq (.seq (.reg l3r9) (.cond (.tmp 23) (.seq (.reg l3r10) .ret) .skip)) (.seq (.seq (.reg l3r11) (.cond (.tmp 26) (.seq (.reg l3r12) .ret) .skip)) (.seq (.reg l3r13) (.seq (.seq (.reg l3r14) (.cond (.tmp 32) (.seq (.reg l3r15) .ret) .skip)) (.seq (.reg l3r16) (.seq (.reg l3r17) (.seq (.seq (.reg l3r18) (.cond (.tmp 37) (.seq (.reg l3r19) .ret) .skip)) (.seq (.seq (.reg l3r20) (.cond (.tmp 40) (.seq (.reg l3r21) .ret) .skip)) (.seq (.reg l3r22) .ret))))))))))))))))) [.tmp 2])
theorem l3_eq : lowFn Try.prog 3 = some l3 := by kernel_rfl
def l4r0 : List AOper :=
  [.mk (some 2) (.alloc [.slice none 0 0,.slice none 0 0]) none []]
def l4r1 : List AOper :=
  [.mk (some 3) (.mv (.tmp 0)) none [],.mk (some 4) (.call 9 [.tmp 3,.const (.int .i64 0),.const (.int .i64 60)]) none [0],.mk (some 5) (.un .not (.tmp 4)) none [1]]
def l4r2 : List AOper :=
  [.mk (some 6) (.build [.slice none 0 0,.slice none 0 0] []) none [],.mk none (.store 2 (.tmp 2) (.tmp 6)) none [0,0]]
def l4r3 : List AOper :=
  [.mk (some 7) (.mv (.tmp 0)) none [],.mk (some 8) (.mkslice 1 [.int .i64 0] (.tmp 7) (.tmp 7)) none [0,0],.mk (some 9) (.build [.slice none 0 0,.slice none 0 0] [(0,1,.tmp 8)]) none [1],.mk none (.store 2 (.tmp 2) (.tmp 9)) none [2,0,1,2]]
def l4 : AFn :=
  (AFn.mk 10 1 (.seq (.reg l4r0) (.seq (.seq (.reg l4r1) (.cond (.tmp 5) (.seq (.reg l4r2) .ret) .skip)) (.seq (.reg l4r3) .ret))) [.cell 2 true 2])
theorem l4_eq : lowFn Try.prog 4 = some l4 := by kernel_rfl
def l5r0 : List AOper :=
  [.mk (some 2) (.alloc [.slice none 0 0,.slice none 0 0]) none []]
def l5r1 : List AOper :=
  [.mk (some 3) (.mv (.tmp 0)) none [],.mk (some 4) (.call 10 [.tmp 3]) none [0],.mk (some 5) (.un .not (.tmp 4)) none [1]]
def l5r2 : List AOper :=
  [.mk (some 6) (.build [.slice none 0 0,.slice none 0 0] []) none [],.mk none (.store 2 (.tmp 2) (.tmp 6)) none [0,0]]
def l5r3 : List AOper :=
  [.mk (some 7) (.mv (.tmp 0)) none [],.mk (some 8) (.mkslice 1 [.int .i64 0] (.tmp 7) (.tmp 7)) none [0,0],.mk (some 9) (.build [.slice none 0 0,.slice none 0 0] [(0,1,.tmp 8)]) none [1],.mk none (.store 2 (.tmp 2) (.tmp 9)) none [2,0,1,2]]
def l5 : AFn :=
  (AFn.mk 10 1 (.seq (.reg l5r0) (.seq (.seq (.reg l5r1) (.cond (.tmp 5) (.seq (.reg l5r2) .ret) .skip)) (.seq (.reg l5r3) .ret))) [.cell 2 true 2])
theorem l5_eq : lowFn Try.prog 5 = some l5 := by kernel_rfl
def l6r0 : List AOper :=
  [.mk (some 2) (.box (.tmp 0)) none [],.mk (some 3) (.box (.tmp 1)) none [],.mk (some 4) (.mv (.const (.bool false))) none []]
def l6r1 : List AOper :=
  [.mk (some 5) (.fld 0 (.tmp 2)) none [],.mk (some 6) (.load false 1 (.tmp 5)) none [0],.mk (some 7) (.fld 0 (.tmp 3)) none [],.mk (some 8) (.load false 1 (.tmp 7)) none [2],.mk (some 9) (.call 11 [.tmp 6,.tmp 8]) none [1,3],.mk (some 10) (.un .not (.tmp 9)) none [4]]
def l6r2 : List AOper :=
  [.mk (some 4) (.mv (.const (.bool false))) none []]
def l6r3 : List AOper :=
  [.mk (some 11) (.fld 1 (.tmp 2)) none [],.mk (some 12) (.load false 1 (.tmp 11)) none [0],.mk (some 13) (.fld 1 (.tmp 3)) none [],.mk (some 14) (.load false 1 (.tmp 13)) none [2],.mk (some 15) (.call 12 [.tmp 12,.tmp 14]) none [1,3],.mk (some 16) (.un .not (.tmp 15)) none [4]]
def l6r4 : List AOper :=
  [.mk (some 4) (.mv (.const (.bool false))) none []]
def l6r5 : List AOper :=
  [.mk (some 4) (.mv (.const (.bool true))) none []]
def l6 : AFn :=
  (AFn.mk 17 2 (.seq (.reg l6r0) (.seq (.seq (.reg l6r1) (.cond (.tmp 10) (.seq (.reg l6r2) .ret) .skip)) (.seq (.seq (.reg l6r3) (.cond (.tmp 16) (.seq (.reg l6r4) .ret) .skip)) (.seq (.reg l6r5) .ret)))) [.tmp 4])
theorem l6_eq : lowFn Try.prog 6 = some l6 := by kernel_rfl
def l7r0 : List AOper :=
  [.mk (some 2) (.box (.tmp 0)) none [],.mk (some 4) (.mv (.const (.int .i64 0))) none []]
def l7r1 : List AOper :=
  [.mk (some 5) (.fld 0 (.tmp 2)) none [],.mk (some 6) (.load false 1 (.tmp 5)) none [0],.mk (some 7) (.mv (.tmp 1)) none [],.mk (some 8) (.call 13 [.tmp 6,.tmp 7]) none [1,2],.mk (some 1) (.mv (.tmp 8)) none [3,3,0,1,2,3]]
def l7r2 : List AOper :=
  [.mk (some 9) (.fld 1 (.tmp 2)) none [],.mk (some 10) (.load false 1 (.tmp 9)) none [0],.mk (some 11) (.mv (.tmp 1)) none [],.mk (some 12) (.call 14 [.tmp 10,.tmp 11]) none [1,2],.mk (some 1) (.mv (.tmp 12)) none [3,3,0,1,2,3]]
def l7r3 : List AOper :=
  [.mk (some 13) (.mv (.tmp 1)) none [],.mk (some 4) (.mv (.tmp 13)) none [0,0]]
def l7 : AFn :=
  (AFn.mk 14 2 (.seq (.reg l7r0) (.seq (.reg l7r1) (.seq (.reg l7r2) (.seq (.reg l7r3) .ret)))) [.tmp 4])
theorem l7_eq : lowFn Try.prog 7 = some l7 := by kernel_rfl
def l8r0 : List AOper :=
  [.mk (some 2) (.box (.tmp 0)) none [],.mk (some 4) (.mv (.const (.int .i64 0))) none []]
def l8r1 : List AOper :=
  [.mk (some 5) (.fld 0 (.tmp 2)) none [],.mk (some 6) (.load false 1 (.tmp 5)) none [0],.mk (some 7) (.mv (.tmp 1)) none [],.mk (some 8) (.call 15 [.tmp 6,.tmp 7]) none [1,2],.mk (some 1) (.mv (.tmp 8)) none [3,3,0,1,2,3]]
def l8r2 : List AOper :=
  [.mk (some 9) (.mv (.tmp 1)) none [],.mk (some 10) (.bin .lss (.tmp 9) (.const (.int .i64 0))) none [0]]
def l8r3 : List AOper :=
  [.mk (some 4) (.mv (.const (.int .i64 (-1)))) none []]
def l8r4 : List AOper :=
  [.mk (some 11) (.fld 1 (.tmp 2)) none [],.mk (some 12) (.load false 1 (.tmp 11)) none [0],.mk (some 13) (.mv (.tmp 1)) none [],.mk (some 14) (.call 16 [.tmp 12,.tmp 13]) none [1,2],.mk (some 1) (.mv (.tmp 14)) none [3,3,0,1,2,3]]
def l8r5 : List AOper :=
  [.mk (some 15) (.mv (.tmp 1)) none [],.mk (some 16) (.bin .lss (.tmp 15) (.const (.int .i64 0))) none [0]]
def l8r6 : List AOper :=
  [.mk (some 4) (.mv (.const (.int .i64 (-1)))) none []]
def l8r7 : List AOper :=
  [.mk (some 17) (.mv (.tmp 1)) none [],.mk (some 4) (.mv (.tmp 17)) none [0,0]]
def l8 : AFn :=
  (AFn.mk 18 2 (.seq (.reg l8r0) (.seq (.reg l8r1) (.seq (.seq (.reg l8r2) (.cond (.tmp 10) (.seq (.reg l8r3) .ret) .skip)) (.seq (.reg l8r4) (.seq (.seq (.reg l8r5) (.cond (.tmp 16) (.seq (.reg l8r6) .ret) .skip)) (.seq (.reg l8r7) .ret)))))) [.tmp 4])
theorem l8_eq : lowFn Try.prog 8 = some l8 := by kernel_rfl
def l9r0 : List AOper :=
  [.mk (some 6) (.mv (.const (.bool false))) none []]
def l9r1 : List AOper :=
  [.mk (some 7) (.mv (.tmp 1)) none [],.mk (some 8) (.mv (.tmp 0)) none [],.mk (some 9) (.bin .leq (.tmp 7) (.tmp 8)) none [0,1],.mk (some 10) (.mv (.tmp 9)) none [2],.mk (some 11) (.mv (.tmp 0)) (some (10,true)) [3],.mk (some 12) (.mv (.tmp 2)) (some (10,true)) [3],.mk (some 13) (.bin .leq (.tmp 11) (.tmp 12)) (some (10,true)) [4,5,3],.mk (some 14) (.pick (.tmp 10) (.tmp 13) (.const (.bool false))) none [3,6],.mk (some 6) (.mv (.tmp 14)) none [7,3,0,1,2,3,4,5,6,7]]
def l9 : AFn :=
  (AFn.mk 15 3 (.seq (.reg l9r0) (.seq (.reg l9r1) .ret)) [.tmp 6])
theorem l9_eq : lowFn Try.prog 9 = some l9 := by kernel_rfl
def l10r0 : List AOper :=
  [.mk (some 2) (.mv (.const (.bool false))) none []]
def l10r1 : List AOper :=
  [.mk (some 3) (.mv (.tmp 0)) none [],.mk (some 4) (.bin .leq (.const (.int .i64 0)) (.tmp 3)) none [0],.mk (some 5) (.mv (.tmp 4)) none [1],.mk (some 6) (.mv (.tmp 0)) (some (5,true)) [2],.mk (some 7) (.bin .leq (.tmp 6) (.const (.int .i64 60))) (some (5,true)) [3,2],.mk (some 8) (.pick (.tmp 5) (.tmp 7) (.const (.bool false))) none [2,4],.mk (some 2) (.mv (.tmp 8)) none [5,2,0,1,2,3,4,5]]
def l10 : AFn :=
  (AFn.mk 9 1 (.seq (.reg l10r0) (.seq (.reg l10r1) .ret)) [.tmp 2])
theorem l10_eq : lowFn Try.prog 10 = some l10 := by kernel_rfl
def l11r0 : List AOper :=
  [.mk (some 4) (.mv (.const (.bool false))) none []]
def l11r1 : List AOper :=
  [.mk (some 6) (.mv (.tmp 0)) none [],.mk (some 7) (.len (.tmp 6)) none [0],.mk (some 8) (.mv (.tmp 1)) none [],.mk (some 9) (.len (.tmp 8)) none [2],.mk (some 10) (.bin .neq (.tmp 7) (.tmp 9)) none [1,3]]
def l11r2 : List AOper :=
  [.mk (some 4) (.mv (.const (.bool false))) none []]
def l11r3 : List AOper :=
  [.mk (some 5) (.mv (.const (.int .i64 0))) none []]
def l11r4 : List AOper :=
  [.mk (some 11) (.mv (.tmp 5)) none [],.mk (some 12) (.mv (.tmp 0)) none [],.mk (some 13) (.len (.tmp 12)) none [1],.mk (some 14) (.bin .lss (.tmp 11) (.tmp 13)) none [0,2]]
def l11r5a : List AOper :=
  [.mk (some 17) (.mv (.tmp 0)) none [],.mk (some 18) (.mv (.tmp 5)) none [],.mk (some 19) (.idxA 1 (.tmp 17) (.tmp 18)) none [0,1],.mk (some 20) (.load false 1 (.tmp 19)) none [2],.mk (some 21) (.mv (.tmp 1)) none [],.mk (some 22) (.mv (.tmp 5)) none [],.mk (some 23) (.idxA 1 (.tmp 21) (.tmp 22)) none [4,5],.mk (some 24) (.load false 1 (.tmp 23)) none [6]]
def l11r5b : List AOper :=
  [.mk (some 25) (.bin .neq (.tmp 20) (.tmp 24)) none [3,7]]
def l11r5 : List AOper := l11r5a ++ l11r5b
def l11r6 : List AOper :=
  [.mk (some 4) (.mv (.const (.bool false))) none []]
def l11r7 : List AOper :=
  [.mk (some 15) (.mv (.tmp 5)) none [],.mk (some 16) (.bin .add (.tmp 15) (.const (.int .i64 1))) none [0],.mk (some 5) (.mv (.tmp 16)) none [1,0,1]]
def l11r8 : List AOper :=
  [.mk (some 4) (.mv (.const (.bool true))) none []]
def l11 : AFn :=
  (AFn.mk 26 2 (.seq (.reg l11r0) (.seq (.seq (.reg l11r1) (.cond (.tmp 10) (.seq (.reg l11r2) .ret) .skip)) (.seq (.seq (.reg l11r3) (.block 0 (.loop (.seq (.seq (.reg l11r4) (.cond (.tmp 14) .skip (.exit 0))) (.seq (.block 1 (.seq (.draw l11r5) (.cond (.tmp 25) (.seq (.reg l11r6) .ret) .skip))) (.reg l11r7)))))) (.seq (.reg l11r8) .ret)))) [.tmp 4])
theorem l11_eq : lowFn Try.prog 11 = some l11 := by kernel_rfl
def l12r0 : List AOper :=
  [.mk (some 4) (.mv (.const (.bool false))) none []]
def l12r1 : List AOper :=
  [.mk (some 6) (.mv (.tmp 0)) none [],.mk (some 7) (.len (.tmp 6)) none [0],.mk (some 8) (.mv (.tmp 1)) none [],.mk (some 9) (.len (.tmp 8)) none [2],.mk (some 10) (.bin .neq (.tmp 7) (.tmp 9)) none [1,3]]
def l12r2 : List AOper :=
  [.mk (some 4) (.mv (.const (.bool false))) none []]
def l12r3 : List AOper :=
  [.mk (some 5) (.mv (.const (.int .i64 0))) none []]
def l12r4 : List AOper :=
  [.mk (some 11) (.mv (.tmp 5)) none [],.mk (some 12) (.mv (.tmp 0)) none [],.mk (some 13) (.len (.tmp 12)) none [1],.mk (some 14) (.bin .lss (.tmp 11) (.tmp 13)) none [0,2]]
def l12r5a : List AOper :=
  [.mk (some 17) (.mv (.tmp 0)) none [],.mk (some 18) (.mv (.tmp 5)) none [],.mk (some 19) (.idxA 5 (.tmp 17) (.tmp 18)) none [0,1],.mk (some 20) (.load true 5 (.tmp 19)) none [2],.mk (some 21) (.mv (.tmp 1)) none [],.mk (some 22) (.mv (.tmp 5)) none [],.mk (some 23) (.idxA 5 (.tmp 21) (.tmp 22)) none [4,5],.mk (some 24) (.load true 5 (.tmp 23)) none [6]]
def l12r5b : List AOper :=
  [.mk (some 25) (.call 17 [.tmp 20,.tmp 24]) none [3,7],.mk (some 26) (.un .not (.tmp 25)) none [8]]
def l12r5 : List AOper := l12r5a ++ l12r5b
def l12r6 : List AOper :=
  [.mk (some 4) (.mv (.const (.bool false))) none []]
def l12r7 : List AOper :=
  [.mk (some 15) (.mv (.tmp 5)) none [],.mk (some 16) (.bin .add (.tmp 15) (.const (.int .i64 1))) none [0],.mk (some 5) (.mv (.tmp 16)) none [1,0,1]]
def l12r8 : List AOper :=
  [.mk (some 4) (.mv (.const (.bool true))) none []]
def l12 : AFn :=
  (AFn.mk 27 2 (.seq (.reg l12r0) (.seq (.seq (.reg l12r1) (.cond (.tmp 10) (.seq (.reg l12r2) .ret) .skip)) (.seq (.seq (.reg l12r3) (.block 0 (.loop (.seq (.seq (.reg l12r4) (.cond (.tmp 14) .skip (.exit 0))) (.seq (.block 1 (.seq (.draw l12r5) (.cond (.tmp 26) (.seq (.reg l12r6) .ret) .skip))) (.reg l12r7)))))) (.seq (.reg l12r8) .ret)))) [.tmp 4])
theorem l12_eq : lowFn Try.prog 12 = some l12 := by kernel_rfl
def l13r0 : List AOper :=
  [.mk (some 4) (.mv (.const (.int .i64 0))) none []]
def l13r1 : List AOper :=
  [.mk (some 5) (.mv (.const (.int .i64 0))) none []]
def l13r2 : List AOper :=
  [.mk (some 6) (.mv (.tmp 5)) none [],.mk (some 7) (.mv (.tmp 0)) none [],.mk (some 8) (.len (.tmp 7)) none [1],.mk (some 9) (.bin .lss (.tmp 6) (.tmp 8)) none [0,2]]
def l13r3 : List AOper :=
  [.mk (some 12) (.mv (.tmp 0)) none [],.mk (some 13) (.mv (.tmp 5)) none [],.mk (some 14) (.mv (.tmp 1)) none [],.mk (some 15) (.idxA 1 (.tmp 12) (.tmp 13)) none [0,1,0,1,2],.mk none (.store 1 (.tmp 15) (.tmp 14)) none [3,2,0,1,2]]
def l13r4 : List AOper :=
  [.mk (some 16) (.mv (.tmp 1)) none [],.mk (some 17) (.bin .add (.tmp 16) (.const (.int .i64 1))) none [0],.mk (some 1) (.mv (.tmp 17)) none [1,0,1]]
def l13r5 : List AOper :=
  [.mk (some 10) (.mv (.tmp 5)) none [],.mk (some 11) (.bin .add (.tmp 10) (.const (.int .i64 1))) none [0],.mk (some 5) (.mv (.tmp 11)) none [1,0,1]]
def l13r6 : List AOper :=
  [.mk (some 18) (.mv (.tmp 1)) none [],.mk (some 4) (.mv (.tmp 18)) none [0,0]]
def l13 : AFn :=
  (AFn.mk 19 2 (.seq (.reg l13r0) (.seq (.seq (.reg l13r1) (.block 0 (.loop (.seq (.seq (.reg l13r2) (.cond (.tmp 9) .skip (.exit 0))) (.seq (.block 1 (.seq (.reg l13r3) (.reg l13r4))) (.reg l13r5)))))) (.seq (.reg l13r6) .ret))) [.tmp 4])
theorem l13_eq : lowFn Try.prog 13 = some l13 := by kernel_rfl
def l14r0 : List AOper :=
  [.mk (some 4) (.mv (.const (.int .i64 0))) none []]
def l14r1 : List AOper :=
  [.mk (some 5) (.mv (.const (.int .i64 0))) none []]
def l14r2 : List AOper :=
  [.mk (some 6) (.mv (.tmp 5)) none [],.mk (some 7) (.mv (.tmp 0)) none [],.mk (some 8) (.len (.tmp 7)) none [1],.mk (some 9) (.bin .lss (.tmp 6) (.tmp 8)) none [0,2]]
def l14r3 : List AOper :=
  [.mk (some 12) (.mv (.tmp 0)) none [],.mk (some 13) (.mv (.tmp 5)) none [],.mk (some 14) (.mv (.tmp 1)) none [],.mk (some 15) (.idxA 5 (.tmp 12) (.tmp 13)) none [0,1,0,1,2],.mk (some 16) (.fld 0 (.tmp 15)) none [3,0,1,2],.mk none (.store 1 (.tmp 16) (.tmp 14)) none [4,2,0,1,2]]
def l14r4 : List AOper :=
  [.mk (some 17) (.mv (.tmp 1)) none [],.mk (some 18) (.bin .add (.tmp 17) (.const (.int .i64 1))) none [0],.mk (some 1) (.mv (.tmp 18)) none [1,0,1]]
def l14r5 : List AOper :=
  [.mk (some 19) (.mv (.tmp 0)) none [],.mk (some 20) (.mv (.tmp 5)) none [],.mk (some 21) (.mv (.tmp 1)) none [],.mk (some 22) (.idxA 5 (.tmp 19) (.tmp 20)) none [0,1,0,1,2],.mk (some 23) (.fld 1 (.tmp 22)) none [3,0,1,2],.mk (some 24) (.fld 0 (.tmp 23)) none [4,0,1,2],.mk none (.store 1 (.tmp 24) (.tmp 21)) none [5,2,0,1,2]]
def l14r6 : List AOper :=
  [.mk (some 25) (.mv (.tmp 1)) none [],.mk (some 26) (.bin .add (.tmp 25) (.const (.int .i64 1))) none [0],.mk (some 1) (.mv (.tmp 26)) none [1,0,1]]
def l14r7 : List AOper :=
  [.mk (some 27) (.mv (.tmp 0)) none [],.mk (some 28) (.mv (.tmp 5)) none [],.mk (some 29) (.idxA 5 (.tmp 27) (.tmp 28)) none [0,1],.mk (some 30) (.fld 1 (.tmp 29)) none [2],.mk (some 31) (.fld 1 (.tmp 30)) none [3],.mk (some 32) (.load false 1 (.tmp 31)) none [4],.mk (some 33) (.mv (.tmp 1)) none [],.mk (some 34) (.call 13 [.tmp 32,.tmp 33]) none [5,6],.mk (some 1) (.mv (.tmp 34)) none [7,7,0,1,2,3,4,5,6,7]]
def l14r8 : List AOper :=
  [.mk (some 35) (.mv (.tmp 0)) none [],.mk (some 36) (.mv (.tmp 5)) none [],.mk (some 37) (.idxA 5 (.tmp 35) (.tmp 36)) none [0,1],.mk (some 38) (.fld 1 (.tmp 37)) none [2],.mk (some 39) (.fld 2 (.tmp 38)) none [3],.mk (some 40) (.load false 1 (.tmp 39)) none [4],.mk (some 41) (.mv (.tmp 1)) none [],.mk (some 42) (.call 13 [.tmp 40,.tmp 41]) none [5,6],.mk (some 1) (.mv (.tmp 42)) none [7,7,0,1,2,3,4,5,6,7]]
def l14r9 : List AOper :=
  [.mk (some 43) (.mv (.tmp 0)) none [],.mk (some 44) (.mv (.tmp 5)) none [],.mk (some 45) (.mv (.tmp 1)) none [],.mk (some 46) (.bin .rem (.tmp 45) (.const (.int .i64 3))) none [2],.mk (some 47) (.bin .eql (.tmp 46) (.const (.int .i64 0))) none [3],.mk (some 48) (.idxA 5 (.tmp 43) (.tmp 44)) none [0,1,0,1,2,3,4],.mk (some 49) (.fld 4 (.tmp 48)) none [5,0,1,2,3,4],.mk none (.store 1 (.tmp 49) (.tmp 47)) none [6,4,0,1,2,3,4]]
def l14r10 : List AOper :=
  [.mk (some 50) (.mv (.tmp 1)) none [],.mk (some 51) (.bin .add (.tmp 50) (.const (.int .i64 1))) none [0],.mk (some 1) (.mv (.tmp 51)) none [1,0,1]]
def l14r11 : List AOper :=
  [.mk (some 10) (.mv (.tmp 5)) none [],.mk (some 11) (.bin .add (.tmp 10) (.const (.int .i64 1))) none [0],.mk (some 5) (.mv (.tmp 11)) none [1,0,1]]
def l14r12 : List AOper :=
  [.mk (some 52) (.mv (.tmp 1)) none [],.mk (some 4) (.mv (.tmp 52)) none [0,0]]
def l14 : AFn :=
  (AFn.mk 53 2 (.seq (.reg l14r0) (.seq (.seq (.reg l14r1) (.block 0 (.loop (.seq (.seq (.reg l14r2) (.cond (.tmp 9) .skip (.exit 0))) (.seq (.block 1 (.seq (.reg l14r3) (.seq (.reg l14r4) (.seq (.reg l14r5) (.seq (.reg l14r6) (.seq (.reg l14r7) (.seq (.reg l14r8) (.seq (.reg l14r9) (.reg l14r10))))))))) (.reg l14r11)))))) (.seq (.reg l14r12) .ret))) [.tmp 4])
theorem l14_eq : lowFn Try.prog 14 = some l14 := by kernel_rfl
def l15r0 : List AOper :=
  [.mk (some 4) (.mv (.const (.int .i64 0))) none []]
def l15r1 : List AOper :=
  [.mk (some 5) (.mv (.const (.int .i64 0))) none []]
def l15r2 : List AOper :=
  [.mk (some 6) (.mv (.tmp 5)) none [],.mk (some 7) (.mv (.tmp 0)) none [],.mk (some 8) (.len (.tmp 7)) none [1],.mk (some 9) (.bin .lss (.tmp 6) (.tmp 8)) none [0,2]]
def l15r3 : List AOper :=
  [.mk (some 12) (.mv (.tmp 0)) none [],.mk (some 13) (.mv (.tmp 5)) none [],.mk (some 14) (.idxA 1 (.tmp 12) (.tmp 13)) none [0,1],.mk (some 15) (.load false 1 (.tmp 14)) none [2],.mk (some 16) (.mv (.tmp 1)) none [],.mk (some 17) (.bin .neq (.tmp 15) (.tmp 16)) none [3,4]]
def l15r4 : List AOper :=
  [.mk (some 4) (.mv (.const (.int .i64 (-1)))) none []]
def l15r5 : List AOper :=
  [.mk (some 18) (.mv (.tmp 1)) none [],.mk (some 19) (.bin .add (.tmp 18) (.const (.int .i64 1))) none [0],.mk (some 1) (.mv (.tmp 19)) none [1,0,1]]
def l15r6 : List AOper :=
  [.mk (some 10) (.mv (.tmp 5)) none [],.mk (some 11) (.bin .add (.tmp 10) (.const (.int .i64 1))) none [0],.mk (some 5) (.mv (.tmp 11)) none [1,0,1]]
def l15r7 : List AOper :=
  [.mk (some 20) (.mv (.tmp 1)) none [],.mk (some 4) (.mv (.tmp 20)) none [0,0]]
def l15 : AFn :=
  (AFn.mk 21 2 (.seq (.reg l15r0) (.seq (.seq (.reg l15r1) (.block 0 (.loop (.seq (.seq (.reg l15r2) (.cond (.tmp 9) .skip (.exit 0))) (.seq (.block 1 (.seq (.seq (.reg l15r3) (.cond (.tmp 17) (.seq (.reg l15r4) .ret) .skip)) (.reg l15r5))) (.reg l15r6)))))) (.seq (.reg l15r7) .ret))) [.tmp 4])
theorem l15_eq : lowFn Try.prog 15 = some l15 := by kernel_rfl
def l16r0 : List AOper :=
  [.mk (some 4) (.mv (.const (.int .i64 0))) none []]
def l16r1 : List AOper :=
  [.mk (some 5) (.mv (.const (.int .i64 0))) none []]
def l16r2 : List AOper :=
  [.mk (some 6) (.mv (.tmp 5)) none [],.mk (some 7) (.mv (.tmp 0)) none [],.mk (some 8) (.len (.tmp 7)) none [1],.mk (some 9) (.bin .lss (.tmp 6) (.tmp 8)) none [0,2]]
def l16r3 : List AOper :=
  [.mk (some 12) (.mv (.tmp 0)) none [],.mk (some 13) (.mv (.tmp 5)) none [],.mk (some 14) (.idxA 5 (.tmp 12) (.tmp 13)) none [0,1],.mk (some 15) (.fld 0 (.tmp 14)) none [2],.mk (some 16) (.load false 1 (.tmp 15)) none [3],.mk (some 17) (.mv (.tmp 1)) none [],.mk (some 18) (.bin .neq (.tmp 16) (.tmp 17)) none [4,5]]
def l16r4 : List AOper :=
  [.mk (some 4) (.mv (.const (.int .i64 (-1)))) none []]
def l16r5 : List AOper :=
  [.mk (some 19) (.mv (.tmp 1)) none [],.mk (some 20) (.bin .add (.tmp 19) (.const (.int .i64 1))) none [0],.mk (some 1) (.mv (.tmp 20)) none [1,0,1]]
def l16r6 : List AOper :=
  [.mk (some 21) (.mv (.tmp 0)) none [],.mk (some 22) (.mv (.tmp 5)) none [],.mk (some 23) (.idxA 5 (.tmp 21) (.tmp 22)) none [0,1],.mk (some 24) (.fld 1 (.tmp 23)) none [2],.mk (some 25) (.fld 0 (.tmp 24)) none [3],.mk (some 26) (.load false 1 (.tmp 25)) none [4],.mk (some 27) (.mv (.tmp 1)) none [],.mk (some 28) (.bin .neq (.tmp 26) (.tmp 27)) none [5,6]]
def l16r7 : List AOper :=
  [.mk (some 4) (.mv (.const (.int .i64 (-1)))) none []]
def l16r8 : List AOper :=
  [.mk (some 29) (.mv (.tmp 1)) none [],.mk (some 30) (.bin .add (.tmp 29) (.const (.int .i64 1))) none [0],.mk (some 1) (.mv (.tmp 30)) none [1,0,1]]
def l16r9 : List AOper :=
  [.mk (some 31) (.mv (.tmp 0)) none [],.mk (some 32) (.mv (.tmp 5)) none [],.mk (some 33) (.idxA 5 (.tmp 31) (.tmp 32)) none [0,1],.mk (some 34) (.fld 1 (.tmp 33)) none [2],.mk (some 35) (.fld 1 (.tmp 34)) none [3],.mk (some 36) (.load false 1 (.tmp 35)) none [4],.mk (some 37) (.mv (.tmp 1)) none [],.mk (some 38) (.call 15 [.tmp 36,.tmp 37]) none [5,6],.mk (some 1) (.mv (.tmp 38)) none [7,7,0,1,2,3,4,5,6,7]]
def l16r10 : List AOper :=
  [.mk (some 39) (.mv (.tmp 1)) none [],.mk (some 40) (.bin .lss (.tmp 39) (.const (.int .i64 0))) none [0]]
def l16r11 : List AOper :=
  [.mk (some 4) (.mv (.const (.int .i64 (-1)))) none []]
def l16r12 : List AOper :=
  [.mk (some 41) (.mv (.tmp 0)) none [],.mk (some 42) (.mv (.tmp 5)) none [],.mk (some 43) (.idxA 5 (.tmp 41) (.tmp 42)) none [0,1],.mk (some 44) (.fld 1 (.tmp 43)) none [2],.mk (some 45) (.fld 2 (.tmp 44)) none [3],.mk (some 46) (.load false 1 (.tmp 45)) none [4],.mk (some 47) (.mv (.tmp 1)) none [],.mk (some 48) (.call 15 [.tmp 46,.tmp 47]) none [5,6],.mk (some 1) (.mv (.tmp 48)) none [7,7,0,1,2,3,4,5,6,7]]
def l16r13 : List AOper :=
  [.mk (some 49) (.mv (.tmp 1)) none [],.mk (some 50) (.bin .lss (.tmp 49) (.const (.int .i64 0))) none [0]]
def l16r14 : List AOper :=
  [.mk (some 4) (.mv (.const (.int .i64 (-1)))) none []]
def l16r15 : List AOper :=
  [.mk (some 51) (.mv (.tmp 0)) none [],.mk (some 52) (.mv (.tmp 5)) none [],.mk (some 53) (.idxA 5 (.tmp 51) (.tmp 52)) none [0,1],.mk (some 54) (.fld 4 (.tmp 53)) none [2],.mk (some 55) (.load false 1 (.tmp 54)) none [3],.mk (some 56) (.mv (.tmp 1)) none [],.mk (some 57) (.bin .rem (.tmp 56) (.const (.int .i64 3))) none [5],.mk (some 58) (.bin .eql (.tmp 57) (.const (.int .i64 0))) none [6],.mk (some 59) (.binB .neq (.tmp 55) (.tmp 58)) none [4,7]]
def l16r16 : List AOper :=
  [.mk (some 4) (.mv (.const (.int .i64 (-1)))) none []]
def l16r17 : List AOper :=
  [.mk (some 60) (.mv (.tmp 1)) none [],.mk (some 61) (.bin .add (.tmp 60) (.const (.int .i64 1))) none [0],.mk (some 1) (.mv (.tmp 61)) none [1,0,1]]
def l16r18 : List AOper :=
  [.mk (some 10) (.mv (.tmp 5)) none [],.mk (some 11) (.bin .add (.tmp 10) (.const (.int .i64 1))) none [0],.mk (some 5) (.mv (.tmp 11)) none [1,0,1]]
def l16r19 : List AOper :=
  [.mk (some 62) (.mv (.tmp 1)) none [],.mk (some 4) (.mv (.tmp 62)) none [0,0]]
def l16 : AFn :=
  (AFn.mk 63 2 (.seq (.reg l16r0) (.seq (.seq (.reg l16r1) (.block 0 (.loop (.seq (.seq (.reg l16r2) (.cond (.tmp 9) .skip (.exit 0))) (.seq (.block 1 (.seq (.seq (.reg l16r3) (.cond (.tmp 18) (.seq (.reg l16r4) .ret) .skip)) (.seq (.reg l16r5) (.seq (.seq (.reg l16r6) (.cond (.tmp 28) (.seq (.reg l16r7) .ret) .skip)) (.seq (.reg l16r8) (.seq (.reg l16r9) (.seq (.seq (.reg l16r10) (.cond (.tmp 40) (.seq (.reg l16r11) .ret) .skip)) (.seq (.reg l16r12) (.seq (.seq (.reg l16r13) (.cond (.tmp 50) (.seq (.reg l16r14) .ret) .skip)) (.seq (.seq (.reg l16r15) (.cond (.tmp 59) (.seq (.reg l16r16) .ret) .skip)) (.reg l16r17))))))))))) (.reg l16r18)))))) (.seq (.reg l16r19) .ret))) [.tmp 4])
theorem l16_eq : lowFn Try.prog 16 = some l16 := by kernel_rfl
def l17r0 : List AOper :=
  [.mk (some 2) (.box (.tmp 0)) none [],.mk (some 3) (.box (.tmp 1)) none [],.mk (some 4) (.mv (.const (.bool false))) none []]
def l17r1 : List AOper :=
  [.mk (some 5) (.fld 0 (.tmp 2)) none [],.mk (some 6) (.load false 1 (.tmp 5)) none [0],.mk (some 7) (.fld 0 (.tmp 3)) none [],.mk (some 8) (.load false 1 (.tmp 7)) none [2],.mk (some 9) (.bin .neq (.tmp 6) (.tmp 8)) none [1,3]]
def l17r2 : List AOper :=
  [.mk (some 4) (.mv (.const (.bool false))) none []]
def l17r3 : List AOper :=
  [.mk (some 10) (.fld 1 (.tmp 2)) none [],.mk (some 11) (.load true 3 (.tmp 10)) none [0],.mk (some 12) (.fld 1 (.tmp 3)) none [],.mk (some 13) (.load true 3 (.tmp 12)) none [2],.mk (some 14) (.call 18 [.tmp 11,.tmp 13]) none [1,3],.mk (some 15) (.un .not (.tmp 14)) none [4]]
def l17r4 : List AOper :=
  [.mk (some 4) (.mv (.const (.bool false))) none []]
def l17r5 : List AOper :=
  [.mk (some 16) (.fld 4 (.tmp 2)) none [],.mk (some 17) (.load false 1 (.tmp 16)) none [0],.mk (some 18) (.fld 4 (.tmp 3)) none [],.mk (some 19) (.load false 1 (.tmp 18)) none [2],.mk (some 20) (.binB .neq (.tmp 17) (.tmp 19)) none [1,3]]
def l17r6 : List AOper :=
  [.mk (some 4) (.mv (.const (.bool false))) none []]
def l17r7 : List AOper :=
  [.mk (some 4) (.mv (.const (.bool true))) none []]
def l17 : AFn :=
  (AFn.mk 21 2 (.seq (.reg l17r0) (.seq (.seq (.reg l17r1) (.cond (.tmp 9) (.seq (.reg l17r2) .ret) .skip)) (.seq (.seq (.reg l17r3) (.cond (.tmp 15) (.seq (.reg l17r4) .ret) .skip)) (.seq (.seq (.reg l17r5) (.cond (.tmp 20) (.seq (.reg l17r6) .ret) .skip)) (.seq (.reg l17r7) .ret))))) [.tmp 4])
theorem l17_eq : lowFn Try.prog 17 = some l17 := by kernel_rfl
def l18r0 : List AOper :=
  [.mk (some 2) (.box (.tmp 0)) none [],.mk (some 3) (.box (.tmp 1)) none [],.mk (some 4) (.mv (.const (.bool false))) none []]
def l18r1 : List AOper :=
  [.mk (some 5) (.fld 0 (.tmp 2)) none [],.mk (some 6) (.load false 1 (.tmp 5)) none [0],.mk (some 7) (.fld 0 (.tmp 3)) none [],.mk (some 8) (.load false 1 (.tmp 7)) none [2],.mk (some 9) (.bin .neq (.tmp 6) (.tmp 8)) none [1,3]]
def l18r2 : List AOper :=
  [.mk (some 4) (.mv (.const (.bool false))) none []]
def l18r3 : List AOper :=
  [.mk (some 10) (.fld 1 (.tmp 2)) none [],.mk (some 11) (.load false 1 (.tmp 10)) none [0],.mk (some 12) (.fld 1 (.tmp 3)) none [],.mk (some 13) (.load false 1 (.tmp 12)) none [2],.mk (some 14) (.call 11 [.tmp 11,.tmp 13]) none [1,3],.mk (some 15) (.un .not (.tmp 14)) none [4]]
def l18r4 : List AOper :=
  [.mk (some 4) (.mv (.const (.bool false))) none []]
def l18r5 : List AOper :=
  [.mk (some 16) (.fld 2 (.tmp 2)) none [],.mk (some 17) (.load false 1 (.tmp 16)) none [0],.mk (some 18) (.fld 2 (.tmp 3)) none [],.mk (some 19) (.load false 1 (.tmp 18)) none [2],.mk (some 20) (.call 11 [.tmp 17,.tmp 19]) none [1,3],.mk (some 21) (.un .not (.tmp 20)) none [4]]
def l18r6 : List AOper :=
  [.mk (some 4) (.mv (.const (.bool false))) none []]
def l18r7 : List AOper :=
  [.mk (some 4) (.mv (.const (.bool true))) none []]
def l18 : AFn :=
  (AFn.mk 22 2 (.seq (.reg l18r0) (.seq (.seq (.reg l18r1) (.cond (.tmp 9) (.seq (.reg l18r2) .ret) .skip)) (.seq (.seq (.reg l18r3) (.cond (.tmp 15) (.seq (.reg l18r4) .ret) .skip)) (.seq (.seq (.reg l18r5) (.cond (.tmp 21) (.seq (.reg l18r6) .ret) .skip)) (.seq (.reg l18r7) .ret))))) [.tmp 4])
theorem l18_eq : lowFn Try.prog 18 = some l18 := by kernel_rfl
end Go.Proofs.Ytmdocjjciedohaa
